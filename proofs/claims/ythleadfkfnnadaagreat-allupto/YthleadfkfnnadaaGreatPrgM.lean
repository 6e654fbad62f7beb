/- The program within a machine: its rows, its links; Line, Declaration, Param, IsVariable, IsArray, IsStop. -/
import Derived.Test.YthleadfkfnnadaaGreatNames0
set_option maxHeartbeats 4000000
set_option maxRecDepth 100000
set_option linter.all false
namespace Go.Proofs.YthleadfkfnnadaaGreat
open Value renaming int->J,slice->I,string->O,pointer->H,bool->A,agg->L,tuple->E
open IntKind renaming i64->U
open Option renaming none->Z,some->Q
open Bool renaming false->W,true->D
open List renaming length->G
open Ending renaming returned->T
open Obj renaming cells->V
open Rt Go.Proofs.Tryz
open Go.RowKit
variable {b:Bool} {x s:Ia} {r:Int} {cs:List (List Value)} {l:Ib} {zL:List Rt.PL} {B N P k cap c1 c2 c3:Nat} {ad a1 a2 a3:Option Addr} {lk:Qw} {fm:Rt.qS} {pl:Rt.PL} {lv:Value} {w w':World}
def FormPV (B:Nat) (fm:Rt.qS) (w:World) (e:Ending) (w':World):Prop:=∃fv,e=T (L fv)/\qk w' B fv fm/\Below w.heap.size w w'
theorem Vc {v:Array Value} {cs:Array Value} (h:qk w B v fm) (A:w.heap[N]?=Q (V cs 143 (0,0))) (a b c d e f:Value):qk (W6 w N a b c d e f) B v fm:=by
 have i:∀(t:TypeId) (size n:Nat) (v:Value) (xs:List Value),t≠143->w.ownsRow B t size v n xs->(W6 w N a b c d e f).ownsRow B t size v n xs:=by
  intro t size n v xs z hv;refine ZU hv ?_ _ _ _ _ _ _;intro g hg e;subst e;rcases hv.2 with⟨j,_⟩| ⟨g',_,cur,j,_,hh,_⟩
  ·rw[j]at hg;cases hg
  ·rw[j]at hg;simp[Value.ownBlock]at hg;subst hg;rw[A]at hh;simp at hh;exact z hh.2.symm
 obtain⟨y,iv,vv,k,rfl,H,G,F,D⟩:=h;exact⟨y,iv,vv,k,rfl,i _ _ _ _ _ (by decide) H,i _ _ _ _ _ (by decide) G,i _ _ _ _ _ (by decide) F,qi.map (fun x o hh=>i _ _ _ _ _ (by decide) hh) _ _ D⟩
theorem VA (R:Option Addr) (M N:Nat) (j:Int) (f:Ia) (D:Int) (H:Option Addr) (i A:Nat) (G:Option Addr) (n2 z:Nat) (F:Option Addr) (h k:Nat) (d o x y p:Int) (w:World):(Instr.field 145 (L #[I R M N,J U j,O f,J U D,I H i A,I G n2 z,I F h k,J U d,J U o,J U x,J U y,J U p]) 1).run Tryz.prog w=.ok (L #[J U j,O f,J U D,I H i A,I G n2 z,I F h k]) w:=by kernel_rfl
theorem Hy (x:Ia) (h:Hg w P B zL lv cs) (j:G zL<=101):Calls Tryz.prog 128 #[H (Q ⟨P,0,Z⟩),O x] w (FormPV B (Rt.yJ zL x) w):=by
 have o:=(zI w.heap.size w).alloc (zB _) (V yo 143);have N:=h.zP o;have y:=zN w (V yo 143);go_enter func128,ntmps128;go_wp2_with fail;refine(G3 x N j).mono ?_;rintro e w1 ⟨rfl,rfl⟩;go_wp2_with fail;refine(Line_v _ N).mono ?_;rintro e w2 ⟨M,F,D,A,z,cap1,f,d,T,R,rfl,_,k,i⟩;rw[Zk]at k ⊢;generalize (yM zL (Rt.xb zL x)).depth=dp at *;generalize (yM zL (Rt.xb zL x)).opener=opn at *;generalize (yM zL (Rt.xb zL x)).proc=pr at *;generalize (yM zL (Rt.xb zL x)).yY.length=tl at *;obtain⟨c0,c1,c2,c3,c4,c5,f0,f1,f2,f3,f4,f5⟩:=YD (zU y i);have HV:=zD (Vc k (zU y i));have HB:=zD (o.trans (i.mono (B':=w.heap.size) (by simp)));have W:=VA M tl z (Rt.yA zL (Rt.xb zL x)).kind (Rt.yA zL (Rt.xb zL x)).name (Rt.yA zL (Rt.xb zL x)).cells F (Rt.yA zL (Rt.xb zL x)).params.length cap1 D (Rt.yA zL (Rt.xb zL x)).index.length f A (Rt.yA zL (Rt.xb zL x)).values.length d dp opn T R pr;go_wp2_with fail;refine zT (v:=L #[J U (Rt.yA zL (Rt.xb zL x)).kind,O (Rt.yA zL (Rt.xb zL x)).name,J U (Rt.yA zL (Rt.xb zL x)).cells,I F (Rt.yA zL (Rt.xb zL x)).params.length cap1,I D (Rt.yA zL (Rt.xb zL x)).index.length f,I A (Rt.yA zL (Rt.xb zL x)).values.length d]) ?_ rfl ⟨_,rfl,HV.u _ _ _ _ _ _,YI HB.u (zB _) _ _ _ _ _ _⟩;simp[results,results128,go_sem,c0,c1,c2,c3,c4,c5]
theorem uq (a b c:Value) (d:Option Addr) (n k:Nat) (e f:Value) (w:World):(Instr.field 143 (L #[a,b,c,I d n k,e,f]) 3).run Tryz.prog w=.ok (I d n k) w:=by kernel_rfl
theorem eX (x:Int) (b c d e f:Value) (w:World):(Instr.field 143 (L #[J U x,b,c,d,e,f]) 0).run Tryz.prog w=.ok (J U x) w:=by kernel_rfl
namespace Rt
def parFrom:Nat->Ib->Ia->Int
 | _,[],_=>-1
 | i,y::r,x=>if y=x then (i:Int)else parFrom (i+1) r x
def YW (zL:List PL) (proc:Int) (x:Ia):Int:=parFrom 0 (yA zL proc).params x
theorem dZ:∀(l:Ib) (i:Nat) (x:Ia),(l.any (fun y=>decide (y=x))=D/\0<=parFrom i l x)\/(l.any (fun y=>decide (y=x))=W/\parFrom i l x=-1)
 | [],i,x=>Or.inr ⟨rfl,rfl⟩
 | y::r,i,x=>by
  rw[parFrom,vw];by_cases h:y=x
  ·rw[zE h];exact Or.inl ⟨by simp[h],by omega⟩
  ·rw[zA h];rcases dZ r (i+1) x with⟨h1,h2⟩| ⟨h1,h2⟩
   ·exact Or.inl ⟨by simp[h1],h2⟩
   ·exact Or.inr ⟨by simp[h1,h],h2⟩
theorem lN (zL:List PL) (d:Int) (x:Ia):(VS zL d x=D/\0<=YW zL d x)\/(VS zL d x=W/\YW zL d x=-1):=dZ _ _ _
theorem dX (h:parFrom k (l.drop k) x=r) (f:k < G l) (d:l[k]=x):r=k:=by
 rw[zZ f,parFrom,zE d]at h;exact h.symm
theorem aU (h:parFrom k (l.drop k) x=r) (f:k < G l) (d:¬l[k]=x):parFrom (k+1) (l.drop (k+1)) x=r:=by
 rw[zZ f,parFrom,zA d]at h;exact h
theorem dY (h:parFrom k (l.drop k) x=r) (d:¬k < G l):r=-1:=by
 rw[zp (by omega),parFrom]at h;exact h.symm
end Rt
theorem Param_v (n:Int) (x:Ia) (h:Hg w P B zL lv cs) (a0:(Rt.yA zL n).params.length<=1000):Calls Tryz.prog 191 #[H (Q ⟨P,0,Z⟩),J U n,O x] w fun e w'=>e=T (J U (YW zL n x))/\Below w.heap.size w w':=by
 go_enter func191,ntmps191;go_wp2_with fail;refine(Line_v _ h).mono ?_;rintro e w2 ⟨R,y,L,F,D,cap1,f,d,xe,xf,rfl,_,z,A⟩;rw[Zk]at z ⊢;generalize (yM zL n).depth=dp at *;generalize (yM zL n).opener=opn at *;generalize (yM zL n).proc=pr at *;generalize (yM zL n).yY.length=tl at *;obtain⟨pv,iv,vv,vs,o,b1,b2,b3,_⟩:=z;have N:pv=I y (Rt.yA zL n).params.length cap1:=by simp at o;exact o.1.symm
 subst N;have HB:=zD A;have HO:=zD b1;have HI:=zD (show YW zL n x=Rt.parFrom 0 (Rt.yA zL n).params x from rfl);clear h A b1 b2 b3 o;generalize (Rt.yA zL n)=fm at *;have a3:=VA R tl D fm.kind fm.name fm.cells y (G fm.params) cap1 L (G fm.index) f F (G fm.values) d dp opn xe xf pr;have a2:=uq (J U fm.kind) (O fm.name) (J U fm.cells) y (G fm.params) cap1 (I L (G fm.index) f) (I F (G fm.values) d);go_wp2;go_loop [8] (fun i=>∃k:Nat,k<=G fm.params/\i=J U k/\Rt.parFrom k (fm.params.drop k) x=YW zL n x) (fun i=>G fm.params-(intOf i).toNat)
 case atStart=>exact⟨0,zo _,rfl,HI.u.symm⟩
 case round=>
  obtain⟨k,hk,rfl,hT⟩:=hrel;have V:=zD hT;by_cases hlt:k < G fm.params
  ·obtain⟨g,cap',W,_,_,cx⟩:=yD HO.u (j:=k) (u:=O fm.params[k]) (by simp[hlt]);simp at W;obtain⟨rfl,rfl⟩:=W;have a1:(k:Int) < (G fm.params:Int):=by omega
   by_cases hx:fm.params[k]=x
   ·have HE:=zD (dX V.u hlt hx);have M:=QB hx;go_wp2;go_ret;exact⟨by rw[HE.u];rfl,HB.u⟩
   ·have HE:=zD (aU V.u hlt hx);have M:=KI hx;go_wp2;go_round
    ·exact⟨k+1,by omega,by go_num,HE.u⟩
    ·simp[intOf];omega
  ·have HE:=zD (dY V.u hlt);go_wp2;go_ret;exact⟨by rw[HE.u];rfl,HB.u⟩
theorem Hn (n:Int) (x:Ia) (h:Hg w P B zL lv cs) (i:G zL<=101) (f:(Rt.yA zL n).params.length<=1000):Calls Tryz.prog 163 #[H (Q ⟨P,0,Z⟩),J U n,O x] w fun e w'=>e=T (A (Rt.isVar zL n x))/\Below w.heap.size w w':=by
 go_enter func163,ntmps163;go_wp2_with fail;refine(Param_v _ x h f).mono ?_;rintro e w1 ⟨rfl,d⟩;have hpi:=lN zL n x;generalize YW zL n x=R at *;cases hp:Rt.VS zL n x with
 | true=>
  have W:0<=R:=by rcases hpi with h | h;exact h.2;rw[hp]at h;cases h.1
  have M:=zD (show Rt.isVar zL n x=D by simp[Rt.isVar,hp]);have N:=zD d;go_wp2;go_ret;exact⟨by rw[M.u];rfl,N.u⟩
 | false=>
  have W:¬0<=R:=by rcases hpi with h | h;rw[hp]at h;cases h.1;omega
  have M:=zD (show Rt.isVar zL n x=decide ((Rt.yJ zL x).kind=1) by simp[Rt.isVar,hp]);have h1:=h.zP d;have o:=d.size;go_wp2_with fail;refine(Hy x h1 i).mono ?_;rintro e w2 ⟨fv,rfl,⟨pv,iv,vv,vs,rfl,b1,b2,b3,_⟩,y⟩;obtain⟨L,cap1,rfl⟩:=zK b1;obtain⟨F,k,rfl⟩:=zK b2;obtain⟨z,j,rfl⟩:=zK b3;have V:=eX (Rt.yJ zL x).kind (O (Rt.yJ zL x).name) (J U (Rt.yJ zL x).cells) (I L (Rt.yJ zL x).params.length cap1) (I F (Rt.yJ zL x).index.length k) (I z (Rt.yJ zL x).values.length j);have N:=zD (d.trans (y.mono (B':=w.heap.size) o));go_wp2;go_ret;exact⟨by rw[M.u];exact yj (by rw[beq_eq_decide]),N.u⟩
theorem isArray_v (n:Int) (x:Ia) (h:Hg w P B zL lv cs) (i:G zL<=101) (f:(Rt.yA zL n).params.length<=1000):Calls Tryz.prog 166 #[H (Q ⟨P,0,Z⟩),J U n,O x] w fun e w'=>e=T (A (ZW zL n x))/\Below w.heap.size w w':=by
 go_enter func166,ntmps166;go_wp2_with fail;refine(Param_v _ x h f).mono ?_;rintro e w1 ⟨rfl,d⟩;have hpi:=lN zL n x;generalize YW zL n x=R at *;cases hp:Rt.VS zL n x with
 | true=>
  have V:0<=R:=by rcases hpi with h | h;exact h.2;rw[hp]at h;cases h.1
  have L:=zD (show ZW zL n x=W by simp[ZW,hp]);have M:=zD d;go_wp2;go_ret;exact⟨by rw[L.u];rfl,M.u⟩
 | false=>
  have V:¬0<=R:=by rcases hpi with h | h;rw[hp]at h;cases h.1;omega
  have L:=zD (show ZW zL n x=decide ((Rt.yJ zL x).kind=2) by simp[ZW,hp]);have h1:=h.zP d;have o:=d.size;go_wp2_with fail;refine(Hy x h1 i).mono ?_;rintro e w2 ⟨fv,rfl,⟨pv,iv,vv,vs,rfl,b1,b2,b3,_⟩,y⟩;obtain⟨F,cap1,rfl⟩:=zK b1;obtain⟨D,k,rfl⟩:=zK b2;obtain⟨z,j,rfl⟩:=zK b3;have N:=eX (Rt.yJ zL x).kind (O (Rt.yJ zL x).name) (J U (Rt.yJ zL x).cells) (I F (Rt.yJ zL x).params.length cap1) (I D (Rt.yJ zL x).index.length k) (I z (Rt.yJ zL x).values.length j);have M:=zD (d.trans (y.mono (B':=w.heap.size) o));go_wp2;go_ret;exact⟨by rw[L.u];exact yj (by rw[beq_eq_decide]),M.u⟩
theorem VP:∀(ts:List qM) (i:Nat) (h:i < G ts),(xX ts)[i*3]?=Q (J U ts[i].code)/\(xX ts)[i*3+1]?=Q (J U ts[i].number)/\(xX ts)[i*3+2]?=Q (O ts[i].name)
 | [],i,h=>by simp at h
 | t::r,0,_=>by simp[xX,aN]
 | t::r,i+1,h=>by
  have d:=VP r i (by simpa using h);have e:xX (t::r)=[Value.int U t.code,Value.int U t.number,Value.string t.name]++xX r:=by simp[xX,aN]
  have f:(i+1)*3=i*3+3:=by omega
  rw[e,f];simpa using d
theorem lO {ops:List qM} (h:w.ownsRow B 236 3 (I ad (G ops) cap) (G ops) (xX ops)) (y:k < G ops):∃g,ad=Q ⟨g,0,Z⟩/\w.cell? ⟨g,k*3,Z⟩=Q (J U ops[k].code)/\w.cell? ⟨g,k*3+1,Z⟩=Q (J U ops[k].number)/\w.cell? ⟨g,k*3+2,Z⟩=Q (O ops[k].name):=by
 obtain⟨D,A,z⟩:=VP ops k y;obtain⟨g,c,i,_,_,x⟩:=yD h D;obtain⟨g1,L,f,_,_,o⟩:=yD h A;obtain⟨F,H,d,_,_,j⟩:=yD h z;simp at i f d;rw[i.1]at f d;simp at f d;refine⟨g,i.1,x,?_,?_⟩
 ·rw[f.1];exact o
 ·rw[d.1];exact j
theorem FA {ops:List qM} {f:qM->Bool} (h:(ops.drop k).all f=b) (d:¬k < G ops):b=D:=by
 rw[zp (by omega)]at h;exact h.symm
theorem GJ {ops:List qM} {f:qM->Bool} (h:(ops.drop k).all f=b) (d:k < G ops) (i:f ops[k]=W):b=W:=by
 rw[zZ d,kY,i]at h;exact h.symm
theorem E9 {ops:List qM} {f:qM->Bool} (h:(ops.drop k).all f=b) (d:k < G ops) (i:f ops[k]=D):(ops.drop (k+1)).all f=b:=by
 rw[zZ d,kY,i]at h;exact h
theorem QZ (n:Int) {ops:List qM} (h:qH w P zL lv cs) (a1:G zL<=101) (a0:(Rt.yA zL n).params.length<=1000) (hx:w.ownsRow (P+1) 236 3 (I ad (G ops) cap) (G ops) (xX ops)) (a8:G ops<=1000):Calls Tryz.prog 202 #[H (Q ⟨P,0,Z⟩),J U n,L #[I ad (G ops) cap]] w fun e w'=>e=T (A (Rt.XP zL n ops))/\Below w.heap.size w w':=by
 have hb0:=(zI w.heap.size w).alloc (zB _) (V #[I ad (G ops) cap] 140);have hE0:=zN w (V #[I ad (G ops) cap] 140);have h0:=h.zP hb0;have hx0:=yG hx hb0;clear h hx;go_enter func202,ntmps202;go_wp2_with fail;go_loopw [7,8] (fun i _ wr=>∃k:Nat,k<=G ops/\i=J U k/\(ops.drop k).all (CS zL n)=Rt.XP zL n ops/\qH wr P zL lv cs/\wr.heap[w.heap.size]?=Q (V #[I ad (G ops) cap] 140 (0,0))/\
   wr.ownsRow (P+1) 236 3 (I ad (G ops) cap) (G ops) (xX ops)/\Below w.heap.size w wr)
  (fun i _ _=>G ops-(intOf i).toNat)
 case atStart=>exact⟨0,zo _,rfl,rfl,h0,hE0,hx0,hb0⟩
 case round=>
  clear h0 hE0 hx0 hb0;obtain⟨k,hk,rfl,hT,a2,hE,hx,N⟩:=hrel;have HT:=zD hT;clear hT;have cE:=zC hE 0 (by simp);simp at cE;have a6:=N.size;have a9:=zQ hE;by_cases hlt:k < G ops
  ·obtain⟨g,rfl,o0,o1,o2⟩:=lO hx hlt;have a4:(k:Int) < (G ops:Int):=by omega
   have y:=(zI wr.heap.size wr).alloc (zB _) (V #[J U ops[k].code,J U ops[k].number,O ops[k].name] 236);have f:=a2.zP y;have z:=zU hE y;have x:=yG hx y;have j:=N.trans (y.mono (B':=w.heap.size) a6);have M:=zN wr (V #[J U ops[k].code,J U ops[k].number,O ops[k].name] 236);have HN:=zD (GJ HT.u hlt);have HY:=zD (E9 HT.u hlt);have HF:=zD (show CS zL n ops[k]=(if ops[k].code=2 then Rt.isVar zL n ops[k].name else if ops[k].code=3 then ZW zL n ops[k].name else D)from rfl);clear a2 hE hx N;generalize ops[k]=o at *;by_cases h2:o.code=2
   ·have a7:(o.code==2)=D:=by simpa using h2
    have a5:(o.code==3)=W:=by rw[h2];rfl
    have F:=zD (HF.u.trans (zE h2));clear h2;go_wp2_with fail;refine(Hn _ o.name f.v a1 a0).mono ?_;rintro e w2 ⟨rfl,d⟩;have a3:=zU M d;have c0:=zC a3 0 (by simp);simp at c0;cases hv:Rt.isVar zL n o.name with
    | true=>
     have R:=DA (HY.u (F.u.trans hv)) (f.zP d) (zU z d) (yG x d) (j.trans (d.mono (B':=w.heap.size) (by have:=y.size;omega)));clear f z x j M a3 d hv;go_wp2;go_roundw
     ·obtain⟨q1,q2,q3,q4,q5⟩:=R.u;exact⟨k+1,by omega,by go_num,q1,q2,q3,q4,q5⟩
     ·simp[intOf];omega
    | false=>
     have R:=qG (HN.u (F.u.trans hv)) (j.trans (d.mono (B':=w.heap.size) (by have:=y.size;omega)));clear f z x j M a3 d hv;go_wp2;go_ret;exact⟨by rw[R.u.1];rfl,R.u.2⟩
   have a7:(o.code==2)=W:=by simpa using h2
   by_cases h3:o.code=3
   ·have a5:(o.code==3)=D:=by simpa using h3
    have F:=zD (HF.u.trans ((zA h2).trans (zE h3)));clear h2 h3;go_wp2_with fail;refine(isArray_v _ o.name f.v a1 a0).mono ?_;rintro e w2 ⟨rfl,d⟩;cases hv:ZW zL n o.name with
    | true=>
     have R:=DA (HY.u (F.u.trans hv)) (f.zP d) (zU z d) (yG x d) (j.trans (d.mono (B':=w.heap.size) (by have:=y.size;omega)));clear f z x j M d hv;go_wp2;go_roundw
     ·obtain⟨q1,q2,q3,q4,q5⟩:=R.u;exact⟨k+1,by omega,by go_num,q1,q2,q3,q4,q5⟩
     ·simp[intOf];omega
    | false=>
     have R:=qG (HN.u (F.u.trans hv)) (j.trans (d.mono (B':=w.heap.size) (by have:=y.size;omega)));clear f z x j M d hv;go_wp2;go_ret;exact⟨by rw[R.u.1];rfl,R.u.2⟩
   ·have a5:(o.code==3)=W:=by simpa using h3
    have F:=zD (HF.u.trans ((zA h2).trans (zA h3)));clear h2 h3;have R:=DA (HY.u F.u) f z x j;clear f z x j M;go_wp2;go_roundw
    ·obtain⟨q1,q2,q3,q4,q5⟩:=R.u;exact⟨k+1,by omega,by go_num,q1,q2,q3,q4,q5⟩
    ·simp[intOf];omega
  ·have HE:=zD (FA HT.u hlt);have a4:¬(k:Int) < (G ops:Int):=by omega
   have HB:=zD N;clear a2 hE hx N;go_wp2;go_ret;exact⟨by rw[HE.u];rfl,HB.u⟩
section
attribute [local go_sem ↓] Go.wp_at_zero Go.wp_at_succ
theorem qi.get {w:World} {B:Nat}:∀(vs:List Value) (os:List (List qM)) (i:Nat) (h:i < G os),qi w B vs os->∃x,vs[i]?=Q x/\w.ownsRow B 236 3 x os[i].length (xX os[i])
 | x::_,o::_,0,_,⟨h1,_⟩=>⟨x,rfl,h1⟩
 | _::xs,_::os,i+1,h,⟨_,h2⟩=>by
  obtain⟨y,d,f⟩:=qi.get xs os i (by simpa using h) h2;exact⟨y,by simpa using d,f⟩
 | [],_::_,_,_,h=>h.elim
 | _,[],_,h,_=>by simp at h
theorem Bn {os:List (List qM)} {f:List qM->Bool} (h:(os.drop k).all f=b) (d:¬k < G os):b=D:=by
 rw[zp (by omega)]at h;exact h.symm
theorem D0 {os:List (List qM)} {f:List qM->Bool} (h:(os.drop k).all f=b) (d:k < G os) (i:f os[k]=W):b=W:=by
 rw[zZ d,kY,i]at h;exact h.symm
theorem Bm {os:List (List qM)} {f:List qM->Bool} (h:(os.drop k).all f=b) (d:k < G os) (i:f os[k]=D):(os.drop (k+1)).all f=b:=by
 rw[zZ d,kY,i]at h;exact h
theorem kj (a0:Option Addr) (c0:Nat) (xe xf:Int) (h:qH w P zL lv cs) (D:G zL<=101) (z:(Rt.yA zL pl.proc).params.length<=1000) (M:Rt.Small pl.form) (hf:qk w (P+1) #[J U pl.form.kind,O pl.form.name,J U pl.form.cells,I a1 (G pl.form.params) c1,I a2 (G pl.form.index) c2,I a3 (G pl.form.values) c3] pl.form):Calls Tryz.prog 173 #[H (Q ⟨P,0,Z⟩),L #[I a0 (G pl.yY) c0,J U pl.form.kind,O pl.form.name,J U pl.form.cells,I a1 (G pl.form.params) c1,I a2 (G pl.form.index) c2,I a3 (G pl.form.values) c3,J U pl.depth,J U pl.opener,J U xe,J U xf,J U pl.proc]] w fun e w'=>
   e=T (A (Rt.jF zL pl))/\Below w.heap.size w w':=by
 have j:=(zI w.heap.size w).alloc (zB _) (V #[I a0 (G pl.yY) c0,J U pl.form.kind,O pl.form.name,J U pl.form.cells,I a1 (G pl.form.params) c1,I a2 (G pl.form.index) c2,I a3 (G pl.form.values) c3,J U pl.depth,J U pl.opener,J U xe,J U xf,J U pl.proc] 145);have a4:=zN w (V #[I a0 (G pl.yY) c0,J U pl.form.kind,O pl.form.name,J U pl.form.cells,I a1 (G pl.form.params) c1,I a2 (G pl.form.index) c2,I a3 (G pl.form.values) c3,J U pl.depth,J U pl.opener,J U xe,J U xf,J U pl.proc] 145);have h0:=h.zP j;have b0:=(xZ (B:=P+1) j).form hf;obtain⟨pv,iv,vv,vs,a8,b1,b2,b3,b4⟩:=b0;simp at a8;obtain⟨rfl,rfl,rfl⟩:=a8;clear h hf;go_enter func173,ntmps173;go_wp2_with fail;refine(QZ pl.proc h0 D z b2 (zi M.index (by omega))).mono ?_;rintro e w1 ⟨rfl,f⟩;cases hv:Rt.XP zL pl.proc pl.form.index with
 | false=>
  have HE:=zD (show Rt.jF zL pl=W by simp[Rt.jF,hv]);have HB:=zD (j.trans (f.mono (B':=w.heap.size) (by simp)));clear h0 a4 j f b1 b2 b3 b4 hv;go_wp2;go_ret;exact⟨by rw[HE.u];rfl,HB.u⟩
 | true=>
  have hI:pl.form.values.all (Rt.XP zL pl.proc)=Rt.jF zL pl:=by simp[Rt.jF,hv]
  have h1:=h0.zP f;have hL1:=zU a4 f;have b31:=yG b3 f;have b41:=(xZ (B:=P+1) f).exprs _ _ b4;have hbe1:=j.trans (f.mono (B':=w.heap.size) (by simp));clear h0 a4 j f b1 b2 b3 b4 hv;go_wp2_with fail;go_loopw [5] (fun i wr=>∃k:Nat,k<=G pl.form.values/\i=J U k/\(pl.form.values.drop k).all (Rt.XP zL pl.proc)=Rt.jF zL pl/\qH wr P zL lv cs/\
    wr.heap[w.heap.size]?=Q (V #[I a0 (G pl.yY) c0,J U pl.form.kind,O pl.form.name,J U pl.form.cells,I a1 (G pl.form.params) c1,I a2 (G pl.form.index) c2,I a3 (G pl.form.values) c3,J U pl.depth,J U pl.opener,J U xe,J U xf,J U pl.proc] 145 (0,0))/\
    wr.ownsRow (P+1) 140 1 (I a3 (G pl.form.values) c3) (G pl.form.values) vs/\qi wr (P+1) vs pl.form.values/\Below w.heap.size w wr)
   (fun i _=>G pl.form.values-(intOf i).toNat)
  case atStart=>exact⟨0,zo _,rfl,hI,h1,hL1,b31,b41,hbe1⟩
  case round=>
   clear h1 hL1 b31 b41 hbe1 hI;obtain⟨k,hk,rfl,hT,N,hL,x,y,o⟩:=hrel;have HT:=zD hT;clear hT;have a6:=o.size;obtain⟨l0,l1,l2,l3,l4,l5,l6,l7,l8,l9,d0,b9⟩:=Yn hL;have b5:=M.values;by_cases hlt:k < G pl.form.values
   ·have a7:(k:Int) < (G pl.form.values:Int):=by omega
    have d1:(0:Int)<=(k:Int):=by omega
    obtain⟨xv,a5,F⟩:=qi.get _ _ k hlt y;obtain⟨d2,b8,rfl⟩:=zK F;obtain⟨g,cap',hg,_,b6,cx⟩:=yD x a5;simp at hg;obtain⟨rfl,rfl⟩:=hg;have b7:=zQ hL;have a9:pl.form.values[k].length<=1000:=zi (M.each _ (zj hlt)) (by omega);have HN:=zD (D0 HT.u hlt);have HY:=zD (Bm HT.u hlt);have HX:=GW N hL x y o F;clear N hL x y o F a5;generalize pl.form.values[k]=ov at *;go_wp2_with fail;go_region_with
     ((go_at_call 202;refine(QZ pl.proc (by exact HX.u.1.zP (zh _)) D z (by exact yG HX.u.2.2.2.2.2 (zh _)) a9).mono ?_;rintro e w2 ⟨rfl,R⟩))
    all_goals
     obtain⟨q1,q2,q3,q4,q5,_⟩:=HX.u;have d:=yh R;cases hv:Rt.XP zL pl.proc ov with
     | true=>
      have HG:=GW (HY.u hv) (q1.zP d) (zU q2 d) (yG q3 d) ((xZ (B:=P+1) d).exprs _ _ q4) (q5.trans (d.mono (B':=w.heap.size) a6));clear q1 q2 q3 q4 q5 R d hv HX;go_wp2;go_roundw
      ·obtain⟨r1,r2,r3,r4,r5,r6⟩:=HG.u;exact⟨k+1,by omega,by go_num,r1,r2,r3,r4,r5,r6⟩
      ·simp[intOf];omega
     | false=>
      have HG:=qG (HN.u hv) (q5.trans (d.mono (B':=w.heap.size) a6));clear q1 q2 q3 q4 q5 R d hv HX;go_wp2;go_ret;exact⟨by rw[HG.u.1];rfl,HG.u.2⟩
   ·have HE:=zD (Bn HT.u hlt);have a7:¬(k:Int) < (G pl.form.values:Int):=by omega
    have HB:=zD o;clear N hL x y o;go_wp2;go_ret;exact⟨by rw[HE.u];rfl,HB.u⟩
end
theorem nb (d:Rt.qS) (a1 a2 a3:Option Addr) (R N M:Nat) (h:qH w P zL lv cs) (o:G zL<=101):Calls Tryz.prog 172 #[H (Q ⟨P,0,Z⟩),L #[J U d.kind,O d.name,J U d.cells,I a1 (G d.params) R,I a2 (G d.index) N,I a3 (G d.values) M]] w fun e w'=>e=T (A (Rt.XF zL d))/\Below w.heap.size w w':=by
 have i:=(zI w.heap.size w).alloc (zB _) (V #[J U d.kind,O d.name,J U d.cells,I a1 (G d.params) R,I a2 (G d.index) N,I a3 (G d.values) M] 143);have j:=zN w (V #[J U d.kind,O d.name,J U d.cells,I a1 (G d.params) R,I a2 (G d.index) N,I a3 (G d.values) M] 143);have h0:=h.zP i;clear h;go_enter func172,ntmps172;go_wp2_with fail;refine(Hy d.name h0.v o).mono ?_;rintro e w2 ⟨fv,rfl,⟨pv,iv,vv,vs,rfl,b1,b2,b3,_⟩,f⟩;obtain⟨a5,cap1,rfl⟩:=zK b1;obtain⟨a4,y,rfl⟩:=zK b2;obtain⟨a0,x,rfl⟩:=zK b3;obtain⟨_,_,_,_,_,x5,_,_,_,_,_,_⟩:=YD (zU j f);have hz:=zQ (zU j f);have HB:=zD ((i.trans (f.mono (B':=w.heap.size) (by simp))).alloc (by omega) (V #[J U (Rt.yJ zL d.name).kind,O (Rt.yJ zL d.name).name,J U (Rt.yJ zL d.name).cells,I a5 (Rt.yJ zL d.name).params.length cap1,I a4 (Rt.yJ zL d.name).index.length y,I a0 (Rt.yJ zL d.name).values.length x] 143));have z:=zD (show Rt.XF zL d=(decide ((Rt.yJ zL d.name).kind=3) && decide ((Rt.yJ zL d.name).params.length=G d.values))from rfl);clear h0 i j f b1 b2 b3;generalize (Rt.yJ zL d.name)=df at *;by_cases hk:df.kind=3
 ·have F:(df.kind==3)=D:=by simpa using hk
  rw[hk]at HB;have k:=zD (z.u.trans (by rw[hk];rfl:_=decide (G df.params=G d.values)));clear z;go_wp2;go_ret;refine⟨?_,?_⟩
  ·rw[k.u];refine yj ?_;rw[xO];simp;omega
  ·have:=HB.u
   first | exact this | (rw[hk];exact this)
 ·have F:(df.kind==3)=W:=by simpa using hk
  have k:=zD (z.u.trans (by simp[hk]:_=W));clear z hk;go_wp2;go_ret;exact⟨by rw[k.u];rfl,HB.u⟩
theorem kT (w:World) {q:Nat}:Below B w (w.drewN q):=⟨rfl,rfl,rfl,zB _,fun _ _=>rfl⟩
theorem ig (a2 a3:Option Addr) (c2 Z:Nat) (z:w.ownsRow B 9 1 (I a1 (G fm.params) c1) (G fm.params) (fm.params.map Value.string)) (b0:G fm.params<=1000):Calls Tryz.prog 171 #[L #[J U fm.kind,O fm.name,J U fm.cells,I a1 (G fm.params) c1,I a2 (G fm.index) c2,I a3 (G fm.values) Z]] w fun e w'=>e=T (A (Rt.QJ fm))/\Below w.heap.size w w':=by
 have hb0:=(zI w.heap.size w).alloc (zB _) (V #[J U fm.kind,O fm.name,J U fm.cells,I a1 (G fm.params) c1,I a2 (G fm.index) c2,I a3 (G fm.values) Z] 143);have hN0:=zN w (V #[J U fm.kind,O fm.name,J U fm.cells,I a1 (G fm.params) c1,I a2 (G fm.index) c2,I a3 (G fm.values) Z] 143);have hp0:=yG z hb0;by_cases hm:(fm.name.toList==Rt.QN)=D/\0 < G fm.params
 ·obtain⟨hm1,hm2⟩:=hm;have HE:Hd (Rt.QJ fm=W):=zD (by simp[Rt.QJ,hm1,hm2]);unfold Rt.QN at hm1;have a8:(0:Int) < (G fm.params:Int):=by omega
  have HB:=zD hb0;clear hb0 hN0 hp0 z;go_enter func171,ntmps171;go_wp2;go_ret;exact⟨by rw[HE.u];rfl,HB.u⟩
 ·have HE:Hd (∀b:Prop,(Rt.bh fm.params (G fm.params)↔b)->[Decidable b]->Rt.QJ fm=decide b):=by
   refine zD ?_;intro b hb _;have h1:((fm.name.toList==Rt.QN) && decide (0 < G fm.params))=W:=by
    rw[yL];intro e;simp at e;exact hm ⟨by simpa using e.1,by omega⟩
   rw[Rt.QJ,h1];simp[hb]
  have a6:=zD (HE.u True);have a7:=zD (HE.u False);clear HE;have hcase:(fm.name.toList==[109,97,105,110])=D/\¬(0:Int) < (G fm.params:Int)\/(fm.name.toList==[109,97,105,110])=W:=by
   cases e:(fm.name.toList==[109,97,105,110])with
   | true=>exact Or.inl ⟨rfl,by have:¬0 < G fm.params:=fun x=>hm ⟨e,x⟩;omega⟩
   | false=>exact Or.inr rfl
  clear hm z;have a9:=zQ hN0;rcases hcase with⟨hm1,hm2⟩| hm1
  all_goals
   go_enter func171,ntmps171;go_wp2_with fail;go_loopw [3,4] (fun i _ wr=>∃k:Nat,k<=G fm.params/\i=J U k/\Rt.bh fm.params k/\wr.heap[w.heap.size]?=Q (V #[J U fm.kind,O fm.name,J U fm.cells,I a1 (G fm.params) c1,I a2 (G fm.index) c2,I a3 (G fm.values) Z] 143 (0,0))/\
     wr.ownsRow B 9 1 (I a1 (G fm.params) c1) (G fm.params) (fm.params.map Value.string)/\Below w.heap.size w wr)
    (fun i _ _=>G fm.params-(intOf i).toNat)
   case atStart=>exact⟨0,zo _,rfl,fun i j h1 h2=>by omega,hN0,hp0,hb0⟩
   case round=>
    clear hN0 hp0 hb0;obtain⟨k,hk,rfl,hT,hN,z,y⟩:=hrel;have HT:=zD hT;clear hT;obtain⟨_,_,_,x3,_,_,_,_,_,_,_,_⟩:=YD hN;by_cases hlt:k < G fm.params
    ·try (exfalso;omega)
     all_goals
      have M:(k:Int) < (G fm.params:Int):=by omega
      have HH:=XX hN z y;clear hN z y;go_wp2_with fail;go_loopw [4] (fun j wr2=>∃m:Nat,m<=k/\j=J U m/\(∀j,j < m->¬fm.params[k]?=fm.params[j]?)/\wr2.heap[w.heap.size]?=Q (V #[J U fm.kind,O fm.name,J U fm.cells,I a1 (G fm.params) c1,I a2 (G fm.index) c2,I a3 (G fm.values) Z] 143 (0,0))/\
        wr2.ownsRow B 9 1 (I a1 (G fm.params) c1) (G fm.params) (fm.params.map Value.string)/\Below w.heap.size w wr2)
       (fun j _=>k-(intOf j).toNat)
      case atStart=>exact⟨0,zo _,rfl,fun j h=>by omega,HH.u.1,HH.u.2.1,HH.u.2.2⟩
      case round=>
       clear HH;obtain⟨m,hm,rfl,R,o,f,d⟩:=hrel;have a0:=zD R;clear R;obtain⟨_,_,_,y3,_,_,_,_,_,_,_,_⟩:=YD o;by_cases hlt2:m < k
       ·have F:(m:Int) < (k:Int):=by omega
        obtain⟨g,cap',hg,_,_,ck⟩:=yD f (j:=k) (u:=O fm.params[k]) (by simp[hlt]);obtain⟨g',a5,H,_,_,cm⟩:=yD f (j:=m) (u:=O (fm.params[m]'(by omega))) (by rw[yt,zJ (by omega)];rfl);simp at hg H;obtain⟨rfl,rfl⟩:=hg;simp at H;obtain⟨rfl,rfl⟩:=H;have b2:(m:Int) < (G fm.params:Int):=by omega
        have b3:(0:Int)<=(m:Int):=by omega
        have b4:(0:Int)<=(k:Int):=by omega
        have HH:=XX o f d;clear o f d;by_cases heq:fm.params[k]=fm.params[m]'(by omega)
        ·have N:=QB heq;have HR:Hd (Rt.QJ fm=W):=by
          refine zD ?_;have:=a7.u ⟨fun h=>(h k m hlt2 hlt hlt (by rw[zJ hlt,zJ (by omega),heq])).elim,fun h=>h.elim⟩;simpa using this
         clear heq;go_wp2_with fail;go_quiet (fail);go_wp2;go_ret;exact⟨by rw[HR.u];rfl,HH.u.2.2.trans (kT _)⟩
        ·have N:=KI heq;have HT3:Hd (∀j,j < m+1->¬fm.params[k]?=fm.params[j]?):=by
          refine zD ?_;intro j hj;by_cases e:j=m
          ·subst e;rw[zJ hlt,zJ (by omega)];simpa using heq
          ·exact a0.u j (by omega)
         clear heq;go_wp2_with fail;go_quiet (fail);go_wp2;go_roundw
         ·exact⟨m+1,by omega,by go_num,HT3.u,HH.u.1,HH.u.2.1,HH.u.2.2.trans (kT _)⟩
         ·simp[intOf];omega
       ·have F:¬(m:Int) < (k:Int):=by omega
        have b1:m=k:=by omega
        have HT3:Hd (Rt.bh fm.params (k+1)):=by
         refine zD ?_;intro i j h1 h2 h3;by_cases e:i=k
         ·subst e;exact a0.u j (by omega)
         ·exact HT.u i j h1 (by omega) h3
        have HH:=XX o f d;clear o f d;go_wp2;go_roundw
        ·exact⟨k+1,by omega,by go_num,HT3.u,HH.u.1,HH.u.2.1,HH.u.2.2⟩
        ·simp[intOf];omega
    ·have M:¬(k:Int) < (G fm.params:Int):=by omega
     have a4:k=G fm.params:=by omega
     have HR:Hd (Rt.QJ fm=D):=by
      refine zD ?_;have:=a6.u ⟨fun _=>trivial,fun _=>by rw[<-a4];exact HT.u⟩;simpa using this
     have HH:=zD y;clear hN z y;go_wp2;go_ret;exact⟨by rw[HR.u];rfl,HH.u⟩
theorem ef {a b:Nat}:(((a:Int)==(b:Int)))=decide (a=b):=by rw[xO];simp;omega
theorem sn (n:Nat) (o:Option Addr) (k:Nat) (j i:Int) (h:qH w P zL lv cs) (f:G zL<=101) (z:qk w (P+1) #[J U pl.form.kind,O pl.form.name,J U pl.form.cells,I a1 (G pl.form.params) c1,I a2 (G pl.form.index) c2,I a3 (G pl.form.values) c3] pl.form) (x:pl.form.kind=1):Calls Tryz.prog 127 #[H (Q ⟨P,0,Z⟩),J U n,L #[I o (G pl.yY) k,J U pl.form.kind,O pl.form.name,J U pl.form.cells,I a1 (G pl.form.params) c1,I a2 (G pl.form.index) c2,I a3 (G pl.form.values) c3,J U pl.depth,J U pl.opener,J U j,J U i,J U pl.proc]] w fun e w'=>e=T (A (Rt.qh zL n pl))/\Below w.heap.size w w':=by
 have d:=(zI w.heap.size w).alloc (zB _) (V #[I o (G pl.yY) k,J U pl.form.kind,O pl.form.name,J U pl.form.cells,I a1 (G pl.form.params) c1,I a2 (G pl.form.index) c2,I a3 (G pl.form.values) c3,J U pl.depth,J U pl.opener,J U j,J U i,J U pl.proc] 145);have F:=zN w (V #[I o (G pl.yY) k,J U pl.form.kind,O pl.form.name,J U pl.form.cells,I a1 (G pl.form.params) c1,I a2 (G pl.form.index) c2,I a3 (G pl.form.values) c3,J U pl.depth,J U pl.opener,J U j,J U i,J U pl.proc] 145);have M:=h.zP d;have y:=(xZ (B:=P+1) d).form z;have N:=zD (show Rt.qh zL n pl=decide (Rt.xb zL pl.form.name=n) by unfold Rt.qh;rw[zE (by omega)]);have W:(pl.form.kind==1)=D:=by simpa using x
 clear x;go_enter func127,ntmps127;go_wp2_with fail;refine(G3 pl.form.name M.v f).mono ?_;rintro e w1 ⟨rfl,rfl⟩;have R:=zD d;go_wp2;go_ret;exact⟨by rw[N.u];exact yj (ef),R.u⟩
theorem sm (n:Nat) (o:Option Addr) (k:Nat) (j i:Int) (h:qH w P zL lv cs) (f:G zL<=101) (F:qk w (P+1) #[J U pl.form.kind,O pl.form.name,J U pl.form.cells,I a1 (G pl.form.params) c1,I a2 (G pl.form.index) c2,I a3 (G pl.form.values) c3] pl.form) (y:¬pl.form.kind=1) (x:pl.form.kind=2):Calls Tryz.prog 127 #[H (Q ⟨P,0,Z⟩),J U n,L #[I o (G pl.yY) k,J U pl.form.kind,O pl.form.name,J U pl.form.cells,I a1 (G pl.form.params) c1,I a2 (G pl.form.index) c2,I a3 (G pl.form.values) c3,J U pl.depth,J U pl.opener,J U j,J U i,J U pl.proc]] w fun e w'=>e=T (A (Rt.qh zL n pl))/\Below w.heap.size w w':=by
 have d:=(zI w.heap.size w).alloc (zB _) (V #[I o (G pl.yY) k,J U pl.form.kind,O pl.form.name,J U pl.form.cells,I a1 (G pl.form.params) c1,I a2 (G pl.form.index) c2,I a3 (G pl.form.values) c3,J U pl.depth,J U pl.opener,J U j,J U i,J U pl.proc] 145);have M:=zN w (V #[I o (G pl.yY) k,J U pl.form.kind,O pl.form.name,J U pl.form.cells,I a1 (G pl.form.params) c1,I a2 (G pl.form.index) c2,I a3 (G pl.form.values) c3,J U pl.depth,J U pl.opener,J U j,J U i,J U pl.proc] 145);have N:=h.zP d;have z:=(xZ (B:=P+1) d).form F;have R:=zD (show Rt.qh zL n pl=decide (Rt.xb zL pl.form.name=n) by unfold Rt.qh;rw[zE (by omega)]);have b1:(pl.form.kind==1)=W:=by simpa using y
 have b2:(pl.form.kind==2)=D:=by simpa using x
 clear y x;go_enter func127,ntmps127;go_wp2_with fail;refine(G3 pl.form.name N.v f).mono ?_;rintro e w1 ⟨rfl,rfl⟩;have HB:=zD d;go_wp2;go_ret;exact⟨by rw[R.u];exact yj (ef),HB.u⟩
theorem sl (n:Nat) (N:Option Addr) (M:Nat) (o k:Int) (h:qH w P zL lv cs) (f:G zL<=101) (x:Rt.Small pl.form) (hf:qk w (P+1) #[J U pl.form.kind,O pl.form.name,J U pl.form.cells,I a1 (G pl.form.params) c1,I a2 (G pl.form.index) c2,I a3 (G pl.form.values) c3] pl.form) (h1:¬pl.form.kind=1) (h2:¬pl.form.kind=2) (h3:pl.form.kind=3):Calls Tryz.prog 127 #[H (Q ⟨P,0,Z⟩),J U n,L #[I N (G pl.yY) M,J U pl.form.kind,O pl.form.name,J U pl.form.cells,I a1 (G pl.form.params) c1,I a2 (G pl.form.index) c2,I a3 (G pl.form.values) c3,J U pl.depth,J U pl.opener,J U o,J U k,J U pl.proc]] w fun e w'=>e=T (A (Rt.qh zL n pl))/\Below w.heap.size w w':=by
 have d:=(zI w.heap.size w).alloc (zB _) (V #[I N (G pl.yY) M,J U pl.form.kind,O pl.form.name,J U pl.form.cells,I a1 (G pl.form.params) c1,I a2 (G pl.form.index) c2,I a3 (G pl.form.values) c3,J U pl.depth,J U pl.opener,J U o,J U k,J U pl.proc] 145);have a4:=zN w (V #[I N (G pl.yY) M,J U pl.form.kind,O pl.form.name,J U pl.form.cells,I a1 (G pl.form.params) c1,I a2 (G pl.form.index) c2,I a3 (G pl.form.values) c3,J U pl.depth,J U pl.opener,J U o,J U k,J U pl.proc] 145);have h0:=h.zP d;have y:=(xZ (B:=P+1) d).form hf;have HE:=zD (show Rt.qh zL n pl=(decide (Rt.xb zL pl.form.name=n) && Rt.QJ pl.form) by unfold Rt.qh;rw[zA (by omega),zE (by omega)]);have b1:(pl.form.kind==1)=W:=by simpa using h1
 have b2:(pl.form.kind==2)=W:=by simpa using h2
 have b3:(pl.form.kind==3)=D:=by simpa using h3
 clear h1 h2 h3;obtain⟨pv,iv,vv,vs,j,p1,p2,p3,p4⟩:=y;simp at j;obtain⟨rfl,rfl,rfl⟩:=j;by_cases hd:Rt.xb zL pl.form.name=n
 ·have z:(((Rt.xb zL pl.form.name:Nat):Int)==(n:Int))=D:=by rw[ef];simpa using hd
  have i:=zD (HE.u.trans (by rw[hd];simp:_=Rt.QJ pl.form));go_enter func127,ntmps127;go_wp2_with fail;refine(G3 pl.form.name h0.v f).mono ?_;rintro e w1 ⟨rfl,rfl⟩;go_wp2_with fail;refine(ig a2 a3 c2 c3 p1 (zi x.params (by omega))).mono ?_;rintro e w2 ⟨rfl,F⟩;have R:=zD (d.trans (F.mono (B':=w.heap.size) (by simp)));go_wp2;go_ret;exact⟨by rw[i.u];first | rfl | simp,R.u⟩
 ·have z:(((Rt.xb zL pl.form.name:Nat):Int)==(n:Int))=W:=by rw[ef];simpa using hd
  have i:=zD (HE.u.trans (by simp[hd]:_=W));go_enter func127,ntmps127;go_wp2_with fail;refine(G3 pl.form.name h0.v f).mono ?_;rintro e w1 ⟨rfl,rfl⟩;have R:=zD d;go_wp2;go_ret;exact⟨by rw[i.u];first | rfl | simp,R.u⟩
theorem sk (n:Nat) (M:Option Addr) (F:Nat) (y x:Int) (h:qH w P zL lv cs) (j:G zL<=101) (i:(Rt.yA zL pl.proc).params.length<=1000) (N:Rt.Small pl.form) (hf:qk w (P+1) #[J U pl.form.kind,O pl.form.name,J U pl.form.cells,I a1 (G pl.form.params) c1,I a2 (G pl.form.index) c2,I a3 (G pl.form.values) c3] pl.form) (z:¬pl.form.kind=1) (h2:¬pl.form.kind=2) (h3:¬pl.form.kind=3) (h8:pl.form.kind=8):Calls Tryz.prog 127 #[H (Q ⟨P,0,Z⟩),J U n,L #[I M (G pl.yY) F,J U pl.form.kind,O pl.form.name,J U pl.form.cells,I a1 (G pl.form.params) c1,I a2 (G pl.form.index) c2,I a3 (G pl.form.values) c3,J U pl.depth,J U pl.opener,J U y,J U x,J U pl.proc]] w fun e w'=>e=T (A (Rt.qh zL n pl))/\Below w.heap.size w w':=by
 have k:=(zI w.heap.size w).alloc (zB _) (V #[I M (G pl.yY) F,J U pl.form.kind,O pl.form.name,J U pl.form.cells,I a1 (G pl.form.params) c1,I a2 (G pl.form.index) c2,I a3 (G pl.form.values) c3,J U pl.depth,J U pl.opener,J U y,J U x,J U pl.proc] 145);have a7:=zN w (V #[I M (G pl.yY) F,J U pl.form.kind,O pl.form.name,J U pl.form.cells,I a1 (G pl.form.params) c1,I a2 (G pl.form.index) c2,I a3 (G pl.form.values) c3,J U pl.depth,J U pl.opener,J U y,J U x,J U pl.proc] 145);have h0:=h.zP k;have a4:=(xZ (B:=P+1) k).form hf;have o:=zD (show Rt.qh zL n pl=(Rt.isVar zL pl.proc pl.form.name && Rt.jF zL pl) by unfold Rt.qh;rw[zA (by omega),zA (by omega),zE (by omega)]);have b1:(pl.form.kind==1)=W:=by simpa using z
 have b2:(pl.form.kind==2)=W:=by simpa using h2
 have b8:(pl.form.kind==8)=D:=by simpa using h8
 clear z h2 h3 h8;go_enter func127,ntmps127;go_wp2_with fail;refine(Hn pl.proc pl.form.name h0.v j i).mono ?_;rintro e w1 ⟨rfl,f⟩;have d:=k.trans (f.mono (B':=w.heap.size) (by simp));have z:=h0.zP f;have R:=(xZ (B:=P+1) f).form a4;have a6:=zU a7 f;cases hv:Rt.isVar zL pl.proc pl.form.name with
 | false=>
  have HE:=zD (o.u.trans (by rw[hv];rfl:_=W));have HB:=zD d;go_wp2;go_ret;exact⟨by rw[HE.u];rfl,HB.u⟩
 | true=>
  have HE:=zD (o.u.trans (by rw[hv];rfl:_=Rt.jF zL pl));obtain⟨l0,l1,l2,l3,l4,l5,l6,l7,l8,l9,a9,a8⟩:=Yn a6;go_wp2_with fail;refine(kj M F y x z j i N R).mono ?_;rintro e w9 ⟨rfl,a5⟩;have HB:=zD (d.trans (a5.mono (B':=w.heap.size) (by have:=(d).size;omega)));go_wp2;go_ret;exact⟨by rw[HE.u];rfl,HB.u⟩
theorem og (n:Nat) (N:Option Addr) (M:Nat) (z y:Int) (h:qH w P zL lv cs) (j:G zL<=101) (i:(Rt.yA zL pl.proc).params.length<=1000) (R:Rt.Small pl.form) (hf:qk w (P+1) #[J U pl.form.kind,O pl.form.name,J U pl.form.cells,I a1 (G pl.form.params) c1,I a2 (G pl.form.index) c2,I a3 (G pl.form.values) c3] pl.form) (F:¬pl.form.kind=1) (h2:¬pl.form.kind=2) (h3:¬pl.form.kind=3) (h8:¬pl.form.kind=8) (o:pl.form.kind=11):Calls Tryz.prog 127 #[H (Q ⟨P,0,Z⟩),J U n,L #[I N (G pl.yY) M,J U pl.form.kind,O pl.form.name,J U pl.form.cells,I a1 (G pl.form.params) c1,I a2 (G pl.form.index) c2,I a3 (G pl.form.values) c3,J U pl.depth,J U pl.opener,J U z,J U y,J U pl.proc]] w fun e w'=>e=T (A (Rt.qh zL n pl))/\Below w.heap.size w w':=by
 have k:=(zI w.heap.size w).alloc (zB _) (V #[I N (G pl.yY) M,J U pl.form.kind,O pl.form.name,J U pl.form.cells,I a1 (G pl.form.params) c1,I a2 (G pl.form.index) c2,I a3 (G pl.form.values) c3,J U pl.depth,J U pl.opener,J U z,J U y,J U pl.proc] 145);have a8:=zN w (V #[I N (G pl.yY) M,J U pl.form.kind,O pl.form.name,J U pl.form.cells,I a1 (G pl.form.params) c1,I a2 (G pl.form.index) c2,I a3 (G pl.form.values) c3,J U pl.depth,J U pl.opener,J U z,J U y,J U pl.proc] 145);have h0:=h.zP k;have a5:=(xZ (B:=P+1) k).form hf;have x:=zD (show Rt.qh zL n pl=(Rt.isVar zL pl.proc pl.form.name && Rt.jF zL pl) by unfold Rt.qh;rw[zA (by omega),zA (by omega),zE (by omega)]);have b1:(pl.form.kind==1)=W:=by simpa using F
 have b2:(pl.form.kind==2)=W:=by simpa using h2
 have b8:(pl.form.kind==8)=W:=by simpa using h8
 have b3:(pl.form.kind==11)=D:=by simpa using o
 clear F h2 h3 h8 o;go_enter func127,ntmps127;go_wp2_with fail;refine(Hn pl.proc pl.form.name h0.v j i).mono ?_;rintro e w1 ⟨rfl,f⟩;have d:=k.trans (f.mono (B':=w.heap.size) (by simp));have F:=h0.zP f;have a4:=(xZ (B:=P+1) f).form a5;have a7:=zU a8 f;cases hv:Rt.isVar zL pl.proc pl.form.name with
 | false=>
  have HE:=zD (x.u.trans (by rw[hv];rfl:_=W));have HB:=zD d;go_wp2;go_ret;exact⟨by rw[HE.u];rfl,HB.u⟩
 | true=>
  have HE:=zD (x.u.trans (by rw[hv];rfl:_=Rt.jF zL pl));obtain⟨l0,l1,l2,l3,l4,l5,l6,l7,l8,l9,b0,a9⟩:=Yn a7;go_wp2_with fail;refine(kj N M z y F j i R a4).mono ?_;rintro e w9 ⟨rfl,a6⟩;have HB:=zD (d.trans (a6.mono (B':=w.heap.size) (by have:=(d).size;omega)));go_wp2;go_ret;exact⟨by rw[HE.u];rfl,HB.u⟩
theorem sj (n:Nat) (N:Option Addr) (M:Nat) (z y:Int) (h:qH w P zL lv cs) (j:G zL<=101) (i:(Rt.yA zL pl.proc).params.length<=1000) (R:Rt.Small pl.form) (hf:qk w (P+1) #[J U pl.form.kind,O pl.form.name,J U pl.form.cells,I a1 (G pl.form.params) c1,I a2 (G pl.form.index) c2,I a3 (G pl.form.values) c3] pl.form) (F:¬pl.form.kind=1) (h2:¬pl.form.kind=2) (h3:¬pl.form.kind=3) (h8:¬pl.form.kind=8) (o:¬pl.form.kind=11) (h9:pl.form.kind=9):Calls Tryz.prog 127 #[H (Q ⟨P,0,Z⟩),J U n,L #[I N (G pl.yY) M,J U pl.form.kind,O pl.form.name,J U pl.form.cells,I a1 (G pl.form.params) c1,I a2 (G pl.form.index) c2,I a3 (G pl.form.values) c3,J U pl.depth,J U pl.opener,J U z,J U y,J U pl.proc]] w fun e w'=>e=T (A (Rt.qh zL n pl))/\Below w.heap.size w w':=by
 have k:=(zI w.heap.size w).alloc (zB _) (V #[I N (G pl.yY) M,J U pl.form.kind,O pl.form.name,J U pl.form.cells,I a1 (G pl.form.params) c1,I a2 (G pl.form.index) c2,I a3 (G pl.form.values) c3,J U pl.depth,J U pl.opener,J U z,J U y,J U pl.proc] 145);have a8:=zN w (V #[I N (G pl.yY) M,J U pl.form.kind,O pl.form.name,J U pl.form.cells,I a1 (G pl.form.params) c1,I a2 (G pl.form.index) c2,I a3 (G pl.form.values) c3,J U pl.depth,J U pl.opener,J U z,J U y,J U pl.proc] 145);have h0:=h.zP k;have a5:=(xZ (B:=P+1) k).form hf;have x:=zD (show Rt.qh zL n pl=(ZW zL pl.proc pl.form.name && Rt.jF zL pl) by unfold Rt.qh;rw[zA (by omega),zA (by omega),zA (by omega),zE (by omega)]);have b1:(pl.form.kind==1)=W:=by simpa using F
 have b2:(pl.form.kind==2)=W:=by simpa using h2
 have b8:(pl.form.kind==8)=W:=by simpa using h8
 have b3:(pl.form.kind==11)=W:=by simpa using o
 have b9:(pl.form.kind==9)=D:=by simpa using h9
 clear F h2 h3 h8 o h9;go_enter func127,ntmps127;go_wp2_with fail;refine(isArray_v pl.proc pl.form.name h0.v j i).mono ?_;rintro e w1 ⟨rfl,f⟩;have d:=k.trans (f.mono (B':=w.heap.size) (by simp));have F:=h0.zP f;have a4:=(xZ (B:=P+1) f).form a5;have a7:=zU a8 f;cases hv:ZW zL pl.proc pl.form.name with
 | false=>
  have HE:=zD (x.u.trans (by rw[hv];rfl:_=W));have HB:=zD d;go_wp2;go_ret;exact⟨by rw[HE.u];rfl,HB.u⟩
 | true=>
  have HE:=zD (x.u.trans (by rw[hv];rfl:_=Rt.jF zL pl));obtain⟨l0,l1,l2,l3,l4,l5,l6,l7,l8,l9,b0,a9⟩:=Yn a7;go_wp2_with fail;refine(kj N M z y F j i R a4).mono ?_;rintro e w9 ⟨rfl,a6⟩;have HB:=zD (d.trans (a6.mono (B':=w.heap.size) (by have:=(d).size;omega)));go_wp2;go_ret;exact⟨by rw[HE.u];rfl,HB.u⟩
theorem oe (n:Nat) (R:Option Addr) (N:Nat) (F z:Int) (h:qH w P zL lv cs) (i:G zL<=101) (k:(Rt.yA zL pl.proc).params.length<=1000) (a4:Rt.Small pl.form) (hf:qk w (P+1) #[J U pl.form.kind,O pl.form.name,J U pl.form.cells,I a1 (G pl.form.params) c1,I a2 (G pl.form.index) c2,I a3 (G pl.form.values) c3] pl.form) (M:¬pl.form.kind=1) (h2:¬pl.form.kind=2) (h3:¬pl.form.kind=3) (h8:¬pl.form.kind=8) (x:¬pl.form.kind=11) (h9:¬pl.form.kind=9) (o:pl.form.kind=12):Calls Tryz.prog 127 #[H (Q ⟨P,0,Z⟩),J U n,L #[I R (G pl.yY) N,J U pl.form.kind,O pl.form.name,J U pl.form.cells,I a1 (G pl.form.params) c1,I a2 (G pl.form.index) c2,I a3 (G pl.form.values) c3,J U pl.depth,J U pl.opener,J U F,J U z,J U pl.proc]] w fun e w'=>e=T (A (Rt.qh zL n pl))/\Below w.heap.size w w':=by
 have j:=(zI w.heap.size w).alloc (zB _) (V #[I R (G pl.yY) N,J U pl.form.kind,O pl.form.name,J U pl.form.cells,I a1 (G pl.form.params) c1,I a2 (G pl.form.index) c2,I a3 (G pl.form.values) c3,J U pl.depth,J U pl.opener,J U F,J U z,J U pl.proc] 145);have a9:=zN w (V #[I R (G pl.yY) N,J U pl.form.kind,O pl.form.name,J U pl.form.cells,I a1 (G pl.form.params) c1,I a2 (G pl.form.index) c2,I a3 (G pl.form.values) c3,J U pl.depth,J U pl.opener,J U F,J U z,J U pl.proc] 145);have h0:=h.zP j;have a6:=(xZ (B:=P+1) j).form hf;have y:=zD (show Rt.qh zL n pl=(Rt.XF zL pl.form && Rt.jF zL pl) by unfold Rt.qh;rw[zA (by omega),zA (by omega),zA (by omega),zA (by omega),zE (by omega)]);have b1:(pl.form.kind==1)=W:=by simpa using M
 have b2:(pl.form.kind==2)=W:=by simpa using h2
 have b8:(pl.form.kind==8)=W:=by simpa using h8
 have b5:(pl.form.kind==11)=W:=by simpa using x
 have b4:(pl.form.kind==12)=D:=by simpa using o
 clear M h2 h3 h8 x h9 o;go_enter func127,ntmps127;go_wp2_with fail;refine(nb pl.form a1 a2 a3 c1 c2 c3 h0 i).mono ?_;rintro e w1 ⟨rfl,f⟩;have d:=j.trans (f.mono (B':=w.heap.size) (by simp));have M:=h0.zP f;have a5:=(xZ (B:=P+1) f).form a6;have a8:=zU a9 f;cases hv:Rt.XF zL pl.form with
 | false=>
  have HE:=zD (y.u.trans (by rw[hv];rfl:_=W));have HB:=zD d;go_wp2;go_ret;exact⟨by rw[HE.u];rfl,HB.u⟩
 | true=>
  have HE:=zD (y.u.trans (by rw[hv];rfl:_=Rt.jF zL pl));obtain⟨l0,l1,l2,l3,l4,l5,l6,l7,l8,l9,b3,b0⟩:=Yn a8;go_wp2_with fail;refine(kj R N F z M i k a4 a5).mono ?_;rintro e w9 ⟨rfl,a7⟩;have HB:=zD (d.trans (a7.mono (B':=w.heap.size) (by have:=(d).size;omega)));go_wp2;go_ret;exact⟨by rw[HE.u];rfl,HB.u⟩
theorem fu (n:Nat) (x:Option Addr) (o:Nat) (k j:Int) (h:qH w P zL lv cs) (i:G zL<=101) (f:(Rt.yA zL pl.proc).params.length<=1000) (y:Rt.Small pl.form) (N:qk w (P+1) #[J U pl.form.kind,O pl.form.name,J U pl.form.cells,I a1 (G pl.form.params) c1,I a2 (G pl.form.index) c2,I a3 (G pl.form.values) c3] pl.form) (h1:¬pl.form.kind=1) (h2:¬pl.form.kind=2) (h3:¬pl.form.kind=3) (h8:¬pl.form.kind=8) (M:¬pl.form.kind=11) (h9:¬pl.form.kind=9) (F:¬pl.form.kind=12):Calls Tryz.prog 127 #[H (Q ⟨P,0,Z⟩),J U n,L #[I x (G pl.yY) o,J U pl.form.kind,O pl.form.name,J U pl.form.cells,I a1 (G pl.form.params) c1,I a2 (G pl.form.index) c2,I a3 (G pl.form.values) c3,J U pl.depth,J U pl.opener,J U k,J U j,J U pl.proc]] w fun e w'=>e=T (A (Rt.qh zL n pl))/\Below w.heap.size w w':=by
 have d:=(zI w.heap.size w).alloc (zB _) (V #[I x (G pl.yY) o,J U pl.form.kind,O pl.form.name,J U pl.form.cells,I a1 (G pl.form.params) c1,I a2 (G pl.form.index) c2,I a3 (G pl.form.values) c3,J U pl.depth,J U pl.opener,J U k,J U j,J U pl.proc] 145);have R:=zN w (V #[I x (G pl.yY) o,J U pl.form.kind,O pl.form.name,J U pl.form.cells,I a1 (G pl.form.params) c1,I a2 (G pl.form.index) c2,I a3 (G pl.form.values) c3,J U pl.depth,J U pl.opener,J U k,J U j,J U pl.proc] 145);have h0:=h.zP d;have z:=(xZ (B:=P+1) d).form N;have HE:=zD (show Rt.qh zL n pl=Rt.jF zL pl by unfold Rt.qh;rw[zA (by omega),zA (by omega),zA (by omega),zA (by omega),zA (by omega)]);have b1:(pl.form.kind==1)=W:=by simpa using h1
 have b2:(pl.form.kind==2)=W:=by simpa using h2
 have b3:(pl.form.kind==3)=W:=by simpa using h3
 have b8:(pl.form.kind==8)=W:=by simpa using h8
 have a5:(pl.form.kind==11)=W:=by simpa using M
 have b9:(pl.form.kind==9)=W:=by simpa using h9
 have a4:(pl.form.kind==12)=W:=by simpa using F
 go_enter func127,ntmps127;go_wp2_with fail;refine(kj x o k j h0 i f y z).mono ?_;rintro e w9 ⟨rfl,D⟩;have HB:=zD (d.trans (D.mono (B':=w.heap.size) (by simp)));go_wp2;go_ret;exact⟨by rw[HE.u];rfl,HB.u⟩
theorem nD (n:Nat) (x:Option Addr) (o:Nat) (k j:Int) (h:qH w P zL lv cs) (d:G zL<=101) (f:(Rt.yA zL pl.proc).params.length<=1000) (i:Rt.Small pl.form) (y:qk w (P+1) #[J U pl.form.kind,O pl.form.name,J U pl.form.cells,I a1 (G pl.form.params) c1,I a2 (G pl.form.index) c2,I a3 (G pl.form.values) c3] pl.form):Calls Tryz.prog 127 #[H (Q ⟨P,0,Z⟩),J U n,L #[I x (G pl.yY) o,J U pl.form.kind,O pl.form.name,J U pl.form.cells,I a1 (G pl.form.params) c1,I a2 (G pl.form.index) c2,I a3 (G pl.form.values) c3,J U pl.depth,J U pl.opener,J U k,J U j,J U pl.proc]] w fun e w'=>e=T (A (Rt.qh zL n pl))/\Below w.heap.size w w':=by
 by_cases h1:pl.form.kind=1
 ·exact sn n x o k j h d y  h1
 by_cases h2:pl.form.kind=2
 ·exact sm n x o k j h d y h1 h2
 by_cases h3:pl.form.kind=3
 ·exact sl n x o k j h d i y h1 h2 h3
 by_cases h8:pl.form.kind=8
 ·exact sk n x o k j h d f i y h1 h2 h3 h8
 by_cases h11:pl.form.kind=11
 ·exact og n x o k j h d f i y h1 h2 h3 h8 h11
 by_cases h9:pl.form.kind=9
 ·exact sj n x o k j h d f i y h1 h2 h3 h8 h11 h9
 by_cases h12:pl.form.kind=12
 ·exact oe n x o k j h d f i y h1 h2 h3 h8 h11 h9 h12
 exact fu n x o k j h d f i y h1 h2 h3 h8 h11 h9 h12
theorem gy (h:qH w P zL lv cs) (x:G zL<=101) (N:∀p∈zL,Rt.Small p.form):Calls Tryz.prog 77 #[H (Q ⟨P,0,Z⟩)] w fun e w'=>Below w.heap.size w w'/\
      ((¬Rt.nameErr zL 1 (zL.drop 1)=0/\e=T (E #[J U 4,J U (Rt.nameErr zL 1 (zL.drop 1))]))\/
       (Rt.nameErr zL 1 (zL.drop 1)=0/\¬(Rt.yJ zL Rt.xP).kind=3/\e=T (E #[J U 4,J U 0]))\/
       (Rt.nameErr zL 1 (zL.drop 1)=0/\(Rt.yJ zL Rt.xP).kind=3/\e=T (E #[J U 0,J U 0]))):=by
  have y:=zD N;go_enter func77,ntmps77;go_wp2_with fail;go_loopw [4] (fun i wr=>∃k:Nat,1<=k/\k<=G zL+1/\i=J U k/\Rt.nameErr zL k (zL.drop k)=Rt.nameErr zL 1 (zL.drop 1)/\qH wr P zL lv cs/\Below w.heap.size w wr)
    (fun i _=>G zL+1-(intOf i).toNat)
  case atStart=>exact⟨1,zB _,by omega,rfl,rfl,h,zI _ _⟩
  case round=>
    obtain⟨k,b7,hk,rfl,hT,d,j⟩:=hrel;have HT:=zD hT;have z:=j.size;obtain⟨ad,cap,a6,cP⟩:=d.v.Q3;by_cases hlt:k < G zL
    · have b4:(k:Int) < (G zL:Int):=by omega
      obtain⟨g,cap',a0,a1,a2,a3,e0,e1,e2,e3,xe,xf,M,b5,⟨d0,d1,d2,d3,d4,d5,d6,d7,d8,d9,c0,b9⟩,b6,a7⟩:=d.v.at hlt;have o:=a6.symm.trans M;simp at o;obtain⟨rfl,rfl⟩:=o;have L:=aJ y.u zL[k].proc;have a4:=y.u zL[k] (zj hlt);have A:zL.drop k=zL[k]::zL.drop (k+1):=zZ hlt;have HN:Hd (∀b,Rt.qh zL k zL[k]=b->Rt.nameErr zL 1 (zL.drop 1)=if b=D then Rt.nameErr zL (k+1) (zL.drop (k+1))else k):=by
        refine zD ?_;intro b hb;rw[<-HT.u,A,Rt.nameErr,hb]
      generalize zL[k]=p at *;go_wp2_with fail;refine(nD k a0 e0 xe xf d x L a4 a7).mono ?_;rintro e w2 ⟨rfl,f⟩;cases hv:Rt.qh zL k p with
      | true=>
        have HE:=zD (HN.u D hv);have F:=qG (d.zP f) (j.trans (f.mono (B':=w.heap.size) z));go_wp2;go_roundw
        ·exact⟨k+1,by omega,by omega,by go_num,by have:=HE.u;rw[zE trivial]at this;exact this.symm,F.u.1,F.u.2⟩
        ·simp[intOf];omega
      | false=>
        have HE:=zD (HN.u W hv);have F:=zD (j.trans (f.mono (B':=w.heap.size) z));go_wp2;go_ret2;have hE:=HE.u;rw[zA (by decide)]at hE;exact⟨F.u,Or.inl ⟨by omega,by rw[hE];simp⟩⟩
    · have HE:Hd (Rt.nameErr zL 1 (zL.drop 1)=0):=by
        refine zD ?_;rw[<-HT.u,zp (by omega),Rt.nameErr]
      go_wp2_with fail;refine(Hy Rt.xP d.v x).mono ?_;rintro e w2 ⟨fv,rfl,⟨pv,iv,vv,vs,rfl,b1,b2,b3,_⟩,f⟩;obtain⟨b0,cap1,rfl⟩:=zK b1;obtain⟨a9,V,rfl⟩:=zK b2;obtain⟨a8,R,rfl⟩:=zK b3;have F:=zD (j.trans (f.mono (B':=w.heap.size) z));have b8:=eX (Rt.yJ zL Rt.xP).kind (O (Rt.yJ zL Rt.xP).name) (J U (Rt.yJ zL Rt.xP).cells) (I b0 (Rt.yJ zL Rt.xP).params.length cap1) (I a9 (Rt.yJ zL Rt.xP).index.length V) (I a8 (Rt.yJ zL Rt.xP).values.length R);by_cases hm:(Rt.yJ zL Rt.xP).kind=3
      · have a5:((Rt.yJ zL Rt.xP).kind != 3)=W:=by simp[hm]
        have HM:=zD hm;clear hm;go_wp2;go_ret2;exact⟨F.u,Or.inr (Or.inr ⟨HE.u,HM.u,rfl⟩)⟩
      · have a5:((Rt.yJ zL Rt.xP).kind != 3)=D:=by simp[hm]
        have HM:=zD hm;go_wp2;go_ret2;exact⟨F.u,Or.inr (Or.inl ⟨HE.u,HM.u,rfl⟩)⟩
def ReadP (s:Ia) (w:World) (e:Ending) (w':World):Prop:=
  Below w.heap.size w w'/\∃er ln zL,Rt.qx s=(er,ln,zL)/\
    ((¬er=0/\e=T (E #[L #[zg],J U er,J U ln]))\/
     (er=0/\ln=0/\G zL<=101/\∃lv cs,e=T (E #[L #[lv],J U 0,J U 0])/\w'.ownsRow w.heap.size 145 12 lv (G zL) cs.flatten/\ja w' w.heap.size zL cs))
def Gx (s:Ia) (w:World) (e:Ending) (w':World):Prop:=
  Below w.heap.size w w'/\∃er ln zL,Rt.qx s=(er,ln,zL)/\
    ((¬er=0/\e=T (E #[L #[zg],J U er,J U ln]))\/
     (er=0/\ln=0/\G zL<=101/\∃lv cs,e=T (E #[L #[lv],J U 0,J U 0])/\w'.ownsRow w.heap.size 145 12 lv (G zL) cs.flatten/\ja w' w.heap.size zL cs/\VL w' lv (Xb s)))
theorem Gx.plain {e:Ending} (h:Gx s w e w'):ReadP s w e w':=by
 obtain⟨f,j,d,zL,i,h⟩:=h;refine⟨f,j,d,zL,i,?_⟩;rcases h with h | ⟨h1,h2,h3,lv,cs,h4,h5,h6,_⟩
 ·exact Or.inl h
 ·exact Or.inr ⟨h1,h2,h3,lv,cs,h4,h5,h6⟩
theorem Ee (h:qH w P zL lv cs) (L:Lk0 cs):VL w lv (List.replicate (G zL) (0,0)):=by
 intro g n cap e i x hx;have hi:i < G zL:=by
  by_cases hi:i < G zL
  ·exact hi
  ·rw[xt (by simp;omega)]at hx;cases hx
 rw[zJ (by simpa using hi)]at hx;simp at hx;subst hx;have H:=KL hi;have I:(zL.take i).length=i:=by simp;omega
 have A:=h.lines;rw[H]at A;obtain⟨N,c,M,k,o,_,_,_⟩:=A.part;obtain⟨F,D⟩:=L c (by rw[k];simp);have f:∀j u,c[j]?=Q u->w.cell? ⟨g,i*12+j,Z⟩=Q u:=by
  intro j u z;have J:cs.flatten[i*12+j]?=Q u:=by
   rw[k,List.flatten_append,yU (by omega),o,I,vY,List.flatten_cons,yp (qy.1 z).1];exact z
  obtain⟨g',cap',d,_,_,y⟩:=yD h.own J;rw[e]at d;simp at d;rw[d.1];exact y
 exact⟨f 9 _ F,f 10 _ D⟩
theorem Qs {o:Obj} (h:w.heap[N]?=Q o) (d:Below B w w') (f:N < B):w'.heap[N]?=Q o:=by rw[d.block N f];exact h
theorem Vj (h:Rt.ZE s=W):s.size<=40000/\(Rt.lines s).length<=100:=by
 simp[Rt.ZE]at h;have:=Rt.ch s;omega
theorem wm (s:Ia) (w:World) (hs:s.size<=maxLen):Calls Tryz.prog 42 #[O s] w (Gx s w):=by
 have a5:=(zI w.heap.size w).alloc (zB _) (V #[zg] 76);have b4:=zN w (V #[zg] 76);cases hl:Rt.ZE s with
 | true=>
  have HE:Hd (Rt.qx s=(1,0,[])):=zD (by unfold Rt.qx;rw[zE hl]);have N:=zD a5;clear a5 b4;go_enter func42,ntmps42;go_wp2_with fail;refine(dQ s hs).mono ?_;rintro e w1 ⟨rfl,rfl⟩;rw[hl];clear hl;go_wp2_with fail;refine zT (v:=E #[L #[zg],J U 1,J U 0]) ?_ rfl ⟨N.u,1,0,[],HE.u,Or.inl ⟨by decide,rfl⟩⟩;simp[results,results42,go_sem]
 | false=>
  obtain⟨b5,d2⟩:=Vj hl;have a4:=a5.alloc (by simp) (V #[zg] 76);have a6:=yR b4 (V #[zg] 76);have b3:=qD w (V #[zg] 76) (V #[zg] 76);have a8:=zD (show Rt.qx s=Rt.Yq (Rt.rForms 0 (Rt.lines s) [Rt.kb]).1 (Rt.rForms 0 (Rt.lines s) [Rt.kb]).2 (Rt.lines s).length by unfold Rt.qx;rw[zA (by rw[hl];simp)]);clear a5 b4;go_enter func42,ntmps42;go_wp2_with fail;refine(dQ s hs).mono ?_;rintro e w1 ⟨rfl,rfl⟩;rw[hl];clear hl;go_wp2_with fail;refine(iU s b3 b5 d2).mono ?_;rintro e w2 ⟨F,(⟨hf,rfl,lv,cs,D,a9⟩| ⟨hf,rfl,_⟩)⟩
  ·have H:=Qs a6 F (by omega);have b0:=a4.trans (F.mono (B':=w.heap.size) (by omega));have a7:=zD (a8.u.trans (show Rt.Yq (Rt.rForms 0 (Rt.lines s) [Rt.kb]).1 (Rt.rForms 0 (Rt.lines s) [Rt.kb]).2 (Rt.lines s).length=_ from zA (by rw[hf];simp)));obtain⟨b7,a1,R,d3⟩:=Xn (Rt.lines s) 0 [Rt.kb] (Rt.rForms 0 (Rt.lines s) [Rt.kb]).2 (Rt.YM b5) (by simp[Rt.kb];exact ZS (by omega)) (Z6 hf rfl);have b8:=zD (show Xb s=Rt.vS ((Rt.rForms 0 (Rt.lines s) [Rt.kb]).2.drop 1)from rfl);have b1:=zD (Ee D a9);clear a8 a4 a6 b3 F hf a9;generalize (Rt.rForms 0 (Rt.lines s) [Rt.kb]).2=zL at *;subst d3;simp only[ZB]at D a1;simp only[ZB,Z7,Zb,yE]at b8 b1;have b2:G R=(Rt.lines s).length:=by simp at b7;omega
   have y:=zD a7.u;simp only[ZB,Z7,Zb]at y;have d4:=zQ D.block;have W:∀k,lv.ownBlock=Q k->w.heap.size+1 < k:=fun k hk=>by have:=(D.own.lt k hk).1;omega
   clear a7;go_wp2_with fail;refine(ft D (by omega) b1.u (by simp)).mono ?_;rintro e w3 ⟨A,er,ls,bs,T,hcase⟩;have f:w3.heap[w.heap.size]?=Q (V #[zg] 76 (0,0)):=by
    rw[A.block w.heap.size (by omega) (fun e=>by have:=W _ e.symm;omega)];exact H
   have d:Below w.heap.size w w3:=b0.trans ⟨A.os,A.tape,A.output,A.size,fun k hk=>A.block k (by omega) (fun e=>by have:=W _ e.symm;omega)⟩;rw[T]at y;simp only at y;have a3:=Vu R 1 [] [Rt.kb] ls bs (by simp[Rt.kb];exact ZS (by omega)) (fun p hp=>a1 p (by simp[hp]));clear H b0 D A;rcases hcase with⟨rfl,rfl,rfl,⟨cs3,hpr3⟩,hlk3⟩| ⟨rfl,hbs,rfl⟩| ⟨her,rfl⟩
   ·obtain⟨b6,d1⟩:=a3 T (by omega);have j:=zD (y.u.trans (show Rt.vH 0 ls [] (Rt.lines s).length=Rt.jV ls from rfl));clear y T a3 a1;have a0:G ls<=101:=by simp at b6;omega
    clear b6 b2 b7;go_wp2_with fail;refine(gy hpr3 a0 d1).mono ?_;have d0:=zD hlk3;clear hlk3;rintro e w4 ⟨h,(⟨h4,rfl⟩| ⟨h4,h5,rfl⟩| ⟨h4,h5,rfl⟩)⟩
    ·have a2:=zD (j.u.trans (show Rt.jV ls=(4,(Rt.nameErr ls 1 (ls.drop 1):Int),[]) by unfold Rt.jV;rw[zE h4]));have i:=zU f h;have z:=zC i 0 (by simp);have f0:=zS i 0;simp at z;have N:=zD ((d.trans (h.mono (B':=w.heap.size) d.size)).setCell (p:=⟨w.heap.size,0,Z⟩) (zB _) zg);clear j h4 f i h d hpr3;go_wp2_with fail;refine zT (v:=E #[L #[zg],J U 4,J U _]) ?_ rfl ⟨N.u,_,_,_,a2.u,Or.inl ⟨by decide,rfl⟩⟩;simp[results,results42,go_sem,z]
    ·have a2:=zD (j.u.trans (show Rt.jV ls=(4,0,[]) by unfold Rt.jV;rw[zA (by rw[h4];simp),zE h5]));have i:=zU f h;have z:=zC i 0 (by simp);have f0:=zS i 0;simp at z;have N:=zD ((d.trans (h.mono (B':=w.heap.size) d.size)).setCell (p:=⟨w.heap.size,0,Z⟩) (zB _) zg);clear j h4 h5 f i h d hpr3;go_wp2_with fail;refine zT (v:=E #[L #[zg],J U 4,J U 0]) ?_ rfl ⟨N.u,_,_,_,a2.u,Or.inl ⟨by decide,rfl⟩⟩;simp[results,results42,go_sem,z]
    ·have a2:=zD (j.u.trans (show Rt.jV ls=(0,0,ls) by unfold Rt.jV;rw[zA (by rw[h4];simp),zA (by rw[h5];simp)]));have o:=hpr3.zP h;have i:=zU f h;have z:=zC i 0 (by simp);have f0:=zS i 0;have cP:=zC o.block 0 (by simp);simp at z cP;obtain⟨M,x,rfl⟩:=zK o.own;have hK:Qc w4 (w4.setCell ⟨w.heap.size,0,Z⟩ (I M (G ls) x)) (w.heap.size+1+1) w.heap.size:=fun t size n v xs _ hv=>yn (qL hv (by show w.heap.size < _;omega) _) (by omega);have HF:=qG (yn (b':=w.heap.size) (qL o.own (a:=⟨w.heap.size,0,Z⟩) (by show w.heap.size < _;omega) (I M (G ls) x)) (by omega)) (hK.lines _ _ o.lines);have N:=zD ((d.trans (h.mono (B':=w.heap.size) d.size)).setCell (p:=⟨w.heap.size,0,Z⟩) (zB _) (I M (G ls) x));have b9:Hd (VL (w4.setCell ⟨w.heap.size,0,Z⟩ (I M (G ls) x)) (I M (G ls) x) (Xb s)):=by
      refine zD ?_;rw[b8.u];refine(d0.u.zP hpr3.own h).same (fun g hg=>zO w4 ⟨w.heap.size,0,Z⟩ _ g ?_);have:=(o.own.lt g hg).1;show g≠w.heap.size;omega
     clear j h4 h5 f i h d hpr3 o hK W;go_wp2_with fail;refine zT (v:=E #[L #[I M (G ls) x],J U 0,J U 0]) ?_ rfl ⟨N.u,_,_,_,a2.u,Or.inr ⟨rfl,rfl,a0,_,_,rfl,HF.u.1,HF.u.2,b9.u⟩⟩;simp[results,results42,go_sem,z]
   ·have j:=zD (y.u.trans (show Rt.vH 0 ls bs (Rt.lines s).length=(3,((Rt.lines s).length:Int),[]) by unfold Rt.vH;rw[zA (by simp),zE hbs]));have z:=zC f 0 (by simp);have f0:=zS f 0;simp at z;have N:=zD (d.setCell (p:=⟨w.heap.size,0,Z⟩) (zB _) zg);have HR:=zD b2;clear y f d a3 T a1 hbs b2;go_wp2_with fail;refine zT (v:=E #[L #[zg],J U 3,J U (G R)]) ?_ rfl ⟨N.u,_,_,_,j.u,Or.inl ⟨by decide,by rw[HR.u]⟩⟩;simp[results,results42,go_sem,z]
   ·have j:=zD (y.u.trans (show Rt.vH er ls bs (Rt.lines s).length=(3,(er:Int),[]) by unfold Rt.vH;rw[zE her]));have z:=zC f 0 (by simp);have f0:=zS f 0;simp at z;have N:=zD (d.setCell (p:=⟨w.heap.size,0,Z⟩) (zB _) zg);clear y f d a3 T a1 her;go_wp2_with fail;refine zT (v:=E #[L #[zg],J U 3,J U er]) ?_ rfl ⟨N.u,_,_,_,j.u,Or.inl ⟨by decide,rfl⟩⟩;simp[results,results42,go_sem,z]
  ·have H:=Qs a6 F (by omega);have a7:=zD (a8.u.trans (show Rt.Yq (Rt.rForms 0 (Rt.lines s) [Rt.kb]).1 (Rt.rForms 0 (Rt.lines s) [Rt.kb]).2 (Rt.lines s).length=_ from zE hf));have z:=zC H 0 (by simp);have f0:=zS H 0;simp at z;have N:=zD ((a4.trans (F.mono (B':=w.heap.size) (by omega))).setCell (p:=⟨w.heap.size,0,Z⟩) (zB _) zg);clear a8 a4 a6 b3 F hf H;generalize (Rt.rForms 0 (Rt.lines s) [Rt.kb]).1=ln at *;go_wp2_with fail;refine zT (v:=E #[L #[zg],J U 2,J U ln]) ?_ rfl ⟨N.u,_,_,_,a7.u,Or.inl ⟨by decide,rfl⟩⟩;simp[results,results42,go_sem,z]
theorem read_any (s:Ia) (d:s.size<=maxLen):Calls Tryz.prog 42 #[O s] w (ReadP s w):=(wm s w d).mono fun _ _ h=>h.plain
theorem isStop_v (n:Int) (h:Hg w P B zL lv cs):Calls Tryz.prog 85 #[H (Q ⟨P,0,Z⟩),J U n] w fun e w'=>e=T (A (Rt.xV zL (yM zL n)))/\Below w.heap.size w w':=by
 go_enter func85,ntmps85;go_wp2_with fail;refine(Line_v n h).mono ?_;rintro e w1 ⟨a0,a1,a2,a3,c0,c1,c2,c3,xe,xf,rfl,_,_,o⟩;generalize HPL:yM zL n=pl at *
 replace HPL:=zD HPL
 have d:=o.alloc o.size (V #[I a0 (G pl.yY) c0,J U pl.form.kind,O pl.form.name,J U pl.form.cells,I a1 (G pl.form.params) c1,I a2 (G pl.form.index) c2,I a3 (G pl.form.values) c3,J U pl.depth,J U pl.opener,J U xe,J U xf,J U pl.proc] 145);have h0:=h.zP d;have k:=d.size;cases hs:Rt.xy pl.form.kind with
 | true=>
  have L:=zD (show Rt.xV zL pl=D by simp[Rt.xV,hs]);have M:=zD d;have j:pl.form.kind=8\/pl.form.kind=9\/pl.form.kind=10\/pl.form.kind=11\/pl.form.kind=5\/pl.form.kind=7\/pl.form.kind=12\/pl.form.kind=13:=by
   simp[Rt.xy]at hs;omega
  generalize pl.form.kind=kx at *;rcases j with rfl | rfl | rfl | rfl | rfl | rfl | rfl | rfl
  all_goals
   go_wp2;go_ret;exact⟨by rw[HPL.u,L.u] <;> rfl,M.u⟩
 | false=>
  have j:¬pl.form.kind=8/\¬pl.form.kind=9/\¬pl.form.kind=10/\¬pl.form.kind=11/\¬pl.form.kind=5/\¬pl.form.kind=7/\¬pl.form.kind=12/\¬pl.form.kind=13:=by
   simp[Rt.xy]at hs;omega
  obtain⟨n8,n9,a5,a4,n5,n7,R,N⟩:=j;have b8:(pl.form.kind==8)=W:=by simpa using n8
  have b9:(pl.form.kind==9)=W:=by simpa using n9
  have b3:(pl.form.kind==10)=W:=by simpa using a5
  have b2:(pl.form.kind==11)=W:=by simpa using a4
  have b5:(pl.form.kind==5)=W:=by simpa using n5
  have b7:(pl.form.kind==7)=W:=by simpa using n7
  have b1:(pl.form.kind==12)=W:=by simpa using R
  have b0:(pl.form.kind==13)=W:=by simpa using N
  by_cases n4:pl.form.kind=4
  ·have b4:(pl.form.kind==4)=D:=by simpa using n4
   have L:=zD (show Rt.xV zL pl=decide ((Rt.yA zL pl.opener).kind=3) by unfold Rt.xV;rw[zA (by rw[hs];simp),zE n4]);clear hs n4;go_wp2_with fail;refine(Line_v pl.opener h0).mono ?_;rintro e w2 ⟨a7,F,z,y,x,cap1,i,f,ye,yf,rfl,_,_,a6⟩;rw[Zk];generalize (yM zL pl.opener).depth=dp at *;generalize (yM zL pl.opener).opener=opn at *;generalize (yM zL pl.opener).proc=pr at *;generalize (yM zL pl.opener).yY.length=tl at *;have M:=zD (d.trans (a6.mono (B':=w.heap.size) k));generalize (Rt.yA zL pl.opener)=fo at *;have a9:=VA a7 tl x fo.kind fo.name fo.cells F (G fo.params) cap1 z (G fo.index) i y (G fo.values) f dp opn ye yf pr;have a8:=eX fo.kind (O fo.name) (J U fo.cells) (I F (G fo.params) cap1) (I z (G fo.index) i) (I y (G fo.values) f);go_wp2;go_ret;exact⟨by rw[HPL.u,L.u];exact yj (by rw[beq_eq_decide]),M.u⟩
  ·have b4:(pl.form.kind==4)=W:=by simpa using n4
   have L:=zD (show Rt.xV zL pl=W by unfold Rt.xV;rw[zA (by rw[hs];simp),zA n4]);have M:=zD d;go_wp2;go_ret;exact⟨by rw[HPL.u,L.u] <;> rfl,M.u⟩
theorem infoIntP:(Tryz.prog.info? 3).map (fun i=>(i.zero,i.size,i.bytes))=Q (Q (J U 0),1,8):=by kernel_rfl
namespace Rt
def parNo (i:Nat):Ib->Ia->Int
 | [],_=>-1
 | p::r,x=>if p=x then (i:Int)else parNo (i+1) r x
def vU (zL:List PL) (n:Int):PL:=if n < 0 then kb else (zL[n.toNat]?).getD kb
def jR (lk:Qw) (n:Int):Int×Int:=if n < 0 then (0,0)else (lk[n.toNat]?).getD (0,0)
def goOn (zL:List PL) (lk:Qw):Nat->Int->Int
 | 0,_=>0
 | f+1,n=>
  if 0 < n/\n < zL.length then
   if xV zL (vU zL n)=true then n
   else if (vU zL n).form.kind=4/\(yA zL (vU zL n).opener).kind=7 then (vU zL n).opener
   else if (vU zL n).form.kind=6 then goOn zL lk f (wrap64 ((jR lk (vU zL n).opener).2+1))
   else goOn zL lk f (wrap64 (n+1))
  else 0
def ky (lk:Qw) (n:Int):Int:=if 0 < (jR lk n).1 then wrap64 ((jR lk n).1+1)else wrap64 ((jR lk n).2+1)
structure Fm where
 params:List Int
 call:Int
structure Mc where
 zH:List Fm
 values:List (List Int)
 taken:Int
 output:List Int
 line:Int
 fin:Int
structure Src where
 zL:List PL
 lk:Qw
 input:List Int
structure Q9 where
 line:Int
 cell:Int
def Qe:Fm:=⟨[],0⟩
def cellsOf (m:Mc) (l:Int):List Int:=
 if 0 < l/\l < G m.values then (m.values[l.toNat]?).getD []
 else if l=0/\0 < G m.zH then (m.zH.getLastD Qe).params
 else []
def Q6 (m:Mc) (s:Q9):Bool:=decide (0<=s.cell/\s.cell < (cellsOf m s.line).length)
def ZL (m:Mc) (s:Q9):Int:=if s.cell < 0 then 0 else ((cellsOf m s.line)[s.cell.toNat]?).getD 0
def jN (m:Mc) (s:Q9) (v:Int):Mc:=
 if Q6 m s=D then
  if 0 < s.line then { m with values:=m.values.modify s.line.toNat (fun c=>c.set s.cell.toNat v) }
  else { m with zH:=m.zH.modify (G m.zH-1) (fun f=>⟨f.params.set s.cell.toNat v,f.call⟩) }
 else m
def qJ (S:Src) (m:Mc):Int:=(vU S.zL m.line).proc
def vx (S:Src) (m:Mc) (x:Ia):Q9:=
 let i:=parNo 0 (yA S.zL (qJ S m)).params x
 if 0<=i then ⟨0,i⟩else ⟨xb S.zL x,0⟩
def kX (S:Src) (m:Mc) (x:Ia) (n:Int):Option Q9:=
 if Q6 m ⟨xb S.zL x,n⟩=D then Q ⟨xb S.zL x,n⟩else Z
def Vi (b:Bool):Int:=if b then 1 else 0
def xF (code l r:Int):Int×Int:=
 if code=5 then (wrap64 (l+r),0)
 else if code=6 then (wrap64 (l-r),0)
 else if code=7 then (wrap64 (l*r),0)
 else if code=10 then (Vi (decide (l < r)),0)
 else if code=11 then (Vi (decide (l=r)),0)
 else if r=0 then (0,2)
 else if code=8 then (wrap64 (l.tdiv r),0)
 else (l.tmod r,0)
def workI (S:Src) (m:Mc) (st:List Int) (o:qM):List Int×Int:=
 if o.code=1 then (st++[o.number],0)
 else if o.code=2 then (st++[ZL m (vx S m o.name)],0)
 else if o.code=3 then
  match kX S m o.name (st.getLastD 0)with
  | none=>(st.dropLast,3)
  | some s=>(st.dropLast++[ZL m s],0)
 else if o.code=4 then (st.dropLast++[wrap64 (-(st.getLastD 0))],0)
 else
  let r:=st.getLastD 0
  let st1:=st.dropLast
  let l:=st1.getLastD 0
  let st2:=st1.dropLast
  if (xF o.code l r).2=0 then (st2++[(xF o.code l r).1],0)else (st2,(xF o.code l r).2)
def evalI (S:Src) (m:Mc):List qM->List Int->Int×Int
 | [],st=>(st.getLastD 0,0)
 | o::r,st=>if (workI S m st o).2=0 then evalI S m r (workI S m st o).1 else (0,(workI S m st o).2)
def zr (S:Src) (m:Mc) (e:List qM):Int×Int:=evalI S m e []
def kP (S:Src) (m:Mc) (f:qS):Int×Int:=match f.values with
 | []=>(0,0)
 | e::_=>zr S m e
structure Rec where
 kind:Int
 line:Int
 at_:Q9
 value:Int
def YV (r:Rec):List Value:=[J U r.kind,J U r.line,J U r.at_.line,J U r.at_.cell,J U r.value]
def stay (n:Int):Rec:=⟨1,n,⟨0,0⟩,0⟩
structure Out where
 fin:Int
 next:Int
 YU:List Rec
 m:Mc
def stored (m:Mc) (s:Q9):Rec:=⟨4,0,s,ZL m s⟩
def argsI (S:Src) (m:Mc):List (List qM)->List Int->List Int×Int
 | [],acc=>(acc,0)
 | e::r,acc=>if (zr S m e).2=0 then argsI S m r (acc++[(zr S m e).1])else (acc,(zr S m e).2)
def ended (m:Mc) (t:Int):Out:=⟨t,0,[],m⟩
def perform (S:Src) (m:Mc) (f:qS):Out:=
 let v:=kP S m f
 let nx:=wrap64 (m.line+1)
 if f.kind=8 then
  if v.2=0 then ⟨0,nx,[stay m.line,stored m (vx S m f.name)],jN m (vx S m f.name) v.1⟩else ended m v.2
 else if f.kind=9 then
  if (zr S m f.index).2=0 then
   if v.2=0 then
    match kX S m f.name (zr S m f.index).1 with
    | none=>ended m 3
    | some s=>⟨0,nx,[stay m.line,stored m s],jN m s v.1⟩
   else ended m v.2
  else ended m (zr S m f.index).2
 else if f.kind=10 then
  if v.2=0 then
   if 50<=m.output.length then ended m 6 else ⟨0,nx,[stay m.line,⟨5,0,⟨0,0⟩,0⟩],{ m with output:=m.output++[v.1] }⟩
  else ended m v.2
 else if f.kind=11 then
  if m.taken < 0\/S.input.length<=m.taken then ended m 4
  else ⟨0,nx,[stay m.line,stored m (vx S m f.name),⟨6,0,⟨0,0⟩,0⟩],{ jN m (vx S m f.name) ((S.input[m.taken.toNat]?).getD 0)with taken:=wrap64 (m.taken+1) }⟩
 else if f.kind=5\/f.kind=7 then
  if v.2=0 then ⟨0,if v.1=0 then ky S.lk m.line else nx,[stay m.line],m⟩else ended m v.2
 else if f.kind=12 then
  if (argsI S m f.values []).2=0 then
   if 6<=m.zH.length then ended m 5
   else ⟨0,wrap64 (xb S.zL f.name+1),[⟨2,m.line,⟨0,0⟩,0⟩],{ m with zH:=m.zH++[⟨(argsI S m f.values []).1,m.line⟩] }⟩
  else ended m (argsI S m f.values []).2
 else if m.zH.length < 2 then ended m 1
 else
  let g:=m.zH.getLastD Qe
  ⟨0,wrap64 (g.call+1),⟨3,m.line,⟨0,0⟩,g.call⟩::g.params.map (fun v=>⟨7,0,⟨0,0⟩,v⟩),{ m with zH:=m.zH.dropLast }⟩
def qd (S:Src) (m:Mc):Mc×List Rec:=
 if m.fin=0 then
  let o:=perform S m (yA S.zL m.line)
  if o.fin=0 then ({ o.m with line:=goOn S.zL S.lk 102 o.next },o.YU)
  else ({ m with fin:=o.fin },[stay m.line])
 else (m,[])
def ji (f:qS):List Int:=List.replicate (if f.kind=1 then 1 else f.cells.toNat) 0
def firstM (S:Src):Mc:=⟨[Qe],S.zL.map (fun p=>ji p.form),0,[],goOn S.zL S.lk 102 (wrap64 (xb S.zL xP+1)),0⟩
def runM (S:Src):Nat->Mc->Mc×Nat
 | 0,m=>(m,0)
 | k+1,m=>if m.fin=0 then ((runM S k (qd S m).1).1,(runM S k (qd S m).1).2+1)else (m,0)
end Rt
structure vu (w:World) (P B:Nat) (zL:List Rt.PL) (lk:Qw) (lv:Value) (cs:List (List Value)):Prop where
 lt:P < w.heap.size
 cell:w.cell? ⟨P,0,none⟩=some lv
 own:w.ownsRow B 145 12 lv zL.length cs.flatten
 lines:ja w B zL cs
 gE:VL w lv lk
 len:lk.length=zL.length
theorem vu.zP {w w':World} {P B:Nat} {zL:List Rt.PL} {lk:Qw} {lv:Value} {cs:List (List Value)} (h:vu w P B zL lk lv cs) (d:Below w.heap.size w w'):vu w' P B zL lk lv cs:=
 ⟨zX h.lt d.size,cell_later d h.cell,yG h.own d,(xZ d).lines _ _ h.lines,h.gE.zP h.own d,h.len⟩
theorem vu.v (h:vu w P B zL lk lv cs):Hg w P B zL lv cs:=⟨h.lt,h.cell,h.own,h.lines⟩
def Dq (B:Nat) (pl:Rt.PL) (x:Int×Int) (w:World) (e:Ending) (w':World):Prop:=∃a0 a1 a2 a3 c0 c1 c2 c3,e=T (L #[I a0 (G pl.yY) c0,J U pl.form.kind,O pl.form.name,J U pl.form.cells,I a1 (G pl.form.params) c1,I a2 (G pl.form.index) c2,I a3 (G pl.form.values) c3,J U pl.depth,J U pl.opener,J U x.1,J U x.2,J U pl.proc])/\w'.ownsRow B 188 2 (I a0 (G pl.yY) c0) (G pl.yY) (qa pl.yY)/\qk w' B #[J U pl.form.kind,O pl.form.name,J U pl.form.cells,I a1 (G pl.form.params) c1,I a2 (G pl.form.index) c2,I a3 (G pl.form.values) c3] pl.form/\Below w.heap.size w w'
theorem gG (d:Below w.heap.size w w'):Dq B Rt.kb (0,0) w (T (L #[I Z 0 0,J U 0,O ⟨#[]⟩,J U 0,I Z 0 0,I Z 0 0,I Z 0 0,J U 0,J U 0,J U 0,J U 0,J U 0])) w':=
 ⟨Z,Z,Z,Z,0,0,0,0,rfl,zW _ _ _ _,vM,d⟩
theorem pF {n:Int} (h:n < 0\/(G lk:Int)<=n):Rt.jR lk n=(0,0):=by
 unfold Rt.jR;split
 ·rfl
 ·rw[xt (by omega)];rfl
theorem Kp (n:Int) (h:vu w P B zL lk lv cs):Calls Tryz.prog 90 #[H (Q ⟨P,0,Z⟩),J U n] w (Dq B (yM zL n) (Rt.jR lk n) w):=by
 obtain⟨ad,cap,y,cP⟩:=h.v.Q3;have W:=h.lt;have N:=qG h.gE h.len;by_cases h0:n < 0
 ·have F:=zD (Ql (zL:=zL) (Or.inl h0));have D:=zD (pF (lk:=lk) (Or.inl h0));clear h;go_enter func90,ntmps90;go_wp2_with fail;refine zT (v:=L #[I Z 0 0,J U 0,O ⟨#[]⟩,J U 0,I Z 0 0,I Z 0 0,I Z 0 0,J U 0,J U 0,J U 0,J U 0,J U 0]) ?_ rfl (by rw[F.u,D.u];exact gG ((zI _ _).alloc (zB _) _));simp[results,results90,go_sem]
 by_cases h1:(G zL:Int)<=n
 ·have F:=zD (Ql (zL:=zL) (Or.inr h1));have D:=zD (pF (lk:=lk) (Or.inr (by rw[N.u.2];exact h1)));clear h;go_enter func90,ntmps90;go_wp2_with fail;refine zT (v:=L #[I Z 0 0,J U 0,O ⟨#[]⟩,J U 0,I Z 0 0,I Z 0 0,I Z 0 0,J U 0,J U 0,J U 0,J U 0,J U 0]) ?_ rfl (by rw[F.u,D.u];exact gG ((zI _ _).alloc (zB _) _));simp[results,results90,go_sem]
 obtain⟨k,rfl⟩:=yr (show 0<=n by omega);have o:k < G zL:=by omega
 obtain⟨g,cap',a0,a1,a2,a3,e0,e1,e2,e3,T,R,d,V,⟨d0,d1,d2,d3,d4,d5,d6,d7,d8,d9,M,a4⟩,x,A⟩:=h.v.at o;have f:=y.symm.trans d;simp at f;obtain⟨rfl,rfl⟩:=f;have F:=zD (QQ o);have z:k < G lk:=by rw[h.len];exact o
 obtain⟨j,i⟩:=h.gE g _ cap d k lk[k] (zJ z);rw[d9]at j;rw[M]at i;injection j with j;injection j with _ j;injection i with i;injection i with _ i;have D:Hd (Rt.jR lk (k:Int)=(T,R)):=by
  refine zD ?_;unfold Rt.jR;rw[zA (by omega)];simp only[xS];rw[zJ z,j,i];rfl
 have HF:=qG x A;clear j i;clear h A x y d;generalize zL[k]=pl at *;go_enter func90,ntmps90;go_wp2_with fail;refine zT (v:=L #[I a0 (G pl.yY) e0,J U pl.form.kind,O pl.form.name,J U pl.form.cells,I a1 (G pl.form.params) e1,I a2 (G pl.form.index) e2,I a3 (G pl.form.values) e3,J U pl.depth,J U pl.opener,J U T,J U R,J U pl.proc]) ?_ rfl (by rw[F.u,D.u];exact⟨a0,a1,a2,a3,e0,e1,e2,e3,rfl,yG HF.u.1 ((zI _ _).alloc (zB _) _),(xZ (B:=B) ((zI _ _).alloc (zB _) _)).form HF.u.2,(zI _ _).alloc (zB _) _⟩);simp[results,results90,go_sem]
end Go.Proofs.YthleadfkfnnadaaGreat
