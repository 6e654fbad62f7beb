/- The machine: a procedure is left. -/
import Derived.Test.YthleadfkfnnadaaGreatRgC
import Derived.Deep.DeepCutAuto
set_option maxHeartbeats 4000000
set_option maxRecDepth 100000
set_option linter.all false
namespace Go.Proofs.YthleadfkfnnadaaGreat
open Value renaming int->J,slice->I,string->O,pointer->H,agg->L,tuple->E
open IntKind renaming i64->U
open Option renaming none->Z,some->Q
open Bool renaming false->W,true->D
open List renaming length->G
open Ending renaming returned->T
open Obj renaming cells->V
open Rf Rt Go.Proofs.Tryz
open Go.RowKit
variable {c:Array Value} {r:Int×Int} {ls:List Ib} {t:Ib} {i S g cap P B N:Nat} {X:Qg} {p p':Rf.Pl} {v iv fv vv cv ov:Value} {w w0 w1 w':World}
theorem JM (ls:List Ib) (L:Nat) (h:L < G ls) (f:G ls<=100) (d:Rf.nested ls=0) (S g cap:Nat):∀w',jA w' S g cap ls->Calls Tryz.prog 94 #[H (Q ⟨S,0,Z⟩),J U ((L:Int)+1+1)] w' fun e w''=>e=T (J U (Rf.jc ls (L+1)))/\Below w'.heap.size w' w'':=fun w' hG=>by
 have:=ai (L+1) hG (by omega) f d;rw[show ((L+1:Nat):Int)+1=(L:Int)+1+1 by omega]at this;exact this
theorem Xm {tb o cp:Nat} (h:xA w (I (Q ⟨tb,o,Z⟩) (G t) cp) t) (f:i < G t):w.cell? ⟨tb,o+i,Z⟩=Q (O t[i]):=by
 obtain⟨b',k,cap',d,j⟩:=h.cell f;simp at d;obtain⟨⟨rfl,rfl⟩,rfl⟩:=d;exact j
theorem fX (L:Nat) {qo:List Int} (h:JW w0 w S g cap ls P p X) (A:xA w0 v t) (hi:kA w0 iv qo) (f2:G qo<=100) (hL:Lawful ls) (R:V9 ls p) (f:Rf.nested ls=0) (V:p.line=(L:Int)+1) (d0:L < G ls) (a1:2<=G t) (f1:(t[0].toList==[114,101,97,100])=D) (te:Int) (F:te=if (G qo)<=p.read then 4 else 0) (N:p'=if (G qo)<=p.read then p else { Rf.vV ls p t[1] (qo.getD p.read 0)with read:=p.read+1,line:=(Rf.jc ls (L+1):Nat) }):Calls Tryz.prog 99 #[H (Q ⟨S,0,Z⟩),H (Q ⟨P,0,Z⟩),v,iv] w fun e w'=>e=T (J U te)/\JW w0 w' S g cap ls P p' X:=by
 have HI:=zD h;have d2:=qG A hi;have d6:=zD (hi.zP h.iB);have a0:=hL.len;have d4:=zD hL;have d3:=zD R;have HE:=qG F N;have HG:=zD (JM ls L d0 a0 f S g cap);have o:=h.pl.block;have c5:w.cell? ⟨P,5,Z⟩=Q (J U ((L:Int)+1)):=by have:=zC o 5 (by simp[jh]);rw[this];exact qB (fun x=>Q (Value.int U x)) V
 have c3:w.cell? ⟨P,3,Z⟩=Q (J U p.read):=zC o 3 (by simp[jh]);have y:=A.zP h.iB;obtain⟨ad,cp,rfl,d9⟩:=A.form;obtain⟨tb,d,rfl⟩:=A.qZ (by intro h;rw[h]at a1;simp at a1);have b7:0 < G t:=by omega
 have a2:1 < G t:=by omega
 have c0:=Xm y b7;have c1:=Xm y a2;rw[qO]at c0;obtain⟨f0,d7,rfl⟩:∃a c,iv=I a (G qo) c:=by obtain⟨a,c,e,_⟩:=hi;exact⟨a,c,e⟩
 have a8:=zD (show ∀w',Below w0.heap.size w0 w'->w'.cell? ⟨tb,d+1,Z⟩=Q (O t[1])from fun w' hb=>Xm (A.zP hb) a2);have d8:(1:Int) < (G t:Int):=by omega
 clear h A hi hL R F N o y f V;generalize t[0]=x0 at *;generalize t[1]=x1 at *;by_cases hr:G qo<=p.read
 ·have b6:(G qo:Int)<=(p.read:Int):=by omega
  have j:=qG (HE.u.1.trans (zE hr)) (HE.u.2.trans (zE hr));go_enter func99,ntmps99;go_wp2;go_ret;exact⟨by rw[j.u.1];rfl,by rw[j.u.2];exact HI.u⟩
 ·have b6:¬(G qo:Int)<=(p.read:Int):=by omega
  have k:p.read < G qo:=by omega
  have j:=qG (HE.u.1.trans (zA hr)) (HE.u.2.trans (zA hr));obtain⟨ib,io,ic,he,ci⟩:=d6.u.get k;simp only[xJ,jH]at he;obtain⟨rfl,he⟩:=he;have b0:=zD (show ∀w',Below w0.heap.size w0 w'->w'.cell? ⟨ib,io+p.read,Z⟩=Q (J U qo[p.read])from fun w' hb=>by
   obtain⟨b2,o2,c2,a4,d1⟩:=(d2.u.2.zP hb).get k;simp only[xJ,zx,Z9,jH,jJ]at a4;obtain⟨⟨rfl,rfl⟩,_⟩:=a4;exact d1)
  have a7:=zD (show qo.getD p.read 0=qo[p.read] by simp[k]);generalize qo[p.read]=val at *;go_enter func99,ntmps99;go_wp2_with fail;have b8:(Rf.vV ls p x1 val).read=p.read/\(Rf.vV ls p x1 val).line=p.line:=by unfold Rf.vV;split <;> exact⟨rfl,rfl⟩
  have b4:=zD b8;have a9:=zD (show ∀w',JW w0 w' S g cap ls P (Rf.vV ls p x1 val) X->w'.cell? ⟨P,3,Z⟩=Q (J U p.read)/\(∀i,w'.frozen? ⟨P,i,Z⟩=W)/\w'.cell? ⟨P,5,Z⟩=Q (J U p.line)from fun w' hI=>by
   have o:=hI.pl.block;have a3:=zC o 3 (by simp[jh]);have a5:=zC o 5 (by simp[jh]);refine⟨?_,zS o,?_⟩
   ·rw[a3];exact qB (fun x:Nat=>Q (Value.int U (x:Int))) b4.u.1
   ·rw[a5];exact qB (fun x=>Q (Value.int U x)) b4.u.2)
  go_region_held3 (fun w'=>w'.cell? ⟨tb,d+1,Z⟩=Q (O x1)/\w'.cell? ⟨P,3,Z⟩=Q (J U p.read)/\w'.cell? ⟨ib,io+p.read,Z⟩=Q (J U val)) (first | go_keep | exact⟨a8.u _ hI1.iB,(a9.u _ hI1).1,b0.u _ hI1.iB⟩) ((go_at_call 155;refine(pX x1 val (HI.u.zP (zh _)) d4.u d3.u).mono ?_;rintro e w1 ⟨rfl,hI1⟩));obtain⟨b3,bz,b5⟩:=a9.u _ hI1;have a6:=hI1.to (hI1.pl.EG (p.read+1));rw[show ((p.read+1:Nat):Int)=(p.read:Int)+1 by omega]at a6;have b1:=zD a6;go_wp2_with fail;refine(HG.u _ b1.u.JZ).mono ?_;rintro e w3 ⟨rfl,b9⟩;have z:=b1.u.zP b9;have M:=z.pl.block;have d5:w3.cell? ⟨P,5,Z⟩=Q (J U (Rf.vV ls p x1 val).line):=zC M 5 (by simp[jh]);have z3:=zS M;have HF:=zD (z.to (z.pl.Qj (Rf.jc ls (L+1):Nat)));go_wp2;go_ret;exact⟨by rw[j.u.1];rfl,by rw[j.u.2,a7.u];exact HF.u⟩
theorem cV (L:Nat) (iv:Value) (h:JW w0 w S g cap ls P p X) (hV:xA w0 v t) (hL:Lawful ls) (R:V9 ls p) (f:Rf.nested ls=0) (V:p.line=(L:Int)+1) (a2:L < G ls) (a5:Rf.other ls L<=G ls) (a0:2<=G t) (b7:(t[0].toList==[114,101,97,100])=W) (b9:(t[0].toList==[112,114,105,110,116])=W) (hw:Z5 ls p r (t.drop 1)) (a6:∃a n c,iv=I a n c) (N:p'=if r.2=0 then { p with line:=(Rf.jc ls (if r.1=0 then Rf.other ls L else L+1):Nat) }else p):Calls Tryz.prog 99 #[H (Q ⟨S,0,Z⟩),H (Q ⟨P,0,Z⟩),v,iv] w fun e w'=>e=T (J U r.2)/\JW w0 w' S g cap ls P p' X:=by
 have HI:=zD h;have y:=hL.len;have b0:=zD R;have HE:=zD N;have HW:=zD hw;have HG:=zD (JM ls L a2 y f S g cap);have a9:=zD (show ∀w',jA w' S g cap ls->Calls Tryz.prog 157 #[H (Q ⟨S,0,Z⟩),J U ((L:Int)+1)] w' fun e w''=>e=T (J U (Rf.other ls L))/\Below w'.heap.size w' w'' from fun w' hG=>AW L hG a2 y);have b1:=zD (show ∀w',jA w' S g cap ls->Calls Tryz.prog 94 #[H (Q ⟨S,0,Z⟩),J U ((Rf.other ls L:Nat)+1)] w' fun e w''=>e=T (J U (Rf.jc ls (Rf.other ls L)))/\Below w'.heap.size w' w'' from fun w' hG=>ai (Rf.other ls L) hG a5 y f);have hq:=h.pl.block;have c5:w.cell? ⟨P,5,Z⟩=Q (J U ((L:Int)+1)):=by have:=zC hq 5 (by simp[jh]);rw[this];exact qB (fun x=>Q (Value.int U x)) V
 have F:=hV.zP h.iB;obtain⟨ad,cp,rfl,b3⟩:=hV.form;obtain⟨tb,d,rfl⟩:=hV.qZ (by intro h;rw[h]at a0;simp at a0);have a1:0 < G t:=by omega
 have c0:=Xm F a1;rw[qO]at c0;have a3:=zD (show ∀w',Below w0.heap.size w0 w'->w'.cell? ⟨tb,d,Z⟩=Q (O t[0])from fun w' hb=>by have:=Xm (hV.zP hb) a1;rw[qO]at this;exact this);have HV:=zD F;obtain⟨b5,b4,b2,rfl⟩:=a6;clear h hV hL R N hq F f V hw;generalize t[0]=x0 at *;go_enter func99,ntmps99;go_wp2_with fail
 all_goals
  refine(HW.u _ S g cap P _ HI.u.JZ (HI.u.read b0.u) (by first | exact xA.gone (by omega) rfl | exact HV.u.drop 1 _ _ rfl (by omega))).mono ?_;rintro e w2 ⟨rfl,a8⟩;have j:=zD (HI.u.zP a8);have ct:=a3.u _ j.u.iB;obtain⟨r1,r2⟩:=r;by_cases hr:r2=0
  ·subst hr;have z:=zD (HE.u.trans (zE (by first | rfl | trivial)));by_cases hz:r1=0
   ·subst hz;have M:=zD (z.u.trans (qB (fun k:Nat=>({ p with line:=(Rf.jc ls k:Nat) }:Rf.Pl)) (zE (by first | rfl | trivial))));go_wp2_with fail;refine(a9.u _ j.u.JZ).mono ?_;rintro e w3 ⟨rfl,a7⟩;have a4:=zD (j.u.zP a7);go_wp2_with fail;refine(b1.u _ a4.u.JZ).mono ?_;rintro e w4 ⟨rfl,A⟩;have i:=a4.u.zP A;have o:=i.pl.block;have d5:w4.cell? ⟨P,5,Z⟩=Q (J U p.line):=zC o 5 (by simp[jh]);have z4:=zS o;have HF:=zD (i.to (i.pl.Qj (Rf.jc ls (Rf.other ls L):Nat)));go_wp2;go_ret;exact⟨rfl,by rw[M.u];exact HF.u⟩
   ·have b6:(r1==0)=W:=by simpa using hz
    have M:=zD (z.u.trans (qB (fun k:Nat=>({ p with line:=(Rf.jc ls k:Nat) }:Rf.Pl)) (zA hz)));go_wp2_with fail;refine(HG.u _ j.u.JZ).mono ?_;rintro e w4 ⟨rfl,A⟩;have i:=j.u.zP A;have o:=i.pl.block;have d5:w4.cell? ⟨P,5,Z⟩=Q (J U p.line):=zC o 5 (by simp[jh]);have z4:=zS o;have HF:=zD (i.to (i.pl.Qj (Rf.jc ls (L+1):Nat)));go_wp2;go_ret;exact⟨rfl,by rw[M.u];exact HF.u⟩
  ·have b8:(r2 != 0)=D:=by simpa using hr
   have z:=zD (HE.u.trans (zA hr));go_wp2;go_ret;exact⟨rfl,by rw[z.u];exact j.u⟩
theorem dy (L:Nat) (iv:Value) (h:JW w0 w S g cap ls P p X) (hV:xA w0 v t) (hL:Lawful ls) (b6:V9 ls p) (A:Rf.nested ls=0) (b8:p.line=(L:Int)+1) (d6:L < G ls) (f0:G p.out<=50) (a2:2<=G t) (f6:(t[0].toList==[114,101,97,100])=W) (f8:(t[0].toList==[112,114,105,110,116])=D) (hw:Z5 ls p r (t.drop 1)) (b9:∃a n c,iv=I a n c) (te:Int) (b3:te=if r.2=0 then (if 50<=G p.out then 6 else 0)else r.2) (b4:p'=if r.2=0 then (if 50<=G p.out then p else { p with out:=p.out++[r.1],line:=(Rf.jc ls (L+1):Nat) })else p):Calls Tryz.prog 99 #[H (Q ⟨S,0,Z⟩),H (Q ⟨P,0,Z⟩),v,iv] w fun e w'=>e=T (J U te)/\∃X',JW w0 w' S g cap ls P p' X':=by
 obtain⟨i0,d0,b2,b1,b0⟩:=yi XL;have HI:=zD h;have a1:=hL.len;have d7:=zD b6;have HE:=qG b3 b4;have HW:=zD hw;have HG:=zD (JM ls L d6 a1 A S g cap);have hq:=h.pl.block;have c5:w.cell? ⟨P,5,Z⟩=Q (J U ((L:Int)+1)):=by have:=zC hq 5 (by simp[jh]);rw[this];exact qB (fun x=>Q (Value.int U x)) b8
 have a5:=hV.zP h.iB;obtain⟨ad,cp,rfl,f2⟩:=hV.form;obtain⟨tb,d,rfl⟩:=hV.qZ (by intro h;rw[h]at a2;simp at a2);have a3:0 < G t:=by omega
 have c0:=Xm a5 a3;rw[qO]at c0;have a8:=zD (show ∀w',Below w0.heap.size w0 w'->w'.cell? ⟨tb,d,Z⟩=Q (O t[0])from fun w' hb=>by have:=Xm (hV.zP hb) a3;rw[qO]at this;exact this);have HV:=zD a5;obtain⟨f5,f4,d9,rfl⟩:=b9;obtain⟨f3,d8,b5⟩:=zK h.pl.CQ;have M:=zD b5;generalize t[0]=x0 at *;go_enter func99,ntmps99;go_wp2_with fail
 all_goals
  refine(HW.u _ S g cap P _ HI.u.JZ (HI.u.read d7.u) (by first | exact xA.gone (by omega) rfl | exact HV.u.drop 1 _ _ rfl (by omega))).mono ?_;rintro e w2 ⟨rfl,d3⟩;have j:=zD (HI.u.zP d3);have ct:=a8.u _ j.u.iB;have a0:=j.u.pl.block;have c4:w2.cell? ⟨P,4,Z⟩=Q X.ov:=zC a0 4 (by simp[jh]);rw[M.u]at c4;have a4:=j.u.pl.CQ;rw[M.u]at a4;have a6:=zQ a0;obtain⟨r1,r2⟩:=r;by_cases hr:r2=0
  ·subst hr;have i:=qG (HE.u.1.trans (zE (by first | rfl | trivial))) (HE.u.2.trans (zE (by first | rfl | trivial)));by_cases h50:50<=G p.out
   ·have a7:((G p.out:Int)==50)=D:=by rw[xw];omega
    have o:=qG (i.u.1.trans (zE h50)) (i.u.2.trans (zE h50));go_wp2;go_ret;exact⟨by rw[o.u.1];rfl,X,by rw[o.u.2];exact j.u⟩
   ·have a7:((G p.out:Int)==50)=W:=by rw[zV];omega
    have o:=qG (i.u.1.trans (zA h50)) (i.u.2.trans (zA h50));go_wp2_with (at_builtin;refine wpList_append_lies _ rfl _ _ 24 rfl 0 3 i0 _ 1 8 underlying24 d0 b2 b1 b0 rfl (by decide) _ _ _ rfl (a4.alloc _) ⟨w2.heap.size,0,Z⟩ 1 1 [J U r1] rfl rfl (cell_one_new _ _ _) (by simp[Value.oneCell']) (by omega) (by unfold maxLen;omega) (by omega) (zo _) (w2.heap.size+1) (by simp) ?_);intro g' cap' w4 z f hat f1;rw[<-M.u]at f hat;have k:=j.u;have hB:=k.iB.size;have d1:=(zI w2.heap.size w2).alloc (zB _) (V #[J U r1] 3);have y:=k.pl.EK hB d1 r1 f (I (Q ⟨g',0,Z⟩) (G p.out+1) cap') z (fun q hq=>by simp[Value.ownBlock]at hq;subst hq;rcases hat with h | h;exact Or.inl h;exact Or.inr (by omega));have R:w4.heap[P]?=Q (V (jh X.fv X.vv X.cv X.ov p) 72 (0,0)):=by
     have b7:X.ov.ownBlock≠Q P:=fun e=>k.pl.apart (qU (r:=zz X.ov p.out) (by simp[yO]) e) rfl;rw[f.block P (by simp;omega) (xK b7),G4 _ _ a6];exact k.pl.block
    have d4:w4.cell? ⟨P,4,Z⟩=Q X.ov:=zC R 4 (by simp[jh]);have z4:=zS R;have a9:=zD (k.to y);go_wp2_with fail;refine(HG.u _ a9.u.JZ).mono ?_;rintro e w5 ⟨rfl,d2⟩;have F:=a9.u.zP d2;have N:=F.pl.block;have d5:w5.cell? ⟨P,5,Z⟩=Q (J U p.line):=zC N 5 (by simp[jh]);have z5:=zS N;have HF:=zD (F.to (F.pl.Qj (Rf.jc ls (L+1):Nat)));go_wp2;go_ret;exact⟨by rw[o.u.1];rfl,_,by rw[o.u.2];exact HF.u⟩
  ·have f7:(r2 != 0)=D:=by simpa using hr
   have i:=qG (HE.u.1.trans (zA hr)) (HE.u.2.trans (zA hr));go_wp2;go_ret;exact⟨by rw[i.u.1];rfl,X,by rw[i.u.2];exact j.u⟩
theorem vC.uL {X':Qg} (h:vC w B P p X) (O:B<=w.heap.size) {A C:List Rw} {r r':Rw} (i:Nat) (v:Value) (j:yO X p=A++r::C) (f:yO X' p'=A++r'::C) (o:∀k,k < w.heap.size->r.v.ownBlock≠Q k->w1.heap[k]?=w.heap[k]?) (d:w1.os=w.os/\w1.tape=w.tape/\w1.output=w.output/\w.heap.size<=w1.heap.size) (J:w1.ownsRow 0 r'.t r'.size r'.v r'.n r'.xs) (H:∀g,r'.v.ownBlock=Q g->r.v.ownBlock=Q g\/w.heap.size<=g) (L:(jh X.fv X.vv X.cv X.ov p).setIfInBounds i v=jh X'.fv X'.vv X'.cv X'.ov p') (M:G X'.xg=G p'.zH) (N:G X'.kB=G p'.cells):vC (w1.setCell ⟨P,i,Z⟩ v) B P p' X'/\Below B w (w1.setCell ⟨P,i,Z⟩ v):=by
 have x:∀k,r.v.ownBlock=Q k->k∈xh (yO X p):=fun k e=>by rw[j];exact qU (r:=r) (by simp) e
 have y:r.v.ownBlock≠Q P:=fun e=>h.apart (x P e) rfl;have z:=zQ h.block;have F:w1.heap[P]?=Q (V (jh X.fv X.vv X.cv X.ov p) 72 (0,0)):=(o P z y).trans h.block;have I:=h.own;rw[j]at I;obtain⟨D,o2⟩:=Own.swap (w':=w1) I (r':=r') o J H;have hcase:∀k∈xh (yO X' p'),k∈xh (yO X p)\/w.heap.size<=k:=by
  intro k hk;rw[f]at hk;rcases o2 k hk with hk | hk
  ·rw[<-j]at hk;exact Or.inl hk
  ·exact Or.inr hk
 refine⟨⟨by rw[zf F,L],?_,M,N,fun k hk=>?_,h.here⟩,?_⟩
 ·rw[<-f]at D;exact⟨fun r hm=>yP (D.rows r hm) (fun g hg=>zO w1 ⟨P,i,Z⟩ _ g (by
   show g≠P;rcases hcase g (qU hm hg)with hk | hk
   ·exact h.apart hk
   ·omega)),D.apart⟩
 ·rcases hcase k hk with hk | hk
  ·exact h.new k hk
  ·omega
 ·refine yx ?_ h.here _ _;refine⟨d.1,d.2.1,d.2.2.1,d.2.2.2,fun k hk=>o k (by omega) (fun e=>?_)⟩;have:=h.new k (x k e);omega
theorem rI (h:Below B w w1):w1.os=w.os/\w1.tape=w.tape/\w1.output=w.output/\w.heap.size<=w1.heap.size:=⟨h.os,h.tape,h.output,h.size⟩
theorem vC.uU (h:vC w B P p X) (i:B<=w.heap.size) (f:Below w.heap.size w w1) (v:Value) (xs:List Int) (d:w1.ownsRow w.heap.size 3 1 v (G xs) (xR xs)):vC (w1.setCell ⟨P,1,Z⟩ v) B P { p with vars:=xs } { X with vv:=v }/\Below B w (w1.setCell ⟨P,1,Z⟩ v):=
 h.uL i (A:=[jy X.fv X.xg p.zH]) (r:=zz X.vv p.vars) (r':=zz v xs) 1 v rfl rfl (fun k hk _=>f.block k hk) (rI f) (vr d) (fun g hg=>Or.inr (d.lt g hg).1) rfl h.fl h.cl
theorem vC.Fz (h:vC w B P p X) (i:B<=w.heap.size) (f:Below w.heap.size w w1) (v:Value) (xs:List Int) (d:w1.ownsRow w.heap.size 3 1 v (G xs) (xR xs)):vC (w1.setCell ⟨P,4,Z⟩ v) B P { p with out:=xs } { X with ov:=v }/\Below B w (w1.setCell ⟨P,4,Z⟩ v):=
 h.uL i (A:=[jy X.fv X.xg p.zH,zz X.vv p.vars,YF X.cv X.kB (G p.cells)]) (r:=zz X.ov p.out) (r':=zz v xs) 4 v rfl rfl (fun k hk _=>f.block k hk) (rI f) (vr d) (fun g hg=>Or.inr (d.lt g hg).1) rfl h.fl h.cl
theorem vC.EL {wx wy:World} (h:vC w B P p X) (U:B<=w.heap.size) (o:Below w.heap.size w wx) (f:Below wx.heap.size wx wy) (pv:Value) (c:List Int) (N:wx.ownsRow w.heap.size 3 1 pv (G c) (xR c)) (hg:wy.grownBy w1 X.cv.ownBlock) (d:Value) (y:w1.ownsRow 0 24 1 d (G p.cells+1) (X.kB++[pv])) (R:∀g,d.ownBlock=Q g->X.cv.ownBlock=Q g\/wx.heap.size<=g):vC (w1.setCell ⟨P,2,Z⟩ d) B P { p with cells:=p.cells++[c] } { X with cv:=d,kB:=X.kB++[pv] }/\Below B w (w1.setCell ⟨P,2,Z⟩ d):=by
 have A:∀k,k < wx.heap.size->X.cv.ownBlock≠Q k->w1.heap[k]?=wx.heap[k]?:=fun k hk hv=>(hg.block k (zX hk f.size) (xK hv)).trans (f.block k hk);have i:∀k,k < w.heap.size->X.cv.ownBlock≠Q k->w1.heap[k]?=w.heap[k]?:=fun k hk hv=>(A k (zX hk o.size) hv).trans (o.block k hk);have D:∀k,X.cv.ownBlock=Q k->k∈xh (yO X p):=fun k e=>qU (r:=YF X.cv X.kB (G p.cells)) (by simp[yO]) e;have F:X.cv.ownBlock≠Q P:=fun e=>h.apart (D P e) rfl;have H:=zQ h.block;have O:w1.heap[P]?=Q (V (jh X.fv X.vv X.cv X.ov p) 72 (0,0)):=(i P H F).trans h.block;have M:=h.own.zP o;have J:∀g,pv.ownBlock=Q g->g∉xh (yO X p):=fun g hg hm=>by
  have h1:=h.own.lt g hm;have W:=(N.lt g hg).1;omega
 have L:Own wx (yO X p++zz pv c::[]):=Own.add (by rw[yX];exact M) (vr N) (fun g hg=>by rw[yX];exact J g hg);have x:yO X p++zz pv c::[]=[jy X.fv X.xg p.zH,zz X.vv p.vars]++YF X.cv X.kB (G p.cells)::(zz X.ov p.out::(List.zipWith zz X.xg (p.zH.map Rf.Fr.args)++(List.zipWith zz X.kB p.cells++[zz pv c]))):=by simp[yO]
 have z:=L;rw[x]at z;obtain⟨I,o2⟩:=Own.swap (w':=w1) z (r':=YF d (X.kB++[pv]) (G p.cells+1)) A y R;have T:List.zipWith zz (X.kB++[pv]) (p.cells++[c])=List.zipWith zz X.kB p.cells++[zz pv c]:=by
  rw[kN h.cl];rfl
 have j:yO { X with cv:=d,kB:=X.kB++[pv] } { p with cells:=p.cells++[c] }=[jy X.fv X.xg p.zH,zz X.vv p.vars]++YF d (X.kB++[pv]) (G p.cells+1)::(zz X.ov p.out::(List.zipWith zz X.xg (p.zH.map Rf.Fr.args)++(List.zipWith zz X.kB p.cells++[zz pv c]))):=by
  unfold yO;simp only[T,ze,yl,yF,xN]
 have hcase:∀k∈xh (yO { X with cv:=d,kB:=X.kB++[pv] } { p with cells:=p.cells++[c] }),k∈xh (yO X p)\/w.heap.size<=k:=by
  intro k hk;rw[j]at hk;rcases o2 k hk with hk | hk
  ·rw[<-x]at hk;rcases Ji hk with hk | hk
   ·rw[yX]at hk;exact Or.inl hk
   ·exact Or.inr (N.lt k hk).1
  ·exact Or.inr (zi o.size hk)
 refine⟨⟨by rw[zf O];rfl,?_,h.fl,by simp[h.cl],fun k hk=>?_,h.here⟩,?_⟩
 ·rw[<-j]at I;exact⟨fun r hm=>yP (I.rows r hm) (fun g hg=>zO w1 ⟨P,2,Z⟩ _ g (by
   show g≠P;rcases hcase g (qU hm hg)with hk | hk
   ·exact h.apart hk
   ·omega)),I.apart⟩
 ·rcases hcase k hk with hk | hk
  ·exact h.new k hk
  ·omega
 ·refine yx ?_ h.here _ _;refine⟨hg.os.trans (f.os.trans o.os),hg.tape.trans (f.tape.trans o.tape),hg.output.trans (f.output.trans o.output),zi (zi o.size f.size) hg.size,fun k hk=>i k (by omega) (fun e=>?_)⟩;have:=h.new k (D k e);omega
structure Xd (w:World) (B:Nat) (p:Rf.Pl) (X:Qg):Prop where
 own:Own w (yO X p)
 fl:X.xg.length=p.zH.length
 cl:X.kB.length=p.cells.length
 new:∀k∈xh (yO X p),B<=k
theorem Xd.at (h:Xd w B p X) (d:Below w.heap.size w w') (f:w'.heap[P]?=Q (V (jh X.fv X.vv X.cv X.ov p) 72 (0,0))) (i:B<=P):vC w' B P p X:=
 ⟨f,h.own.zP d,h.fl,h.cl,h.new,i⟩
theorem vC.rows (h:vC w B P p X):Xd w B p X:=⟨h.own,h.fl,h.cl,h.new⟩
theorem Xd.aside (h:Xd w B p X/\w.heap[N]?=Q (V c 72 (0,0))/\Below B w0 w) (k:B<=N) (i:Nat) (v:Value):Xd (w.setCell ⟨N,i,Z⟩ v) B p X/\(w.setCell ⟨N,i,Z⟩ v).heap[N]?=Q (V (c.setIfInBounds i v) 72 (0,0))/\Below B w0 (w.setCell ⟨N,i,Z⟩ v):=by
 obtain⟨h,f,j⟩:=h;refine⟨⟨⟨fun r hr=>yP (h.own.rows r hr) (fun g hg=>zO w ⟨N,i,Z⟩ _ g ?_),h.own.apart⟩,h.fl,h.cl,h.new⟩,zf f i v,yx j k i v⟩;rintro rfl;obtain⟨o,d⟩:=yW (h.own.rows r hr) hg;rw[f]at d;injection d with d;injection d with _ d;rcases Yr hr with e | e | e <;> rw[e]at d <;> exact absurd d (by decide)
structure PlB (p:Rf.Pl):Prop where
 zH:p.zH.length<=1000
 args:∀f∈p.zH,f.args.length<=1000
 vars:p.vars.length<=1000
 cells:p.cells.length<=1000
 each:∀c∈p.cells,c.length<=1000
 out:p.out.length<=1000
def G0 (p:Rf.Pl) (w:World) (e:Ending) (w':World):Prop:=Below w.heap.size w w'/\∃X,e=T (L (jh X.fv X.vv X.cv X.ov p))/\Xd w' w.heap.size p X
def aT (p:Rf.Pl) (k:Nat):Rf.Pl:=⟨p.zH.take k,[],[],p.read,[],p.line,p.fin⟩
def KR (p:Rf.Pl) (k:Nat):Rf.Pl:=⟨p.zH,p.vars,p.cells.take k,p.read,[],p.line,p.fin⟩
theorem nd (w:World) {a b c:Obj}:(((w.alloc a).alloc b).alloc c).heap[w.heap.size+2]?=Q c:=by
 have:=zN ((w.alloc a).alloc b) c;rw[show ((w.alloc a).alloc b).heap.size=w.heap.size+2 by simp]at this;exact this
def CW:Qg:=⟨I Z 0 0,I Z 0 0,I Z 0 0,I Z 0 0,[],[]⟩
theorem vC.start {Q:Nat} (h:p.zH=[]) (j:p.vars=[]) (i:p.cells=[]) (o:p.out=[]) (x:w.heap[Q]?=some (V #[I Z 0 0,I Z 0 0,I Z 0 0,J U p.read,I Z 0 0,J U p.line,J U p.fin] 72 (0,0))) (y:B<=Q):vC w B Q p CW:=by
 have f:yO CW p=[⟨130,3,I Z 0 0,0,[]⟩,⟨3,1,I Z 0 0,0,[]⟩,⟨24,1,I Z 0 0,0,[]⟩,⟨3,1,I Z 0 0,0,[]⟩]:=by
  unfold yO;rw[h,j,i,o];rfl
 have d:xh (yO CW p)=[]:=by rw[f];rfl
 refine⟨x,⟨fun r hm=>?_,by rw[d];exact List.nodup_nil⟩,by rw[h];rfl,by rw[i];rfl,fun k hk=>by rw[d]at hk;simp at hk,y⟩;rw[f]at hm;simp only[zw,qb,Z2]at hm;rcases hm with rfl | rfl | rfl | rfl <;> exact zW _ _ _ _
theorem Vz:(Tryz.prog.info? 130).map (fun i=>(i.zero,i.size,i.bytes))=Q (Q (L #[J U 0,I Z 0 0,J U 0]),3,40):=by kernel_rfl
theorem gj (h:Bf w fv vv cv ov p) (hp:PlB p):Calls Tryz.prog 95 #[L (jh fv vv cv ov p)] w (G0 p w):=by
 obtain⟨i0,l3,k7,k6,k5⟩:=yi cj;obtain⟨j0,j3,l2,l1,l0⟩:=yi Vz;have HV:=zD h;have HP:=zD hp;obtain⟨fb,fo,g0,rfl,j4⟩:=h.zH;obtain⟨cb,co,g1,rfl,j5⟩:=h.cells;obtain⟨h9,f8,rfl,_⟩:=h.vars;obtain⟨i1,f9,rfl,_⟩:=h.out;have l8:=zD j4;have m0:=zD j5;clear h hp j4 j5;unfold jh;go_enter func95,ntmps95;go_wp2_with fail;go_loopw [4,5] (fun i _ wr=>∃(k:Nat) (X:Qg),k<=G p.zH/\i=J U k/\X.vv=I Z 0 0/\X.cv=I Z 0 0/\X.ov=I Z 0 0/\X.kB=[]/\vC wr w.heap.size (w.heap.size+1+1) (aT p k) X/\Below w.heap.size w wr/\w.heap.size+3<=wr.heap.size/\
   wr.heap[w.heap.size]?=Q (V #[I (Q ⟨fb,fo,Z⟩) (G p.zH) g0,I h9 (G p.vars) f8,I (Q ⟨cb,co,Z⟩) (G p.cells) g1,J U p.read,I i1 (G p.out) f9,J U p.line,J U p.fin] 72 (0,0))/\
   wr.heap[w.heap.size+1]?=Q (V #[I Z 0 0,I Z 0 0,I Z 0 0,J U 0,I Z 0 0,J U 0,J U 0] 72 (0,0)))
  (fun i _ _=>G p.zH+1-(intOf i).toNat)
 case atStart=>
  refine⟨0,CW,zo _,rfl,rfl,rfl,rfl,rfl,?_,?_,?_,?_,?_⟩
  ·exact vC.start rfl rfl rfl rfl (nd w) (by omega)
  ·exact(((zI w.heap.size w).alloc (zB _) _).alloc (by simp) _).alloc (by simp;omega) _
  ·simp
  ·exact yR (yR (zN w _) _) _
  ·exact yR (qD w _ _) _
 case round=>
  obtain⟨k,X,hk,rfl,g6,g5,g4,g3,R,a7,o4,a3,b3⟩:=hrel;obtain⟨o2,m3,b7⟩:=zK R.Jq;have b1:(aT p k).zH.length=k:=by simp[aT];omega
  rw[b1]at b7;have a4:=qG b7 b1;clear b7 b1;have c0:=zC a3 0 (by simp);simp only[yQ,zv]at c0;have HI:=hd8 g6 g5 g4 g3 R a7 a3 b3;by_cases hlt:k < G p.zH
  ·have j1:(k:Int) < (G p.zH:Int):=by omega
   have o7:(0:Int)<=(k:Int):=by omega
   obtain⟨av,f0,f1,f2,fi⟩:=l8.u k hlt;have j8:=cell_later a7 f0;have j7:=cell_later a7 f1;have j6:=cell_later a7 f2;have k3:=zD fi;obtain⟨f7,b5,rfl,_⟩:=fi;have l5:=HP.u.args _ (zj hlt);have o5:=HP.u.zH;clear f0 f1 f2 g6 g5 g4 g3 R a7 a3 b3;obtain⟨f,hf⟩:∃f,f=p.zH[k]:=⟨_,rfl⟩;have l7:=zD hf;rw[<-hf]at j8 j7 j6 l5 k3;clear hf;go_wp2_with fail;have g9:=(zI wr.heap.size wr).alloc (zB _) (V #[J U f.proc,I f7 (G f.args) b5,J U f.call] 130);have i9:=zN wr (V #[J U f.proc,I f7 (G f.args) b5,J U f.call] 130);refine(Kd (k3.u.zP (HI.u.2.2.2.2.2.1.trans (g9.mono (B':=w.heap.size) (by omega)))) (by omega)).mono ?_;have m5:(wr.alloc (V #[J U f.proc,I f7 (G f.args) b5,J U f.call] 130)).heap.size=wr.heap.size+1:=by simp
   generalize wr.alloc (V #[J U f.proc,I f7 (G f.args) b5,J U f.call] 130)=wa at *;rintro e w1 ⟨y,av,rfl,d⟩;obtain⟨F,o,W⟩:=zK d;have h7:=zU i9 y;have m8:=y.size;have f6:=g9.trans (y.mono (B':=wr.heap.size) (by omega));obtain⟨k0,k1,k2⟩:=yb h7;have z:=zS h7;rw[W];have a0:=zU HI.u.2.2.2.2.1.block f6;have q0:w1.cell? ⟨w.heap.size+1+1,0,Z⟩=Q X.fv:=zC a0 0 (by simp[jh]);rw[a4.u.1]at q0;have d3:∀q,q≠wr.heap.size->(w1.setCell ⟨wr.heap.size,1,Z⟩ (I F (G f.args) o)).heap[q]?=w1.heap[q]?:=fun q hq=>zO w1 ⟨wr.heap.size,1,Z⟩ _ q hq;have a9:=yx f6 (zB _) 1 (I F (G f.args) o);have b2:=yP (yG HI.u.2.2.2.2.1.Jq f6) (w':=w1.setCell ⟨wr.heap.size,1,Z⟩ (I F (G f.args) o)) (fun q hq=>d3 q (by have:=(HI.u.2.2.2.2.1.Jq.lt q hq).2;omega));have a1:=yP (yn d (show wr.heap.size<=wa.heap.size by omega)) (w':=w1.setCell ⟨wr.heap.size,1,Z⟩ (I F (G f.args) o)) (fun q hq=>d3 q (by have:=(d.lt q hq).1;omega));have i8:=(a9.block (w.heap.size+1+1) (by omega)).trans HI.u.2.2.2.2.1.block;have m9:=zQ HI.u.2.2.2.2.1.block;rw[a4.u.1,a4.u.2]at b2;have b4:=gN a1 a9 i8 W;have i6:(w1.setCell ⟨wr.heap.size,1,Z⟩ (I F (G f.args) o)).heap.size=w1.heap.size:=by simp[World.setCell]
   clear d h7 f6 y g9 i9 j8 j7 j6 c0 a0 d3 a9 a1 i8;have n8:¬w.heap.size+1+1=wr.heap.size:=by omega
   have n7:¬wr.heap.size=w.heap.size+1+1:=by omega
   go_wp2_with (at_builtin;refine wpList_append_lies _ rfl _ _ 70 rfl 0 130 j0 _ 3 40 underlying70 j3 l2 l1 l0 rfl (by decide) _ k _ rfl (b2.alloc _) ⟨w1.heap.size,0,Z⟩ 1 1 [J U f.proc,I F (G f.args) o,J U f.call] rfl rfl (World.news_of_block (cs:=#[J U f.proc,I F (G f.args) o,J U f.call]) (t:=130) (fr:=(0,0)) (by have:=zN (w1.setCell ⟨wr.heap.size,1,Z⟩ (I F (G f.args) o)) (V #[J U f.proc,I F (G f.args) o,J U f.call] 130);rw[i6]at this;exact this)) (by simp[Value.oneCell']) (by omega) (by unfold maxLen;omega) (by omega) (zo _) (w1.heap.size+1) (by simp) ?_);intro g' cap' w4 a6 D hat d6;rw[<-a4.u.1]at D hat;have R:=HI.u.2.2.2.2.1;have a9:=b4.u.2.1;have m4:=a9.size;have d7:=(zI (w1.setCell ⟨wr.heap.size,1,Z⟩ (I F (G f.args) o)).heap.size (w1.setCell ⟨wr.heap.size,1,Z⟩ (I F (G f.args) o))).alloc (zB _) (V #[J U f.proc,I F (G f.args) o,J U f.call] 130);have O:=R.cU (by omega) a9 d7 (I F (G f.args) o) f (by have:=b4.u.1;rw[b4.u.2.2.2]at this;exact this) D (I (Q ⟨g',0,Z⟩) (k+1) cap') (by rw[a4.u.2];exact a6) (fun q hq=>by simp[Value.ownBlock]at hq;subst hq;rcases hat with h | h;exact Or.inl h;exact Or.inr (by omega));have a8:∀(N:Nat) (c:Array Value),wr.heap[N]?=Q (V c 72 (0,0))->Q N≠X.fv.ownBlock:=fun N c hN e=>by
    obtain⟨c',a2⟩:=yW R.Jq e.symm;rw[hN]at a2;injection a2 with a2;injection a2 with _ a2;exact absurd a2 (by decide)
   have T:∀(N:Nat) (c:Array Value),wr.heap[N]?=Q (V c 72 (0,0))->w4.heap[N]?=Q (V c 72 (0,0)):=fun N c hN=>by
    have hlt:=zQ hN;rw[D.block N (by simp[World.setCell];omega) (a8 N c hN),G4 _ _ (by omega),a9.block N hlt];exact hN
   have b0:=T _ _ R.block;have d0:w4.cell? ⟨w.heap.size+1+1,0,Z⟩=Q X.fv:=zC b0 0 (by simp[jh]);have z0:=zS b0 0;have d5:=(zO w4 ⟨w.heap.size+1+1,0,Z⟩ (I (Q ⟨g',0,Z⟩) (k+1) cap') w.heap.size (by show ¬w.heap.size=w.heap.size+1+1;omega)).trans (T _ _ HI.u.2.2.2.2.2.2.1);have a1:=(zO w4 ⟨w.heap.size+1+1,0,Z⟩ (I (Q ⟨g',0,Z⟩) (k+1) cap') (w.heap.size+1) (by show ¬w.heap.size+1=w.heap.size+1+1;omega)).trans (T _ _ HI.u.2.2.2.2.2.2.2);have a5:{ aT p k with zH:=(aT p k).zH++[f] }=aT p (k+1):=by
    unfold aT;simp only[Rf.Pl.mk.injEq,jJ];rw[kI,zJ hlt,<-l7.u];rfl
   rw[a5]at O;have g7:=D.size;have HF:=gN O d5 a1 (show w.heap.size+3<=(w4.setCell ⟨w.heap.size+1+1,0,Z⟩ (I (Q ⟨g',0,Z⟩) (k+1) cap')).heap.size by simp[World.setCell]at g7 ⊢;omega);clear O d5 a1 a5 T a8 b0 d7 a9 R a6 D hat d6 b2 q0 k0 k1 k2 z;go_wp2;go_roundw
   ·obtain⟨⟨u1,u2⟩,u3,u4,u5⟩:=HF.u;obtain⟨v1,v2,v3,v4,v5,v6,_⟩:=HI.u;exact⟨k+1,{ X with fv:=I (Q ⟨g',0,Z⟩) (k+1) cap',xg:=X.xg++[I F (G f.args) o] },by omega,by go_num,v1,v2,v3,v4,u1,v6.trans u2,u5,u3,u4⟩
   ·simp[intOf];omega
  ·have j1:¬(k:Int) < (G p.zH:Int):=by omega
   have d9:k=G p.zH:=by omega
   have o3:=HP.u.vars;have n9:=a3;have c1:=zC a3 1 (by simp);simp only[yQ,zv,yH]at c1;clear g6 g5 g4 g3 R a7 a3 b3 d9;go_wp2_with fail;refine(Kd (HV.u.vars.zP HI.u.2.2.2.2.2.1) (by omega)).mono ?_;rintro e w1 ⟨y,av,rfl,d⟩;obtain⟨h8,g2,W⟩:=zK d;have R:=HI.u.2.2.2.2.1;have a0:=zU R.block y;have d1:w1.cell? ⟨w.heap.size+1+1,1,Z⟩=Q X.vv:=zC a0 1 (by simp[jh]);have z1:=zS a0 1;have H:=R.uU (by omega) y av p.vars d;have d9:k=G p.zH:=by omega
   have a5:{ aT p k with vars:=p.vars }=KR p 0:=by
    unfold aT KR;rw[d9];simp
   rw[a5]at H;have i7:=y.size;have b9:∀N,N < w.heap.size+1+1->(w1.setCell ⟨w.heap.size+1+1,1,Z⟩ av).heap[N]?=wr.heap[N]?:=fun N hN=>(zO w1 ⟨w.heap.size+1+1,1,Z⟩ av N (by show ¬N=w.heap.size+1+1;omega)).trans (y.block N (by omega));have HJ:=hd7 (show ({ X with vv:=av }:Qg).ov=I Z 0 0 from HI.u.2.2.1) (show ({ X with vv:=av }:Qg).cv=I Z 0 0 from HI.u.2.1) H.1 (HI.u.2.2.2.2.2.1.trans H.2) ((b9 _ (by omega)).trans HI.u.2.2.2.2.2.2.1) ((b9 _ (by omega)).trans HI.u.2.2.2.2.2.2.2) (show w.heap.size+3<=(w1.setCell ⟨w.heap.size+1+1,1,Z⟩ av).heap.size by simp[World.setCell];omega);rw[W]at HJ ⊢;clear H a5 d9 a0 R y d b9 c1 c0 W;generalize l6:({ X with vv:=I h8 (G p.vars) g2 }:Qg)=X1 at HJ;clear l6;go_wp2_with fail;go_loopw [6,7] (fun i _ wr2=>∃(j:Nat) (Y:Qg),j<=G p.cells/\i=J U j/\Y.ov=I Z 0 0/\vC wr2 w.heap.size (w.heap.size+1+1) (KR p j) Y/\Below w.heap.size w wr2/\w.heap.size+3<=wr2.heap.size/\
     wr2.heap[w.heap.size]?=Q (V #[I (Q ⟨fb,fo,Z⟩) (G p.zH) g0,I h9 (G p.vars) f8,I (Q ⟨cb,co,Z⟩) (G p.cells) g1,J U p.read,I i1 (G p.out) f9,J U p.line,J U p.fin] 72 (0,0))/\
     wr2.heap[w.heap.size+1]?=Q (V #[I Z 0 0,I Z 0 0,I Z 0 0,J U 0,I Z 0 0,J U 0,J U 0] 72 (0,0)))
    (fun i _ _=>G p.cells+1-(intOf i).toNat)
   case atStart=>
    obtain⟨t1,t2,t3,t4,t5,t6,t7⟩:=HJ.u;exact⟨0,X1,zo _,rfl,t1,t3,t4,t7,t5,t6⟩
   case round=>
    clear HI a4 HJ;obtain⟨j,Y,hj,rfl,b8,R,a7,m7,a3,b3⟩:=hrel;obtain⟨o1,m2,b6⟩:=zK R.eB;have b1:(KR p j).cells.length=j:=by simp[KR];omega
    rw[b1]at b6;have a4:=qG b6 b1;have c2:=zC a3 2 (by simp);simp only[yQ,zv,yH]at c2;have HI:=DA b8 R a7 a3 b3;clear b6 b1;by_cases hlt2:j < G p.cells
    ·have g8:(j:Int) < (G p.cells:Int):=by omega
     have j3:(0:Int)<=(j:Int):=by omega
     obtain⟨x,e0,ei⟩:=m0.u j hlt2;have j9:=cell_later a7 e0;have k4:=zD ei;obtain⟨o8,o0,rfl,_⟩:=ei;have l4:=HP.u.each _ (zj hlt2);have f5:=HP.u.cells;obtain⟨c,hc⟩:∃c,c=p.cells[j]:=⟨_,rfl⟩;have l9:=zD hc;rw[<-hc]at j9 l4 k4;clear hc e0 b8 R a7 a3 b3;go_wp2_with fail;refine(Kd (k4.u.zP HI.u.2.2.1) (by omega)).mono ?_;rintro e w1 ⟨y,av,rfl,d⟩;obtain⟨M,A,W⟩:=zK d;have R:=HI.u.2.1;have a0:=zU R.block y;have d2:w1.cell? ⟨w.heap.size+1+1,2,Z⟩=Q Y.cv:=zC a0 2 (by simp[jh]);rw[a4.u.1]at d2;have b2:=yG R.eB y;rw[a4.u.1,a4.u.2]at b2;have i7:=y.size;have b4:=XX d y W;rw[W];clear d y W R a0 c2 j9;go_wp2_with (at_builtin;refine wpList_append_lies _ rfl _ _ 28 rfl 0 24 i0 _ 1 24 underlying28 l3 k7 k6 k5 rfl (by decide) _ _ _ rfl (b2.alloc _) ⟨w1.heap.size,0,Z⟩ 1 1 [I M (G c) A] rfl rfl (cell_one_new _ _ _) (by simp[Value.oneCell']) (by omega) (by unfold maxLen;omega) (by omega) (zo _) (w1.heap.size+1) (by simp) ?_);intro g' cap' w4 a6 D hat d6;rw[<-a4.u.1]at D hat;have R:=HI.u.2.1;have y:=b4.u.2.1;have d7:=(zI w1.heap.size w1).alloc (zB _) (V #[I M (G c) A] 24);have O:=R.EL (by omega) y d7 (I M (G c) A) c (by have:=b4.u.1;rw[b4.u.2.2]at this;exact this) D (I (Q ⟨g',0,Z⟩) (j+1) cap') (by rw[a4.u.2];exact a6) (fun q hq=>by simp[Value.ownBlock]at hq;subst hq;rcases hat with h | h;exact Or.inl h;exact Or.inr (by omega));have a8:∀(N:Nat) (cc:Array Value),wr.heap[N]?=Q (V cc 72 (0,0))->Q N≠Y.cv.ownBlock:=fun N cc hN e=>by
      obtain⟨c',a2⟩:=yW R.eB e.symm;rw[hN]at a2;injection a2 with a2;injection a2 with _ a2;exact absurd a2 (by decide)
     have T:∀(N:Nat) (cc:Array Value),wr.heap[N]?=Q (V cc 72 (0,0))->w4.heap[N]?=Q (V cc 72 (0,0)):=fun N cc hN=>by
      have hlt:=zQ hN;rw[D.block N (by simp;omega) (a8 N cc hN),G4 _ _ (by omega),y.block N hlt];exact hN
     have b0:=T _ _ R.block;have o9:w4.cell? ⟨w.heap.size+1+1,2,Z⟩=Q Y.cv:=zC b0 2 (by simp[jh]);have z2:=zS b0 2;have d5:=(zO w4 ⟨w.heap.size+1+1,2,Z⟩ (I (Q ⟨g',0,Z⟩) (j+1) cap') w.heap.size (by show ¬w.heap.size=w.heap.size+1+1;omega)).trans (T _ _ HI.u.2.2.2.1);have a1:=(zO w4 ⟨w.heap.size+1+1,2,Z⟩ (I (Q ⟨g',0,Z⟩) (j+1) cap') (w.heap.size+1) (by show ¬w.heap.size+1=w.heap.size+1+1;omega)).trans (T _ _ HI.u.2.2.2.2);have a5:{ KR p j with cells:=(KR p j).cells++[c] }=KR p (j+1):=by
      unfold KR;simp only[Rf.Pl.mk.injEq,jJ,jH];rw[kI,zJ hlt2,<-l9.u];rfl
     rw[a5]at O;have g7:=D.size;have HF:=gN O d5 a1 (show w.heap.size+3<=(w4.setCell ⟨w.heap.size+1+1,2,Z⟩ (I (Q ⟨g',0,Z⟩) (j+1) cap')).heap.size by simp[World.setCell]at g7 ⊢;omega);clear O d5 a1 a5 T a8 b0 d7 y R a6 D hat d6 b2 d2;go_wp2;go_roundw
     ·obtain⟨⟨u1,u2⟩,u3,u4,u5⟩:=HF.u;obtain⟨v1,v2,v3,_⟩:=HI.u;exact⟨j+1,{ Y with cv:=I (Q ⟨g',0,Z⟩) (j+1) cap',kB:=Y.kB++[I M (G c) A] },by omega,by go_num,v1,u1,v3.trans u2,u5,u3,u4⟩
     ·simp[intOf];omega
    ·have g8:¬(j:Int) < (G p.cells:Int):=by omega
     have o6:=HP.u.out;have c4:=zC a3 4 (by simp);simp only[yQ,zv,yH]at c4;clear b8 R a7 a3 b3;go_wp2_with fail;refine(Kd (HV.u.out.zP HI.u.2.2.1) (by omega)).mono ?_;rintro e w1 ⟨y,av,rfl,d⟩;obtain⟨M,A,W⟩:=zK d;have R:=HI.u.2.1;have i7:=y.size;have a0:=zU R.block y;have d4:w1.cell? ⟨w.heap.size+1+1,4,Z⟩=Q Y.ov:=zC a0 4 (by simp[jh]);have z4:=zS a0 4;have H:=R.Fz (by omega) y av p.out d;have j2:j=G p.cells:=by omega
     have a5:{ KR p j with out:=p.out }=p:=by
      unfold KR;rw[j2];simp
     rw[a5]at H;have a1:=(zO w1 ⟨w.heap.size+1+1,4,Z⟩ av (w.heap.size+1) (by show ¬w.heap.size+1=w.heap.size+1+1;omega)).trans ((y.block (w.heap.size+1) (by omega)).trans HI.u.2.2.2.2);obtain⟨xa,xc,b7⟩:=zK H.1.Jq;obtain⟨ya,yc,b6⟩:=zK H.1.wJ;obtain⟨za,zc,i2⟩:=zK H.1.eB;have d8:=H.1.block;have i5:Y.fv=I xa (G p.zH) xc:=b7;have i4:Y.vv=I ya (G p.vars) yc:=b6;have i3:Y.cv=I za (G p.cells) zc:=i2;have f5:(jh ({ Y with ov:=av }:Qg).fv ({ Y with ov:=av }:Qg).vv ({ Y with ov:=av }:Qg).cv ({ Y with ov:=av }:Qg).ov p)=(Hi xa xc ya yc za zc M A p):=by
      show jh Y.fv Y.vv Y.cv av p=_;rw[i5,i4,i3,W];rfl
     have HF:=XX H a1 f5;rw[f5]at d8;have m1:=zD W;rw[W]at d8 a1 ⊢;clear W H a5 j2 y d R a0 c2 c4 f5 i5 i4 i3 b7 b6 i2;have m6:(w1.setCell ⟨w.heap.size+1+1,4,Z⟩ (I M (G p.out) A)).heap.size=w1.heap.size:=by simp[World.setCell]
     have hq:∀i (hi:i < 7),(w1.setCell ⟨w.heap.size+1+1,4,Z⟩ (I M (G p.out) A)).cell? ⟨w.heap.size+1+1,i,Z⟩=Q ((Hi xa xc ya yc za zc M A p)[i]'(by simpa using hi)):=fun i hi=>zC d8 i (by simpa using hi);have q0:=hq 0 (by omega);have q1:=hq 1 (by omega);have q2:=hq 2 (by omega);have q3:=hq 3 (by omega);have q4:=hq 4 (by omega);have q5:=hq 5 (by omega);have q6:=hq 6 (by omega);simp only[yQ,zv,yH]at q0 q1 q2 q3 q4 q5 q6;have hz:∀i (hi:i < 7),(w1.setCell ⟨w.heap.size+1+1,4,Z⟩ (I M (G p.out) A)).cell? ⟨w.heap.size+1,i,Z⟩=Q (#[I Z 0 0,I Z 0 0,I Z 0 0,J U 0,I Z 0 0,J U 0,J U 0][i]'(by simpa using hi)):=fun i hi=>zC a1 i (by simpa using hi);have n0:=hz 0 (by omega);have n1:=hz 1 (by omega);have n2:=hz 2 (by omega);have n3:=hz 3 (by omega);have n4:=hz 4 (by omega);have n5:=hz 5 (by omega);have n6:=hz 6 (by omega);simp only[yQ,zv,yH]at n0 n1 n2 n3 n4 n5 n6;have zn:=zS a1;clear hq hz;go_wp2_with fail;refine zT (v:=L (Hi xa xc ya yc za zc M A p)) ?_ rfl ?_
     ·simp[results,results95,go_sem,n0,n1,n2,n3,n4,n5,n6]
     ·obtain⟨⟨f1,f2⟩,f3,f4⟩:=HF.u;rw[m1.u]at f1 f2 f3 f4;have h0:=Xd.aside ⟨f1.rows,f3,HI.u.2.2.1.trans f2⟩ (by omega) 0 (I xa (G p.zH) xc);have h1:=Xd.aside h0 (by omega) 1 (I ya (G p.vars) yc);have h2:=Xd.aside h1 (by omega) 2 (I za (G p.cells) zc);have h3:=Xd.aside h2 (by omega) 3 (J U p.read);have h4:=Xd.aside h3 (by omega) 4 (I M (G p.out) A);have h5:=Xd.aside h4 (by omega) 5 (J U p.line);have h6:=Xd.aside h5 (by omega) 6 (J U p.fin);exact⟨h6.2.2,_,qB (fun a=>Ending.returned (Value.agg a)) f4.symm,h6.1⟩
def argsL:List (Int×Int)->List Int->List Int×Int
 | [],acc=>(acc,0)
 | r::rs,acc=>if r.2=0 then argsL rs (acc++[r.1])else (acc,r.2)
theorem tp (rs:List (Int×Int)) (k:Nat) (d:k < G rs) (acc:List Int):argsL (rs.drop k) acc=if rs[k].2=0 then argsL (rs.drop (k+1)) (acc++[rs[k].1])else (acc,rs[k].2):=by
 rw[zZ d,argsL]
theorem cutP {Goal:Prop} {Z:Nat->Nat->World->Prop} {R:Code} {post:Exit->Act->World->Prop} {fr:Nat->Nat->Act} (d:(∀g c wy,Z g c wy->Code.wp Tryz.prog R post (fr g c) wy)->Goal) (f:∀g c wy,Z g c wy->Code.wp Tryz.prog R post (fr g c) wy):Goal:=d f
theorem rG {wr w4:World} {F D:Nat} {xad:Option Addr} {xcap g' cap':Nat} {av:Value} {acc:List Int} {o:Obj} {cF:Array Value} {tF:TypeId} (h:JW w0 w1 S g cap ls P p X) (L:Below w1.heap.size w1 wr) (y:X.fv=I xad (G p.zH) xcap) (H:wr.ownsRow w1.heap.size 3 1 av (G acc) (xR acc)) (x:(wr.alloc o).drew.grownBy w4 (Value.slice xad (G p.zH) xcap).ownBlock) (j:w4.ownsRow 0 130 3 (I (Q ⟨g',0,Z⟩) (G p.zH+1) cap') (G p.zH+1) (frCells X.xg p.zH++[J U ((D:Int)+1),av,J U p.line])) (hat:(Value.slice xad (G p.zH) xcap).ownBlock=Q g'\/g'=wr.heap.size+1) (A:wr.heap[F]?=Q (V cF tF (0,0))) (M:w1.heap.size<=F):JW w0 (w4.setCell ⟨P,0,Z⟩ (I (Q ⟨g',0,Z⟩) (G p.zH+1) cap')) S g cap ls P { p with zH:=p.zH++[⟨D+1,acc,p.line⟩] } { X with fv:=I (Q ⟨g',0,Z⟩) (G p.zH+1) cap',xg:=X.xg++[av] }/\(w4.setCell ⟨P,0,Z⟩ (I (Q ⟨g',0,Z⟩) (G p.zH+1) cap')).heap[F]?=Q (V cF tF (0,0)):=by
 have i:Below wr.heap.size wr (wr.alloc o).drew:=((zI _ wr).alloc (zB _) o).drew;rw[<-y]at x hat;have f:=h.pl.cU h.iB.size L i av ⟨D+1,acc,p.line⟩ H x (I (Q ⟨g',0,Z⟩) (G p.zH+1) cap') j (fun k hk=>by simp[Value.ownBlock]at hk;subst hk;rcases hat with e | e;exact Or.inl e;exact Or.inr (by omega));have z:=zQ h.pl.block;have d:=zQ A;refine⟨h.to f,?_⟩;rw[zO w4 ⟨P,0,Z⟩ _ F (by show ¬F=P;omega),x.block F (zX d i.size) (fun e=>by have:=(h.pl.Jq.lt F e.symm).2;omega)];exact(i.block F d).trans A
theorem rF (D:Nat) (rs:List (Int×Int)) (h:JW w0 w S g cap ls P p X) (hV:xA w0 v t) (hf:Y8 t) (hL:Lawful ls) (g0:V9 ls p) (b1:Rf.nested ls=0) (g5:2<=G t) (k7:D < G ls) (hd:Rf.decl ls t[1]=D+1) (n8:G p.zH<=6) (f8:G rs=(Rf.parts (t.drop 2)).length) (f7:∀j (h1:j < G rs) (h2:j < (Rf.parts (t.drop 2)).length),Z5 ls p rs[j] (Rf.parts (t.drop 2))[j]) (n9:(Rf.parts (t.drop 2)).length<=1000) (te:Int) (f6:te=if (argsL rs []).2=0 then (if 6<=G p.zH then 5 else 0)else (argsL rs []).2) (f9:p'=if (argsL rs []).2=0 then (if 6<=G p.zH then p else { p with zH:=p.zH++[⟨D+1,(argsL rs []).1,p.line⟩],line:=(Rf.jc ls (D+1):Nat) })else p):Calls Tryz.prog 97 #[H (Q ⟨S,0,none⟩),H (Q ⟨P,0,none⟩),v] w fun e w'=>e=T (J U te)/\∃X',JW w0 w' S g cap ls P p' X':=by
  obtain⟨i0,k6,j2,j1,i9⟩:=yi XL;obtain⟨j0,k5,j5,j4,j3⟩:=yi Vz;have HI:=zD h;have g4:=hL.len;have l5:=zD hL;have HF:=zD hf;have l3:=zD g0;have HE:=qG f6 f9;have l2:=zD f7;have i4:=zD f8;have HG:=zD (JM ls D k7 g4 b1 S g cap);have HD:=zD hd;have h4:=hV.zP h.iB;obtain⟨ad,cp,rfl,m8⟩:=hV.form;obtain⟨tb,d,rfl⟩:=hV.qZ (by intro h;rw[h]at g5;simp at g5);have hl:=hf.1;have k4:1 < G t:=by omega
  have i1:=zD (show ∀w',Below w0.heap.size w0 w'->w'.cell? ⟨tb,d+1,none⟩=Q (O t[1])from fun w' hb=>Xm (hV.zP hb) k4);have HV:=zD h4;have m7:(1:Int) < (G t:Int):=by omega
  have m6:(2:Int)<=(G t:Int):=by omega
  clear h hV hL g0 f9 f6 h4 b1 f7 f8 hd hf;generalize t[1]=x1 at *;go_enter func97,ntmps97;go_wp2_with fail
  all_goals
    refine(cY (by first | exact xA.gone (by omega) rfl | exact HV.u.drop 2 _ _ rfl (by omega)) (HF.u.drop 2)).mono ?_;rintro e w1 ⟨g9,lv,n4,rfl,a6,R⟩;have z:=XX (HI.u.zP g9) a6 R;obtain⟨n5,m3,rfl⟩:=zK a6;have ct:=i1.u _ z.u.1.iB;have c5:w1.cell? ⟨P,5,none⟩=Q (J U p.line):=zC z.u.1.pl.block 5 (by simp[jh]);clear g9 a6 R;go_wp2_with fail;have i3:=zD (show ∀w',Below w1.heap.size w1 w'->jA w' S g cap ls from fun w' hb=>z.u.1.JZ.zP hb);have a4:=zD (show ∀w',Below w1.heap.size w1 w'->w'.cell? ⟨tb,d+1,none⟩=Q (O x1)/\w'.cell? ⟨P,5,none⟩=Q (J U p.line)from fun w' hb=>⟨cell_later hb ct,cell_later hb c5⟩);have j9:=World.new_ne _ _ ct;have j8:=World.new_ne _ _ c5;go_region_held3 (fun w'=>w'.cell? ⟨tb,d+1,none⟩=Q (O x1)/\w'.cell? ⟨P,5,none⟩=Q (J U p.line)) (first | exact⟨by go_keep,by go_keep⟩| exact a4.u _ hbx2 | exact⟨by simp[World.cell?_alloc_some,(a4.u _ hbx2).1],by simp[World.cell?_alloc_some,(a4.u _ hbx2).2]⟩| exact⟨(World.cell?_setCell_far _ _ _ _ (by simp;omega)).trans (by simp[World.cell?_alloc_some,(a4.u _ hbx2).1]),(World.cell?_setCell_far _ _ _ _ (by simp;omega)).trans (by simp[World.cell?_alloc_some,(a4.u _ hbx2).2])⟩) ((go_at_call 84;refine(qg x1 (i3.u _ (by first | exact zI _ _ | exact zh _ | exact(zI _ _).alloc (zB _) _ | exact((zI _ _).alloc (zB _) _).drew | exact(zh _).alloc (by simp) _)) l5.u).mono ?_;rintro e w2 ⟨rfl,b0⟩;have hbx2:Below w1.heap.size w1 w2:=(by first | exact b0 | exact yh b0 | exact((zI _ _).alloc (zB _) _).drew.trans (b0.mono (by simp))| exact((zI _ _).alloc (zB _) _).trans (b0.mono (by simp)));have j7:=World.new_ne _ _ (a4.u _ hbx2).1;have j6:=World.new_ne _ _ (a4.u _ hbx2).2;first | (have d2:w2.heap[w1.heap.size]?=Q (V #[J U 0,I none 0 0,J U 0] 130 (0,0)):=zU (by exact zN w1 _) b0;obtain⟨k0,k1,k2⟩:=yb d2;have kz:=zS d2)| skip;rw[HD.u]))
    all_goals
      first
      | (obtain⟨F,a7⟩:∃F,F=w2.heap.size:=⟨_,rfl⟩
         have a8:=zN w2 (V #[J U ((D:Int)+1),I none 0 0,J U p.line] 130);have b2:=hbx2.alloc hbx2.size (V #[J U ((D:Int)+1),I none 0 0,J U p.line] 130);have a0:w1.heap.size<=F:=by rw[a7];exact hbx2.size
         rw[<-a7]at a8 ⊢;have HX3:=XX a8 b2 a0;clear a8 b2 a0 a7;generalize w2.alloc (V #[J U ((D:Int)+1),I none 0 0,J U p.line] 130)=w3 at *)
      | (rw[HD.u,show ((D+1:Nat):Int)=(D:Int)+1 by omega]
         obtain⟨F,a7⟩:∃F,F=w1.heap.size:=⟨_,rfl⟩;have a8:(((w2.setCell ⟨w1.heap.size,0,none⟩ (J U ((D:Int)+1))).setCell ⟨w1.heap.size,1,none⟩ (I none 0 0)).setCell ⟨w1.heap.size,2,none⟩ (J U p.line)).heap[w1.heap.size]?=Q (V #[J U ((D:Int)+1),I none 0 0,J U p.line] 130 (0,0)):=zf (zf (zf d2 0 (J U ((D:Int)+1))) 1 (I none 0 0)) 2 (J U p.line);have b2:=yx (yx (yx hbx2 (zB _) 0 (J U ((D:Int)+1))) (zB _) 1 (I none 0 0)) (zB _) 2 (J U p.line);have a0:w1.heap.size<=F:=by rw[a7];exact zB _
         generalize ((w2.setCell ⟨w1.heap.size,0,none⟩ (J U ((D:Int)+1))).setCell ⟨w1.heap.size,1,none⟩ (I none 0 0)).setCell ⟨w1.heap.size,2,none⟩ (J U p.line)=w3 at *;rw[<-a7]at a8 ⊢;have HX3:=XX a8 b2 a0;clear a8 b2 a0 a7 d2 k0 k1 k2 kz)
    all_goals
      clear hbx2 b0 j9 j8 j7 j6 ct c5 i3 a4;have m4:=zQ HX3.u.1;go_wp2_with fail;go_loopw [9,10,11] (fun i _ _ wr=>∃(k:Nat) (acc:List Int) (av:Value),k<=(Rf.parts (t.drop 2)).length/\i=J U k/\G acc=k/\argsL (rs.drop k) acc=argsL rs []/\wr.heap[F]?=Q (V #[J U ((D:Int)+1),av,J U p.line] 130 (0,0))/\wr.ownsRow w1.heap.size 3 1 av (G acc) (xR acc)/\Below w1.heap.size w1 wr)
        (fun i _ _ _=>(Rf.parts (t.drop 2)).length-(intOf i).toNat)
      case atStart=>exact⟨0,[],_,zo _,rfl,rfl,rfl,HX3.u.1,zW _ _ _ _,HX3.u.2.1⟩
      case round=>
        obtain⟨k,acc,av,hk,rfl,h3,hT,hF,a1,x⟩:=hrel;subst h3;obtain⟨b4,a3,h0⟩:=zK a1;subst h0;obtain⟨k0,k1,k2⟩:=yb hF;have kz:=zS hF;have a0:=HX3.u.2.2;by_cases hlt:G acc < (Rf.parts (t.drop 2)).length
        · have g3:(G acc:Int) < ((Rf.parts (t.drop 2)).length:Int):=by omega
          have o0:(0:Int)<=(G acc:Int):=by omega
          have g6:G acc < G rs:=by rw[i4.u];exact hlt
          obtain⟨uv,f5,d7⟩:=(z.u.2.2.zP x).2 (G acc) hlt;obtain⟨lg,i8,k3,_,_,cu⟩:=yD (yG z.u.2.1 x) f5;injection k3 with e1 _ e2;subst e1 e2;obtain⟨n3,l9,f4,_⟩:=d7.form;have f2:=tp rs (G acc) g6 acc;rw[hT]at f2;have HT:=zD f2;have h9:=zD (l2.u (G acc) g6 hlt);have HU:=zD d7;have HX:=XX hF a1 x;generalize rs[G acc]=y at *;rw[f4]at cu HU;clear f2 hT hF a1 x f5 d7 f4;go_wp2_with fail;refine(h9.u _ S g cap P _ ((z.u.1.zP HX.u.2.2).JZ) ((z.u.1.zP HX.u.2.2).read l3.u) HU.u).mono ?_;rintro e w4 ⟨rfl,b8⟩;obtain⟨hF,a1,x⟩:=HX.u;have L:=yG a1 b8;have M:=zU hF b8;have A:=x.trans (b8.mono (B':=w1.heap.size) x.size);obtain⟨m0,m1,m2⟩:=yb M;have mz:=zS M;have f1:=zQ M;have n7:=A.size;have h8:=XX M L A;clear hF a1 x b8 HX h9 HU cu k0 k1 k2 kz M A;obtain⟨v1,v2⟩:=y;by_cases hv:v2=0
          · subst hv;have a9:=zD (HT.u.trans (zE (by first | rfl | trivial)));clear HT;go_wp2_with (at_builtin;refine wpList_append_lies _ rfl _ _ 24 rfl w1.heap.size 3 i0 _ 1 8 underlying24 k6 j2 j1 i9 rfl (by decide) _ _ _ rfl (L.alloc _) ⟨w4.heap.size,0,none⟩ 1 1 [J U v1] rfl rfl (cell_one_new _ _ _) (by simp[Value.oneCell']) (by omega) (by unfold maxLen;omega) (by omega) (by simp;omega) (w4.heap.size+1) (by simp) ?_);intro g' cap' w5 a5 f f0 g2;obtain⟨M,_,A⟩:=h8.u;have g1:Q F≠(Value.slice b4 (G acc) a3).ownBlock:=fun e=>by
              obtain⟨c',o⟩:=yW L e.symm;rw[M]at o;injection o with o;injection o with _ o;exact absurd o (by decide)
            have b3:=(f.block F (by simp;omega) g1).trans ((G4 w4 _ f1).trans M);have g7:Below w1.heap.size w4 w5:=Below.grown ((zI w1.heap.size w4).alloc (by omega) _) f (by simp;omega) (fun q hq=>(L.lt q hq).1);have d6:∀q,(Value.slice (Q ⟨g',0,none⟩) (G acc+1) cap').ownBlock=Q q->q≠F:=fun q hq e=>by
              obtain⟨c',o⟩:=yW a5 hq;rw[e,b3]at o;injection o with o;injection o with _ o;exact absurd o (by decide)
            have d4:=yP a5 (w':=w5.setCell ⟨F,1,none⟩ (I (Q ⟨g',0,none⟩) (G acc+1) cap')) (fun q hq=>zO w5 ⟨F,1,none⟩ _ q (d6 q hq));have d3:=zf b3 1 (I (Q ⟨g',0,none⟩) (G acc+1) cap');obtain⟨n0,n1,n2⟩:=yb b3;have nz:=zS b3;have l7:=XX d4 d3 (yx (A.trans g7) a0 1 (I (Q ⟨g',0,none⟩) (G acc+1) cap'));clear d4 d3 d6 g7 b3 g1 M A a5 f f0 g2 L m0 m1 m2 mz;go_wp2;go_roundw
            case rel=>
              obtain⟨q1,q2,q3⟩:=l7.u;exact⟨G acc+1,acc++[v1],_,by omega,by go_num,by simp,a9.u.symm,q2,by rw[ze,xR,yB];exact q1,q3⟩
            case measure=>simp[intOf];omega
          · have n6:(v2 != 0)=true:=by simpa using hv
            have a9:=zD (HT.u.trans (zA hv));have N:=qG (HE.u.1.trans (zA (by rw[a9.u];exact hv))) (HE.u.2.trans (zA (by rw[a9.u];exact hv)));clear HT L m0 m1 m2 mz;go_wp2;go_ret;exact⟨by rw[N.u.1,a9.u];rfl,X,by rw[N.u.2];exact z.u.1.zP h8.u.2.2⟩
        · have g3:¬(G acc:Int) < ((Rf.parts (t.drop 2)).length:Int):=by omega
          have b9:argsL rs []=(acc,0):=by rw[<-hT,zp (by rw[i4.u];omega)];rfl
          have a9:=zD b9;have a2:=z.u.1.zP x;obtain⟨i7,f3,b6⟩:=zK a2.pl.Jq;have c0:wr.cell? ⟨P,0,none⟩=Q X.fv:=zC a2.pl.block 0 (by simp[jh]);rw[b6]at c0;have N:=qG (HE.u.1.trans (zE (by rw[b9]))) (HE.u.2.trans (zE (by rw[b9])));have b7:=a2.pl.Jq;rw[b6]at b7;have m9:=zQ a2.pl.block;have HX:=DA hF a1 x a2 b6;clear hT b9 hF a1 x a2 b6;by_cases h6:6<=G p.zH
          · have l0:((G p.zH:Int)==6)=true:=by rw[xw];omega
            have b5:=qG (N.u.1.trans (zE h6)) (N.u.2.trans (zE h6));clear N b7;go_wp2;go_ret;exact⟨by rw[b5.u.1];rfl,X,by rw[b5.u.2];exact HX.u.2.2.2.1⟩
          · have l0:((G p.zH:Int)==6)=W:=by rw[zV];omega
            have b5:=qG (N.u.1.trans (zA h6)) (N.u.2.trans (zA h6));clear N;have l6:=zD b7;have l4:=zD (show Q P≠(Value.slice i7 (G p.zH) f3).ownBlock from fun e=>by
              have a2:=HX.u.2.2.2.1;rw[<-HX.u.2.2.2.2]at e;exact a2.pl.apart (qU (r:=jy X.fv X.xg p.zH) (by simp[yO]) e.symm) rfl)
            have l8:=zD HX.u.2.2.2.1.pl.block;clear b7;go_wp2_with fail;apply cutP (Z:=fun g' c' wy=>JW w0 wy S g cap ls P { p with zH:=p.zH++[⟨D+1,acc,p.line⟩] } { X with fv:=I (Q ⟨g',0,none⟩) (G p.zH+1) c',xg:=X.xg++[I b4 (G acc) a3] }/\wy.heap[F]?=Q (V #[J U ((D:Int)+1),I b4 (G acc) a3,J U p.line] 130 (0,0)))
            · intro i2;have l1:=zD i2;clear i2;go_region_law
                ((refine step_append_lies _ (by rfl) _ _ _ (by rfl) 0 130 j0 _ 3 40 underlying70 k5 j5 j4 j3 rfl (by omega) _ (G p.zH) (frCells X.xg p.zH) (by rfl) ((l6.u.alloc _).drew)
                        ⟨wr.heap.size,0,none⟩ 1 1 [J U ((D:Int)+1),I b4 (G acc) a3,J U p.line] (by rfl) (by rfl)
                        (World.news_of_block (cs:=#[J U ((D:Int)+1),I b4 (G acc) a3,J U p.line]) (t:=130) (fr:=(0,0)) (zN wr _)) (by simp[Value.oneCell'])
                        (by omega) (by unfold maxLen;omega) (by omega) (zo _) (wr.heap.size+1) (by simp) ?_;intro g' cap' w4 d9 f f0 m5;have bM:=(f.block P (by simp;omega) l4.u).trans (yR l8.u _);have d0:w4.cell? ⟨P,0,none⟩=Q X.fv:=(zC bM 0 (by simp[jh]));rw[HX.u.2.2.2.2]at d0;have e0:=zS bM 0))
              all_goals
                rename_i hKK;refine hKK _ _ ?_;have hwy:=rG (D:=D) z.u.1 HX.u.2.2.1 HX.u.2.2.2.2 HX.u.2.1 f d9 f0 HX.u.1 a0;revert hwy;generalize w4.setCell ⟨P,0,none⟩ (I (Q ⟨g',0,none⟩) (G p.zH+1) cap')=wy;intro hwy;exact l1.u _ _ _ hwy
            · intro g' c' wy hR;obtain⟨h5,h7⟩:=hR;obtain⟨y0,y1,y2⟩:=yb h7;have i5:=zD h5;have o1:IntKind.i64.wrap ((D:Int)+1+1)=(D:Int)+1+1:=zl _ ⟨by omega,by omega⟩;clear h5 h7;go_wp2_with fail;refine(HG.u _ i5.u.JZ).mono ?_;rintro e w6 ⟨rfl,g8⟩;have d1:=i5.u.zP g8;have d8:=d1.pl.block;have d5:w6.cell? ⟨P,5,none⟩=Q (J U p.line):=zC d8 5 (by simp[jh]);have z6:=zS d8;have i6:=zD (d1.to (d1.pl.Qj (Rf.jc ls (D+1):Nat)));clear d1 d8 g8;go_wp2;go_ret;exact⟨by rw[b5.u.1];rfl,_,by rw[b5.u.2,a9.u];exact i6.u⟩
def PlW (w:World) (B:Nat) (fv vv cv ov:Value) (p:Rf.Pl):Prop:=0 < G p.zH/\0 < G p.cells/\∃xg kB,Xd w B p ⟨fv,vv,cv,ov,xg,kB⟩
def Y6 (p:Rf.Pl) (n:Int) (w:World) (e:Ending) (w':World):Prop:=Below w.heap.size w w'/\∃fv vv cv ov,e=T (E #[L (jh fv vv cv ov p),J U n])/\PlW w' w.heap.size fv vv cv ov p
theorem Xd.val (h:Xd w B p X) (hf:0 < G p.zH) (hc:0 < G p.cells):Bf w X.fv X.vv X.cv X.ov p:=by
 have N:=zN w (V (jh X.fv X.vv X.cv X.ov p) 72);have d:w.ownsRow 0 130 3 X.fv (G p.zH) (frCells X.xg p.zH):=h.own.rows (jy X.fv X.xg p.zH) (by simp[yO]);have z:w.ownsRow 0 3 1 X.vv (G p.vars) (xR p.vars):=h.own.rows (zz X.vv p.vars) (by simp[yO]);have o:w.ownsRow 0 24 1 X.cv (G p.cells) X.kB:=h.own.rows (YF X.cv X.kB (G p.cells)) (by simp[yO]);have A:w.ownsRow 0 3 1 X.ov (G p.out) (xR p.out):=h.own.rows (zz X.ov p.out) (by simp[yO]);have F:∀i (hi:i < G p.zH),∃av,X.xg[i]?=Q av/\w.ownsRow 0 3 1 av p.zH[i].args.length (xR p.zH[i].args):=fun i hi=>by
  have k:i < G X.xg:=by rw[h.fl];exact hi
  refine⟨X.xg[i],zJ k,h.own.rows (zz X.xg[i] p.zH[i].args) ?_⟩;unfold yO;refine zb _ (zY _ ?_);have:(List.zipWith zz X.xg (p.zH.map Rf.Fr.args))[i]?=Q (zz X.xg[i] p.zH[i].args):=by
   rw[je,zJ k,yt,zJ hi];rfl
  exact qF this
 have D:∀i (hi:i < G p.cells),∃av,X.kB[i]?=Q av/\w.ownsRow 0 3 1 av p.cells[i].length (xR p.cells[i]):=fun i hi=>by
  have k:i < G X.kB:=by rw[h.cl];exact hi
  refine⟨X.kB[i],zJ k,h.own.rows (zz X.kB[i] p.cells[i]) ?_⟩;unfold yO;refine zb _ (zb _ ?_);have:(List.zipWith zz X.kB p.cells)[i]?=Q (zz X.kB[i] p.cells[i]):=by
   rw[je,zJ k,zJ hi]
  exact qF this
 clear N;obtain⟨g,cap,R,_,_,_⟩:=yD d (YN X.xg p.zH h.fl 0 hf).1;obtain⟨g2,L,J,_,_,_⟩:=yD o (j:=0) (zJ (by rw[h.cl];exact hc));refine⟨⟨g,0,cap,R,fun i hi=>?_⟩,YX z,⟨g2,0,L,J,fun i hi=>?_⟩,YX A⟩
 ·obtain⟨av,I,H⟩:=F i hi;obtain⟨Z,O,W⟩:=YN X.xg p.zH h.fl i hi;rw[<-zJ,I]at O;obtain⟨g1,c1,f,_,_,M⟩:=yD d Z;obtain⟨g3,c3,y,_,_,U⟩:=yD d O;obtain⟨g4,c4,x,_,_,T⟩:=yD d W;rw[R]at f y x;injection f with f _ _;injection f with f;injection f with f;injection y with y _ _;injection y with y;injection y with y;injection x with x _ _;injection x with x;injection x with x;subst f y x;rw[xW];exact⟨av,M,U,T,YX H⟩
 ·obtain⟨av,I,H⟩:=D i hi;obtain⟨g1,c1,f,_,_,M⟩:=yD o I;rw[J]at f;injection f with f _ _;injection f with f;injection f with f;subst f;rw[xW];exact⟨av,M,YX H⟩
theorem Xd.whole (h:Xd w B p X) (d:0 < G p.zH) (f:0 < G p.cells):PlW w B X.fv X.vv X.cv X.ov p:=⟨d,f,X.xg,X.kB,h⟩
theorem Xd.mono {B':Nat} (h:Xd w B p X) (d:B'<=B):Xd w B' p X:=⟨h.own,h.fl,h.cl,fun k hk=>zi d (h.new k hk)⟩
abbrev W7 (w:World) (R:Nat) (a b c d e f g:Value):World:=((((((w.setCell ⟨R,0,Z⟩ a).setCell ⟨R,1,Z⟩ b).setCell ⟨R,2,Z⟩ c).setCell ⟨R,3,Z⟩ d).setCell ⟨R,4,Z⟩ e).setCell ⟨R,5,Z⟩ f).setCell ⟨R,6,Z⟩ g
theorem Xd.w7 (h:Xd w B p X) (D:w.heap[N]?=Q (V c 72 (0,0))) (A:Below B w0 w) (d:B<=N) (y x o k j i f:Value):Xd (W7 w N y x o k j i f) B p X/\Below B w0 (W7 w N y x o k j i f):=by
 have L:=Xd.aside ⟨h,D,A⟩ d 0 y;have J:=Xd.aside L d 1 x;have I:=Xd.aside J d 2 o;have H:=Xd.aside I d 3 k;have G:=Xd.aside H d 4 j;have F:=Xd.aside G d 5 i;have z:=Xd.aside F d 6 f;exact⟨z.1,z.2.2⟩
theorem seven {R:Nat} {t:TypeId} {a b c d e f g:Value} (h:w.heap[R]?=Q (V #[a,b,c,d,e,f,g] t (0,0))):w.cell? ⟨R,0,Z⟩=Q a/\w.cell? ⟨R,1,Z⟩=Q b/\w.cell? ⟨R,2,Z⟩=Q c/\w.cell? ⟨R,3,Z⟩=Q d/\w.cell? ⟨R,4,Z⟩=Q e/\w.cell? ⟨R,5,Z⟩=Q f/\w.cell? ⟨R,6,Z⟩=Q g:=
 ⟨zC h 0 (by simp),zC h 1 (by simp),zC h 2 (by simp),zC h 3 (by simp),zC h 4 (by simp),zC h 5 (by simp),zC h 6 (by simp)⟩
theorem vC.ZX (h:vC w B P p X):∃xa xc ya yc za zc oa oc,X.fv=I xa (G p.zH) xc/\X.vv=I ya (G p.vars) yc/\X.cv=I za (G p.cells) zc/\X.ov=I oa (G p.out) oc:=by
 obtain⟨xa,xc,i⟩:=zK h.Jq;obtain⟨ya,yc,f⟩:=zK h.wJ;obtain⟨za,zc,d⟩:=zK h.eB;obtain⟨oa,oc,j⟩:=zK h.CQ;exact⟨xa,xc,ya,yc,za,zc,oa,oc,i,f,d,j⟩
def rR (S g cap:Nat) (ls:List Ib) (P:Nat) (p:Rf.Pl) (te:Int) (p1:Rf.Pl) (w0:World) (e:Ending) (w':World):Prop:=e=T (J U te)/\∃X',JW w0 w' S g cap ls P (if te=0 then p1 else p) X'
def Gv (w:World) (S g cap L:Nat) (ls:List Ib) (t:Ib) (iv:Value) (p:Rf.Pl) (te nn:Int) (p1:Rf.Pl) (x:Ia):Prop:=
 ((x.toList==[115,101,116])=D/\nn=2/\∃p0:Rf.Pl,(te=0->p0.line=(L:Int)+1)/\p1={ p0 with line:=(Rf.jc ls (L+1):Nat) }/\∀(w0 w':World) (P:Nat) (X:Qg) (tv:Value),JW w0 w' S g cap ls P p X->xA w0 tv t->Calls Tryz.prog 96 #[H (Q ⟨S,0,Z⟩),H (Q ⟨P,0,Z⟩),tv] w' (rR S g cap ls P p te p0 w0))\/
 (x.toList==[115,101,116])=W/\((x.toList==[99,97,108,108])=D/\nn=1/\(∀(w0 w':World) (P:Nat) (X:Qg) (tv:Value),JW w0 w' S g cap ls P p X->xA w0 tv t->Calls Tryz.prog 97 #[H (Q ⟨S,0,Z⟩),H (Q ⟨P,0,Z⟩),tv] w' (rR S g cap ls P p te p1 w0))\/
 (x.toList==[99,97,108,108])=W/\(((x.toList==[114,101,116,117,114,110])=D\/(x.toList==[114,101,116,117,114,110])=W/\(x.toList==[101,110,100])=D)/\nn=1+((Rf.top p).args.length:Int)/\(∀(w0 w':World) (P:Nat) (X:Qg),JW w0 w' S g cap ls P p X->Calls Tryz.prog 98 #[H (Q ⟨S,0,Z⟩),H (Q ⟨P,0,Z⟩)] w' (rR S g cap ls P p te p1 w0))\/
 (x.toList==[114,101,116,117,114,110])=W/\(x.toList==[101,110,100])=W/\((x.toList==[112,114,105,110,116])=D/\(x.toList==[114,101,97,100])=W/\nn=2\/(x.toList==[112,114,105,110,116])=W/\((x.toList==[114,101,97,100])=D/\nn=3\/(x.toList==[114,101,97,100])=W/\nn=1))/\∀(w0 w':World) (P:Nat) (X:Qg) (tv:Value),Below w.heap.size w w0->JW w0 w' S g cap ls P p X->xA w0 tv t->Calls Tryz.prog 99 #[H (Q ⟨S,0,Z⟩),H (Q ⟨P,0,Z⟩),tv,iv] w' (rR S g cap ls P p te p1 w0)))
theorem QC {L:Nat} (hG:jA w S g cap ls) (hv:Bf w fv vv cv ov p) (hB:PlB p) (g5:V9 ls p) (hL:Lawful ls) (a7:Rf.nested ls=0) (g7:p.line=(L:Int)+1) (h8:L < G ls) (ht:ls[L]=t) (d6:0 < G t) (i9:∃a n c,iv=I a n c) {te nn:Int} {p1:Rf.Pl} (g4:te=0->0 < G p1.zH/\0 < G p1.cells) (hk:Gv w S g cap L ls t iv p te nn p1 t[0]):Calls Tryz.prog 55 #[H (Q ⟨S,0,Z⟩),.agg (jh fv vv cv ov p),iv] w (Y6 (if te=0 then p1 else { p with fin:=te }) (if te=0 then nn else 1) w):=by
 have HG:=zD hG;have HV:=zD hv;have f5:=zD hB;have b9:=zD g5;have g8:=hL.len;have j4:=zD (JM ls L h8 g8 a7 S g cap);have HK:=zD hk;obtain⟨fb,fo,a1,rfl,i7⟩:=hv.zH;obtain⟨cb,co,a2,rfl,i6⟩:=hv.cells;obtain⟨c0,T,rfl,i5⟩:=hv.vars;obtain⟨d0,a0,rfl,i4⟩:=hv.out;obtain⟨l5,l4,j5,rfl⟩:=i9;have j2:=zD g7;have j0:=zD g4;have HT:=zD ht;obtain⟨q,hq⟩:∃q,q=(if te=0 then p1 else ({ p with fin:=te }:Rf.Pl)):=⟨_,rfl⟩;obtain⟨mm,hnn⟩:∃mm,mm=(if te=0 then nn else 1):=⟨_,rfl⟩;rw[<-hq,<-hnn];have HQ:=qG hq hnn;have N:=((zI w.heap.size w).alloc (zB _) (V (jh (I (Q ⟨fb,fo,Z⟩) (G p.zH) a1) (I c0 (G p.vars) T) (I (Q ⟨cb,co,Z⟩) (G p.cells) a2) (I d0 (G p.out) a0) p) 72)).alloc (by simp) (V #[I Z 0 0,I Z 0 0,I Z 0 0,J U 0,I Z 0 0,J U 0,J U 0] 72);have bB:=yR (zN w (V (jh (I (Q ⟨fb,fo,Z⟩) (G p.zH) a1) (I c0 (G p.vars) T) (I (Q ⟨cb,co,Z⟩) (G p.cells) a2) (I d0 (G p.out) a0) p) 72)) (V #[I Z 0 0,I Z 0 0,I Z 0 0,J U 0,I Z 0 0,J U 0,J U 0] 72);have bR:=qD w (V (jh (I (Q ⟨fb,fo,Z⟩) (G p.zH) a1) (I c0 (G p.vars) T) (I (Q ⟨cb,co,Z⟩) (G p.cells) a2) (I d0 (G p.out) a0) p) 72) (V #[I Z 0 0,I Z 0 0,I Z 0 0,J U 0,I Z 0 0,J U 0,J U 0] 72);have l8:((w.alloc (V (jh (I (Q ⟨fb,fo,Z⟩) (G p.zH) a1) (I c0 (G p.vars) T) (I (Q ⟨cb,co,Z⟩) (G p.cells) a2) (I d0 (G p.out) a0) p) 72)).alloc (V #[I Z 0 0,I Z 0 0,I Z 0 0,J U 0,I Z 0 0,J U 0,J U 0] 72)).heap.size=w.heap.size+2:=by simp
 clear hG hv hB g5 hL a7 hk i7 i6 i5 i4 g7 g4 hq hnn ht;unfold jh at *;go_enter func55,ntmps55;go_wp2_with fail;generalize (w.alloc _).alloc _=wA at *;have i0:=zD (HV.u.zP N);refine(gj i0.u f5.u).mono ?_;rintro e w1 ⟨h4,X,rfl,hQ⟩;have m0:=h4.size;have d8:=(zI w1.heap.size w1).alloc (zB _) (V (jh X.fv X.vv X.cv X.ov p) 72);have hO:=hQ.at d8 (zN w1 (V (jh X.fv X.vv X.cv X.ov p) 72)) (by omega);have hI:JW wA (w1.alloc (V (jh X.fv X.vv X.cv X.ov p) 72)) S g cap ls w1.heap.size p X:=⟨HG.u.zP N,h4.trans (d8.mono (B':=wA.heap.size) (by omega)),hO⟩;obtain⟨D,A,f8⟩:=zK hO.Jq;obtain⟨z,y,f7⟩:=zK hO.wJ;obtain⟨o,k,f6⟩:=zK hO.eB;obtain⟨M,F,g6⟩:=zK hO.CQ;have i:jh X.fv X.vv X.cv X.ov p=(Hi D A z y o k M F p):=by rw[f8,f7,f6,g6];rfl
 rw[i]at hI ⊢;have i8:(w1.alloc (V (Hi D A z y o k M F p) 72)).heap.size=w1.heap.size+1:=by simp
 have c5:(w1.alloc (V (Hi D A z y o k M F p) 72)).cell? ⟨w1.heap.size,5,Z⟩=Q (J U ((L:Int)+1)):=by
  have:=zC (zN w1 (V (Hi D A z y o k M F p) 72)) 5 (by simp);rw[this];exact qB (fun x=>Q (Value.int U x)) j2.u
 have hT:=hI.JZ.top;obtain⟨i2,tc,c7,g1⟩:=HG.u.row L h8;have h9:=cell_later N c7;have c8:=cell_later hI.iB h9;have a5:=zD (g1.zP N);rw[HT.u]at c8 a5;have HI:=zD hI;have l7:IntKind.i64.wrap ((L:Int)+1-1)=L:=by rw[show (L:Int)+1-1=(L:Int) by omega];exact zl _ ⟨by omega,by omega⟩
 have l6:IntKind.i64.wrap (L:Int)=L:=zl _ ⟨by omega,by omega⟩;have m3:(0:Int)<=(L:Int):=by omega
 have m2:(L:Int) < (G ls:Int):=by omega
 have m5:w1.heap.size+1<=(w1.alloc (V (Hi D A z y o k M F p) 72)).heap.size:=by simp
 clear hO d8 hQ hI f8 f7 f6 g6 i c7 h9 g1 i8;go_wp2_with fail;generalize f9:w1.alloc (V (Hi D A z y o k M F p) 72)=w2 at *;clear f9;obtain⟨tb,tq,rfl⟩:∃tb tq,i2=Q ⟨tb,tq,Z⟩:=a5.u.qZ (by intro e;rw[e]at d6;simp at d6);have j7:(0:Int) < (G t:Int):=by omega
 have i1:=zD (show ∀w',Below wA.heap.size wA w'->w'.cell? ⟨tb,tq,Z⟩=Q (O t[0])from fun w' hb=>by have:=Xm (a5.u.zP hb) d6;rw[qO]at this;exact this);go_region_held3 (fun w'=>w'.cell? ⟨S,0,Z⟩=Q (I (Q ⟨g,0,Z⟩) (G ls) cap)/\w'.cell? ⟨w1.heap.size,5,Z⟩=Q (J U ((L:Int)+1))/\w'.cell? ⟨g,L,Z⟩=Q (I (Q ⟨tb,tq,Z⟩) (G t) tc)) (go_keep) (fail);have a6:=zD (HI.u.zP (zh w2));have ct:=i1.u _ a6.u.iB;clear HI c5 hT c8;generalize w2.drew=w3 at *;generalize t[0]=x0 at *;generalize w1.heap.size=P at *;go_upto_region 5 with (fail);go_cut [26] (fun v wx=>v=O x0/\wx=w3)
 case first=>
  go_wp2_with fail;go_meet
  case rel=>exact⟨rfl,rfl⟩
 case rest=>
  obtain⟨rfl,rfl⟩:=hcut;rename_i hr hh;clear hh;refine hr _ _ ?_;go_cut [10,11] (fun ev nv wx=>ev=J U te/\nv=J U nn/\∃X',JW wA wx S g cap ls P (if te=0 then p1 else p) X')
  case first=>
   rcases HK.u with⟨k1,rfl,p0,hp0,rfl,hin⟩| ⟨k1,⟨k2,rfl,hin⟩| ⟨k2,⟨k3,hnn,hin⟩| ⟨k3,k4,k5,hin⟩⟩⟩
   case inl=>
    have R:=zD hin;have j1:=zD hp0;clear hin hp0 HK;go_wp2_with fail;refine(R.u wA wc P X _ a6.u a5.u).mono ?_;rintro e w4 ⟨rfl,X4,hI4⟩;by_cases hte:te=0
    case neg=>
     rw[zA hte]at hI4;have j:=zD hI4;have g0:(te==0)=W:=by simpa using hte
     clear hI4;go_wp2_with fail;go_meet
     case rel=>exact⟨rfl,rfl,X4,by rw[zA hte];exact j.u⟩
    case pos=>
     subst hte;rw[zE rfl]at hI4;have c5:w4.cell? ⟨P,5,Z⟩=Q (J U ((L:Int)+1)):=by have:=zC hI4.pl.block 5 (by simp[jh]);rw[this];exact qB (fun x=>Q (Value.int U x)) (j1.u rfl)
     have j:=zD hI4;have m4:IntKind.i64.wrap ((L:Int)+1+1)=(L:Int)+1+1:=zl _ ⟨by omega,by omega⟩;clear hI4;go_wp2_with fail;refine(j4.u _ j.u.JZ).mono ?_;rintro e w5 ⟨rfl,a3⟩;have b8:=j.u.zP a3;have d5:w5.cell? ⟨P,5,Z⟩=Q (J U p0.line):=zC b8.pl.block 5 (by simp[jh]);have z5:=zS b8.pl.block;have j3:=zD (b8.to (b8.pl.Qj (Rf.jc ls (L+1):Nat)));clear b8 a3 c5;go_wp2_with fail;go_meet
     case rel=>exact⟨rfl,rfl,X4,by rw[zE (by simp)];exact j3.u⟩
   case inr.inl=>
    have R:=zD hin;clear hin HK;go_wp2_with fail;refine(R.u wA wc P X _ a6.u a5.u).mono ?_;rintro e w4 ⟨rfl,hI4⟩;go_wp2_with fail;go_meet
    case rel=>exact⟨rfl,rfl,hI4⟩
   case inr.inr.inl=>
    have R:=zD hin;clear hin HK;obtain⟨fk,h0⟩:∃fk,G p.zH=fk+1:=⟨G p.zH-1,by have:=b9.u.some;omega⟩;obtain⟨m7,m6,m8,h6,_,k0,_,i3,_,d2⟩:=a6.u.pl.top h0;obtain⟨m9,l3,h5⟩:=zK d2;rw[h5]at i3;have g9:=b9.u.VJ;have l1:fk<=1000:=by omega
    have j9:IntKind.i64.wrap ((fk:Int)+1-1)=fk:=by rw[show (fk:Int)+1-1=(fk:Int) by omega];exact zl _ ⟨by omega,by omega⟩
    have j8:IntKind.i64.wrap (fk:Int)=fk:=zl _ ⟨by omega,by omega⟩;have l0:(0:Int)<=(fk:Int):=by omega
    have k7:(fk:Int) < (fk:Int)+1:=by omega
    have l2:(Rf.top p).args.length<=1000:=f5.u.args (Rf.top p) (by
     have h1:=b9.u.some;unfold Rf.top;rw[xL,zJ (by omega)];exact zj _)
    have m1:IntKind.i64.wrap (1+((Rf.top p).args.length:Int))=1+((Rf.top p).args.length:Int):=zl _ ⟨by omega,by omega⟩;generalize (Rf.top p).args.length=al at *;subst hnn;clear h0 h6 d2 h5 g9;rcases k3 with k3 | ⟨k3,k4⟩
    all_goals
     go_wp2_with fail;refine(R.u wA wc P X a6.u).mono ?_;rintro e w4 ⟨rfl,hI4⟩;go_wp2_with fail;go_meet
     case rel=>exact⟨rfl,rfl,hI4⟩
   case inr.inr.inr=>
    have R:=zD hin;clear hin HK;rcases k5 with⟨k5,k6,rfl⟩| ⟨k5,⟨k6,rfl⟩| ⟨k6,rfl⟩⟩
    all_goals
     go_wp2_with fail;refine(R.u wA wc P X _ N a6.u a5.u).mono ?_;rintro e w4 ⟨rfl,hI4⟩;go_wp2_with fail;go_meet
     case rel=>exact⟨rfl,rfl,hI4⟩
  case rest=>
   obtain⟨rfl,rfl,X4,hI4⟩:=hcut;have f:=hI4.iB;have j6:=f.size;have d9:=(f.block w.heap.size (by omega)).trans bB;have a4:=(f.block (w.heap.size+1) (by omega)).trans bR;by_cases hte:te=0
   ·subst hte;rw[zE rfl]at hI4;obtain⟨g2,g3⟩:=j0.u rfl;have f0:=qG (HQ.u.1.trans (zE rfl)) (HQ.u.2.trans (zE rfl));obtain⟨D,A,z,y,o,k,M,F,f1,f2,f3,f4⟩:=hI4.pl.ZX;have h:=hI4.pl.block;have i:jh X4.fv X4.vv X4.cv X4.ov p1=(Hi D A z y o k M F p1):=by rw[f1,f2,f3,f4];rfl
    rw[i]at h;obtain⟨q0,q1,q2,q3,q4,q5,q6⟩:=seven h;obtain⟨n0,n1,n2,n3,n4,n5,n6⟩:=seven a4;have zn:=zS a4;have d:=Xd.w7 (w0:=w) (hI4.pl.rows.mono (B':=w.heap.size) (by omega)) a4 (N.trans (f.mono (B':=w.heap.size) (by omega))) (by omega) (I D (G p1.zH) A) (I z (G p1.vars) y) (I o (G p1.cells) k) (J U p1.read) (I M (G p1.out) F) (J U p1.line) (J U p1.fin);have HF:=XX d.2 (d.1.whole g2 g3) i;clear hI4 f d9 a4 HQ h i d f1 f2 f3 f4;go_wp2_with fail;refine zT (v:=E #[.agg (Hi D A z y o k M F p1),J U nn]) ?_ rfl ?_
    ·simp[results,results55,go_sem,n0,n1,n2,n3,n4,n5,n6]
    ·obtain⟨h1,h2,h3⟩:=HF.u;obtain⟨e1,e2⟩:=f0.u;rw[e1,e2];exact⟨h1,_,_,_,_,qB (fun a=>Ending.returned (Value.tuple #[Value.agg a,Value.int U nn])) h3.symm,h2⟩
   ·rw[zA hte]at hI4;have g0:(te==0)=W:=by simpa using hte
    have f0:=qG (HQ.u.1.trans (zA hte)) (HQ.u.2.trans (zA hte));obtain⟨b0,b1,b2,b3,b4,b5,b6⟩:=seven d9;have j:=XX hI4 a4 (i0.u.zP f);clear hI4 f d9 a4 HQ;go_wp2_with fail;refine(gj j.u.2.2 f5.u).mono ?_;rintro e w5 ⟨a3,X5,rfl,b7⟩;have l9:=a3.size;have h7:Xd w5 wc.heap.size { p with fin:=te } X5:=⟨b7.own,b7.fl,b7.cl,b7.new⟩;have d7:=(zI w5.heap.size w5).alloc (zB _) (V (jh X5.fv X5.vv X5.cv X5.ov { p with fin:=te }) 72);have d1:=h7.at d7 (zN w5 (V (jh X5.fv X5.vv X5.cv X5.ov { p with fin:=te }) 72)) (by omega);obtain⟨D,A,z,y,o,k,M,F,f1,f2,f3,f4⟩:=d1.ZX;have i:jh X5.fv X5.vv X5.cv X5.ov p=(Hi D A z y o k M F p):=by rw[f1,f2,f3,f4];rfl
    have d4:jh X5.fv X5.vv X5.cv X5.ov { p with fin:=te }=#[I D (G p.zH) A,I z (G p.vars) y,I o (G p.cells) k,J U p.read,I M (G p.out) F,J U p.line,J U te]:=by rw[f1,f2,f3,f4];rfl
    have a8:Below wA.heap.size wA (w5.alloc (V (jh X5.fv X5.vv X5.cv X5.ov { p with fin:=te }) 72)):=(j.u.1.iB.trans (a3.mono (B':=wA.heap.size) j.u.1.iB.size)).trans (d7.mono (B':=wA.heap.size) (by omega));have a9:=(a8.block (w.heap.size+1) (by omega)).trans bR;have h:=d1.block;have d:=Xd.w7 (w0:=w) (d1.rows.mono (B':=w.heap.size) (by omega)) a9 (N.trans (a8.mono (B':=w.heap.size) (by omega))) (by omega) (I D (G p.zH) A) (I z (G p.vars) y) (I o (G p.cells) k) (J U p.read) (I M (G p.out) F) (J U p.line) (J U te);have d3:=d.1.whole b9.u.some (by have:=b9.u.cells;show 0 < G p.cells;omega);rw[d4]at h a9 d d3;rw[i];obtain⟨q0,q1,q2,q3,q4,q5,q6⟩:=seven h;obtain⟨n0,n1,n2,n3,n4,n5,n6⟩:=seven a9;have zn:=zS a9;have HF:=XX d.2 d3 d4;clear d1 h7 d7 a8 a9 h d d3 i d4 f1 f2 f3 f4 a3 b7 b0 b1 b2 b3 b4 b5 b6;go_wp2_with fail;refine zT (v:=E #[.agg #[I D (G p.zH) A,I z (G p.vars) y,I o (G p.cells) k,J U p.read,I M (G p.out) F,J U p.line,J U te],J U 1]) ?_ rfl ?_
    ·simp[results,results55,go_sem,n0,n1,n2,n3,n4,n5,n6]
    ·obtain⟨h1,h2,h3⟩:=HF.u;obtain⟨e1,e2⟩:=f0.u;rw[e1,e2];exact⟨h1,_,_,_,_,qB (fun a=>Ending.returned (Value.tuple #[Value.agg a,Value.int U 1])) h3.symm,h2⟩
theorem uC {α β γ:Type} (f:α->β->γ):∀(xs:List α) (ys:List β) (i:Nat) (a:α) (b:β),List.zipWith f (xs.set i a) (ys.set i b)=(List.zipWith f xs ys).set i (f a b)
 | [],_,_,_,_=>by simp
 | _::_,[],i,_,_=>by cases i <;> simp
 | _::_,_::_,0,_,_=>rfl
 | _::xs,_::ys,i+1,a,b=>by simp[uC f xs ys i a b]
theorem uD {α β γ:Type} (f:α->β->γ) (a:α) (b:β):∀n:Nat,List.zipWith f (List.replicate n a) (List.replicate n b)=List.replicate n (f a b)
 | 0=>rfl
 | n+1=>by simp[List.replicate_succ,uD f a b n]
theorem wZ {α:Type} (l:List α) (h:i < G l) (y:α):l=l.take i++l[i]::l.drop (i+1)/\l.set i y=l.take i++y::l.drop (i+1):=
 ⟨by simp,by rw[List.set_eq_take_append_cons_drop,zE h]⟩
theorem Own.nils {R N:List Rw} (h:Own w R) (d:∀r∈N,r.v.ownBlock=Z/\w.ownsRow 0 r.t r.size r.v r.n r.xs):Own w (R++N)/\xh (R++N)=xh R:=by
 have f:xh N=[]:=by
  unfold xh;rw[List.filterMap_eq_nil_iff];exact fun r hr=>(d r hr).1
 have e:xh (R++N)=xh R:=by rw[jd,f,yX]
 refine⟨⟨fun r hr=>?_,by rw[e];exact h.apart⟩,e⟩;rcases zd.mp hr with hr | hr
 ·exact h.rows r hr
 ·exact(d r hr).2
theorem vC.EZ (h:vC w B P p X) (J:B<=w.heap.size) (o:Below w.heap.size w w1) (v:Value) (n:Nat) (H:p.cells=[]) (G:X.kB=[]) (y:w1.ownsRow w.heap.size 24 1 v n (List.replicate n (I Z 0 0))):vC (w1.setCell ⟨P,2,Z⟩ v) B P { p with cells:=List.replicate n [] } { X with cv:=v,kB:=List.replicate n (I Z 0 0) }/\Below B w (w1.setCell ⟨P,2,Z⟩ v):=by
 have z:=zQ h.block;have j:=zU h.block o;have f:yO X p=[jy X.fv X.xg p.zH,zz X.vv p.vars]++YF X.cv [] 0::(zz X.ov p.out::List.zipWith zz X.xg (p.zH.map Rf.Fr.args)):=by
  unfold yO;rw[H,G];simp
 have x:=h.own;rw[f]at x;obtain⟨F,D⟩:=Own.swap (w':=w1) x (r':=YF v (List.replicate n (I Z 0 0)) n) (fun k hk _=>o.block k hk) (vr y) (fun g hg=>Or.inr (y.lt g hg).1);obtain⟨i,A⟩:=F.nils (N:=List.replicate n (zz (I Z 0 0) [])) (fun r hr=>by
  rw[List.mem_replicate]at hr;rw[hr.2];exact⟨rfl,zW _ _ _ _⟩)
 have d:yO { X with cv:=v,kB:=List.replicate n (I Z 0 0) } { p with cells:=List.replicate n [] }=([jy X.fv X.xg p.zH,zz X.vv p.vars]++YF v (List.replicate n (I Z 0 0)) n::(zz X.ov p.out::List.zipWith zz X.xg (p.zH.map Rf.Fr.args)))++List.replicate n (zz (I Z 0 0) []):=by
  unfold yO;simp only[uD,qN];simp
 have hcase:∀k∈xh (yO { X with cv:=v,kB:=List.replicate n (I Z 0 0) } { p with cells:=List.replicate n [] }),k∈xh (yO X p)\/w.heap.size<=k:=by
  intro k hk;rw[d,A]at hk;rw[f];exact D k hk
 refine⟨⟨by rw[zf j];rfl,?_,h.fl,by simp,fun k hk=>?_,h.here⟩,?_⟩
 ·rw[<-d]at i;exact⟨fun r hm=>yP (i.rows r hm) (fun g hg=>zO w1 ⟨P,2,Z⟩ _ g (by
   show g≠P;rcases hcase g (qU hm hg)with hk | hk
   ·exact h.apart hk
   ·omega)),i.apart⟩
 ·rcases hcase k hk with hk | hk
  ·exact h.new k hk
  ·omega
 ·exact yx (o.mono J) h.here _ _
theorem vC.F3 (h:vC w B P p X) (hB:B<=w.heap.size) (A:Below w.heap.size w w1) (hi:i < G p.cells) (hg:X.cv.ownBlock=Q g) (W:X.kB[i]?=Q (I none 0 0)) (v:Value) (xs:List Int) (hn:w1.ownsRow w.heap.size 3 1 v (G xs) (xR xs)):vC (w1.setCell ⟨g,i,none⟩ v) B P { p with cells:=p.cells.set i xs } { X with kB:=X.kB.set i v }/\Below B w (w1.setCell ⟨g,i,none⟩ v):=by
 have N:i < G X.kB:=by rw[h.cl];exact hi
 have M:X.kB[i]=I none 0 0:=by rw[zJ N]at W;exact Option.some.inj W
 obtain⟨Z,D⟩:∃Z,Z=List.zipWith zz X.kB p.cells:=⟨_,rfl⟩;have J:i < G Z:=by rw[D,List.length_zipWith];omega
 have L:Z[i]=zz (I none 0 0) p.cells[i]:=by subst D;rw[List.getElem_zipWith,M]
 obtain⟨R,s2⟩:=wZ Z J (zz v xs);rw[L]at R;have o:g∈xh (yO X p):=qU (r:=YF X.cv X.kB (G p.cells)) (by simp[yO]) hg;have O:=h.apart o;have a0:=zQ h.block;have a1:=h.own.lt g o;obtain⟨F,hF⟩:∃F,F=List.zipWith zz X.xg (p.zH.map Rf.Fr.args):=⟨_,rfl⟩;have z:yO X p=([jy X.fv X.xg p.zH,zz X.vv p.vars,YF X.cv X.kB (G p.cells),zz X.ov p.out]++(F++Z.take i))++zz (I none 0 0) p.cells[i]::Z.drop (i+1):=by
  unfold yO;rw[<-D,<-hF]
  conv=>lhs;rw[R]
  simp
 have ho:=h.own;rw[z]at ho;obtain⟨V,U⟩:=Own.swap (w':=w1) ho (r':=zz v xs) (fun k hk _=>A.block k hk) (vr hn) (fun g hg=>Or.inr (hn.lt g hg).1);have x:([jy X.fv X.xg p.zH,zz X.vv p.vars,YF X.cv X.kB (G p.cells),zz X.ov p.out]++(F++Z.take i))++zz v xs::Z.drop (i+1)=[jy X.fv X.xg p.zH,zz X.vv p.vars]++YF X.cv X.kB (G p.cells)::(zz X.ov p.out::(F++Z.set i (zz v xs))):=by
  rw[s2];simp
 rw[x]at V U;have hrow:w1.ownsRow 0 24 1 X.cv (G p.cells) X.kB:=yG h.eB A;obtain⟨ad,cap,j⟩:=zK hrow;have hv:X.cv=I (Q ⟨g,0,none⟩) (G p.cells) cap:=by
  rcases hrow.2 with⟨H,_⟩| ⟨g',cap',cur,H,_⟩
  ·rw[H]at hg;cases hg
  ·rw[H]at hg j;simp[Value.ownBlock]at hg;injection j with _ _ j;rw[H,hg,j]
 have f:=hrow;rw[hv]at f;have f:=(f.stored i v).1;rw[<-hv]at f;have d:∀k,k≠g->(w1.setCell ⟨g,i,none⟩ v).heap[k]?=w1.heap[k]?:=fun k hk=>zO w1 ⟨g,i,none⟩ _ k hk;obtain⟨T,o4⟩:=Own.swap (w':=w1.setCell ⟨g,i,none⟩ v) V (r':=YF X.cv (X.kB.set i v) (G p.cells)) (fun k _ hk=>d k (fun e=>hk (by rw[e];exact hg))) f (fun g' hg'=>Or.inl hg');have y:yO { X with kB:=X.kB.set i v } { p with cells:=p.cells.set i xs }=[jy X.fv X.xg p.zH,zz X.vv p.vars]++YF X.cv (X.kB.set i v) (G p.cells)::(zz X.ov p.out::(F++Z.set i (zz v xs))):=by
  unfold yO;simp only[uC,jD,<-D,<-hF];simp
 rw[<-y]at T o4;have hcase:∀k∈xh (yO { X with kB:=X.kB.set i v } { p with cells:=p.cells.set i xs }),k∈xh (yO X p)\/w.heap.size<=k:=by
  intro k hk;rcases o4 k hk with hk | hk
  ·rw[z];exact U k hk
  ·have:=A.size;exact Or.inr (by omega)
 refine⟨⟨by rw[d P (xK O)];exact zU h.block A,T,h.fl,by simp[h.cl],fun k hk=>?_,h.here⟩,yx (A.mono hB) (h.new g o) _ _⟩;rcases hcase k hk with hk | hk
 ·exact h.new k hk
 ·omega
theorem Xd.ZX (h:Xd w B p X):∃xa xc ya yc za zc oa oc,X.fv=I xa (G p.zH) xc/\X.vv=I ya (G p.vars) yc/\X.cv=I za (G p.cells) zc/\X.ov=I oa (G p.out) oc:=by
 obtain⟨xa,xc,i⟩:=zK (h.own.rows (jy X.fv X.xg p.zH) (by simp[yO]));obtain⟨ya,yc,f⟩:=zK (h.own.rows (zz X.vv p.vars) (by simp[yO]));obtain⟨za,zc,d⟩:=zK (h.own.rows (YF X.cv X.kB (G p.cells)) (by simp[yO]));obtain⟨oa,oc,j⟩:=zK (h.own.rows (zz X.ov p.out) (by simp[yO]));exact⟨xa,xc,ya,yc,za,zc,oa,oc,i,f,d,j⟩
theorem Xd.zP {w w':World} {B:Nat} {p:Rf.Pl} {X:Qg} (h:Xd w B p X) (d:Below w.heap.size w w'):Xd w' B p X:=⟨h.own.zP d,h.fl,h.cl,h.new⟩
section
attribute [local go_sem ↓] Go.wp_at_zero Go.wp_at_succ
def ER (v:Int):Rt.Rec:=⟨7,0,⟨0,0⟩,v⟩
def Jj (l c:Int) (ps:List Int) (k:Nat):List Value:=xE (⟨3,l,⟨0,0⟩,c⟩::(ps.take k).map ER)
theorem cD {b:Nat} {x y:Value} {t:TypeId} (h:w.heap[b]?=Q (V #[x,y] t (0,0))):w.cell? ⟨b,0,Z⟩=Q x/\w.cell? ⟨b,1,Z⟩=Q y:=
 ⟨by have:=zC h 0 (by simp);simpa using this,by have:=zC h 1 (by simp);simpa using this⟩
theorem sr {M:Nat} {ty:TypeId} {tail:List Value} {S:Rt.Src} {m:Rt.Mc} {X:ZK} (h:jz w M B ty tail S m X) (hm:dL S m):Calls Tryz.prog 151 #[H (Q ⟨M,0,Z⟩)] w (eE M B ty tail S X (Vv m) w):=by
 by_cases hfl:G m.zH < 2
 ·refine(pK h hfl).mono ?_;intro e w' ho;rw[show Vv m=Rt.ended m 1 by unfold Vv;rw[zE hfl]];exact ho
 ·obtain⟨D,f,a1,a7,R,b3⟩:=gH hfl;have HL:=zD (show Vv m=⟨0,wrap64 (f.call+1),⟨3,m.line,⟨0,0⟩,f.call⟩::f.params.map ER,{ m with zH:=D }⟩ by unfold Vv;rw[zA hfl,R,b3];rfl);obtain⟨j0,d2,c0,b9,b8⟩:=yi Ej;have a0:G m.zH=G D+1:=by rw[a1];simp
  have d0:G m.zH<=1000:=hm.zH;have f7:G f.params<=1000:=hm.params f (by rw[a1];simp);have W:=h.zH;rw[a0]at W;obtain⟨g2,f4,d3⟩:=zK W;have A:=h.sR (G D) (by omega);have a6:m.zH[G D]'(by omega)=f:=by simp[a1]
  rw[a6]at A;obtain⟨g,f3,hg,_,_,k1⟩:=yD W (Js X.xg m.zH h.fl (G D) (by omega)).1;obtain⟨g',d8,a5,_,_,k2⟩:=yD W (Js X.xg m.zH h.fl (G D) (by omega)).2;rw[a6]at k2;rw[hg]at a5;simp at a5;obtain⟨rfl,rfl⟩:=a5;obtain⟨F,d,b1⟩:=zK A;rw[b1]at k1 A;have c2:=h.c2;rw[hg]at c2;have c6:=h.c6;have f2:=zQ h.block;have HH:=XX h hm A;have b0:=yC ((G D:Int)+1-1) (by omega);have hw:IntKind.i64.wrap ((G D:Int)+1-1)=(G D:Int):=by rw[yv,b0];omega
  have f6:IntKind.i64.wrap (G D:Int)=(G D:Int):=by rw[yv,yC _ (by omega)]
  have h0:(0:Int)<=(G D:Int):=by omega
  have h2:¬(G D:Int) < 1:=by omega
  have h3:(G D:Int) < (G D:Int)+1:=by omega
  clear h W d3 b1 a6 R b3 b0;clear A hfl hm a0;go_enter func151,ntmps151;go_wp2_with fail;have hbA:=((zI w.heap.size w).alloc (zB _) (V #[J U 0,J U 0,I Z 0 0] 157)).alloc (by simp) (V #[I F (G f.params) d,J U f.call] 153);have bR:=yR (zN w (V #[J U 0,J U 0,I Z 0 0] 157)) (V #[I F (G f.params) d,J U f.call] 153);have bG:=qD w (V #[J U 0,J U 0,I Z 0 0] 157) (V #[I F (G f.params) d,J U f.call] 153);have hsA:((w.alloc (V #[J U 0,J U 0,I Z 0 0] 157)).alloc (V #[I F (G f.params) d,J U f.call] 153)).heap.size=w.heap.size+2:=by simp
  revert hbA bR bG hsA;generalize (w.alloc (V #[J U 0,J U 0,I Z 0 0] 157)).alloc (V #[I F (G f.params) d,J U f.call] 153)=wA;intro hbA bR bG hsA;have d6:=(HH.u.1.zP hbA).c6;obtain⟨g0,g1⟩:=cD bG;have f9:¬M=wA.heap.size:=by omega
  have HA:=gN hbA bR bG hsA;clear hbA bR bG c2 c6 k1 k2;go_region_held3 (fun w'=>w'.cell? ⟨M,6,Z⟩=Q (J U m.line)/\w'.cell? ⟨w.heap.size+1,1,Z⟩=Q (J U f.call)) (go_keep) (fail);go_wp2_with fail;go_loopw [5,6] (fun rv i wr=>∃k:Nat,k<=G f.params/\i=J U k/\wr.ownsRow (w.heap.size+2) 162 5 rv (k+1) (Jj m.line f.call f.params k)/\wr.heap[w.heap.size]?=Q (V #[J U 0,J U 0,I Z 0 0] 157 (0,0))/\wr.heap[w.heap.size+1]?=Q (V #[I F (G f.params) d,J U f.call] 153 (0,0))/\Below w.heap.size w wr)
   (fun _ i _=>G f.params-(intOf i).toNat)
  case atStart=>
   obtain⟨q1,q2,q3,q4⟩:=HA.u;have hb:=Below.drew <| (zI wA.heap.size wA).alloc (zB _) (V #[J U 3,J U m.line,J U 0,J U 0,J U f.call] 162);have a7:=lH 1 wA (w.heap.size+2) #[J U 3,J U m.line,J U 0,J U 0,J U f.call] (by omega) rfl (by omega);rw[q4]at a7;exact⟨0,zo _,rfl,a7,zU q2 hb,zU q3 hb,q1.trans (hb.mono (B':=w.heap.size) q1.size)⟩
  case round=>
   obtain⟨k,hk,rfl,o,bR,bG,y⟩:=hrel;obtain⟨a9,a4,rfl⟩:=zK o;obtain⟨g0,g1⟩:=cD bG;clear d6 hsA;by_cases hlt:k < G f.params
   ·have b2:(k:Int) < (G f.params:Int):=by omega
    have f8:(0:Int)<=(k:Int):=by omega
    obtain⟨b,f5,b4,_,f1,cx⟩:=yD (yG HH.u.2.2 y) (j:=k) (u:=J U f.params[k]) (by simp[xR,hlt]);simp at b4;obtain⟨rfl,rfl⟩:=b4;have HT:=zD (show Jj m.line f.call f.params (k+1)=Jj m.line f.call f.params k++[J U 7,J U 0,J U 0,J U 0,J U f.params[k]] by
     unfold Jj;rw[kI,zJ hlt,yB,<-yF];simp only[xE,List.flatMap_append];rfl)
    have d5:=zQ bR;have d7:=zQ bG;have HX:=XX bR bG y;clear bR bG y;generalize f.params[k]=x at *;go_wp2_with (at_builtin;refine wpList_append_lies _ rfl _ _ 94 rfl (w.heap.size+2) 162 j0 _ 5 40 underlying94 d2 c0 b9 b8 rfl (by decide) _ (k+1) _ rfl (o.alloc _) ⟨wr.heap.size,0,Z⟩ 1 1 [J U 7,J U 0,J U 0,J U 0,J U x] rfl rfl (World.news_of_block (cs:=#[J U 7,J U 0,J U 0,J U 0,J U x]) (t:=162) (fr:=(0,0)) (zN wr _)) (by simp[Value.oneCell']) (by omega) (by unfold maxLen;omega) (by omega) (by simp;omega) (wr.heap.size+1) (by simp) ?_);intro g' cap' w4 O T d4 f0;obtain⟨bR,bG,y⟩:=HX.u;have a2:Below (w.heap.size+2) wr w4:=Below.grown ((zI (w.heap.size+2) wr).alloc (by omega) _) T (by simp;omega) (fun q hq=>(o.lt q hq).1);have HF:=zD (show _/\_/\_/\_ from⟨O,(a2.block _ (by omega)).trans bR,(a2.block _ (by omega)).trans bG,y.trans (a2.mono (B':=w.heap.size) (by omega))⟩);clear O T d4 o bR bG y a2 HX d5 d7;go_wp2;go_roundw
    ·obtain⟨q1,q2,q3,q4⟩:=HF.u;exact⟨k+1,by omega,by go_num,by rw[HT.u];exact q1,q2,q3,q4⟩
    ·simp[intOf];omega
   ·have b2:¬(k:Int) < (G f.params:Int):=by omega
    have d1:k=G f.params:=by omega
    subst d1;have d9:=zD o;go_wp2_with fail;refine(iq (HH.u.1.zP y) D f a1 d0).mono ?_;rintro e w5 ⟨rfl,X',a8⟩;have iP:∀k,w.heap.size<=k->k < wr.heap.size->w5.heap[k]?=wr.heap[k]?:=fun k hk1 hk2=>a8.vz.block k hk2 (fun hin=>by
     rcases zw.mp hin with e | e
     ·omega
     ·rw[<-HH.u.1.xh]at e;have:=HH.u.1.own.lt k e;omega)
    have a3:=(iP _ (zB _) (zQ bR)).trans bR;have b6:=(iP _ (by omega) (zQ bG)).trans bG;have N:=yP (w':=w5) o (fun q hq=>iP q (by have:=(o.lt q hq).1;omega) (o.lt q hq).2);have b5:=Z8.from HH.u.1 y a8;obtain⟨r0,r1,r2⟩:=yb a3;obtain⟨s0,s1⟩:=cD b6;have z:=zS a3;have HF:=zD (fun a b c=>And.intro (b5.three a3 (zB _) (by unfold Xe;decide) a b c) (show (W3 w5 w.heap.size a b c).ownsRow w.heap.size 162 5 (I a9 (G f.params+1) a4) (G f.params+1) (Jj m.line f.call f.params (G f.params))from yP (yn N (by omega)) (fun q hq=>iF (by have:=(N.lt q hq).1;omega))));have b7:=zD (show (⟨3,m.line,⟨0,0⟩,f.call⟩::f.params.map ER:List Rt.Rec).length=G f.params+1/\xE (⟨3,m.line,⟨0,0⟩,f.call⟩::f.params.map ER)=Jj m.line f.call f.params (G f.params) by
     unfold Jj;rw[Zp];exact⟨by simp,rfl⟩)
    clear a8 b5 a3 b6 N o bR bG y iP d9 g0 g1;go_wp2_with fail;refine zT (v:=L #[J U 0,J U (wrap64 (f.call+1)),I a9 (G f.params+1) a4]) ?_ rfl ⟨_,_,by rw[HL.u],by rw[HL.u];exact(HF.u _ _ _).1,by rw[HL.u];show World.ownsRow _ _ _ _ _ (List.length _) _;rw[b7.u.1,b7.u.2];exact(HF.u _ _ _).2⟩;simp[results,results151,go_sem,r0,r1,r2]
end
end Go.Proofs.YthleadfkfnnadaaGreat
