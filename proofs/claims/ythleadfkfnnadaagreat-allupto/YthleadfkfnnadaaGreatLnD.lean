/- The law's world: one pair of sessions more. -/
import Derived.Test.YthleadfkfnnadaaGreatMuC
set_option maxHeartbeats 4000000
set_option maxRecDepth 100000
set_option linter.all false
namespace Go.Proofs.YthleadfkfnnadaaGreat
open Value renaming int->J,slice->I,string->O,pointer->H,bool->A,agg->L,tuple->E
open IntKind renaming i64->U
open Option renaming none->Z,some->Q
open Bool renaming false->W,true->D
open List renaming length->G
open Ending renaming returned->T
open Obj renaming cells->V
open Rf Rt Go.Proofs.Tryz
open Go.RowKit
variable {kind fuel d0 mv cap:Int} {mk:List Bool} {qo:List Int} {zL:List Rt.PL} {tail xs:List Value} {X X':ZK} {M B n n' P low k l:Nat} {m:Rt.Mc} {s s':Se} {S:Rt.Src} {ty t:TypeId} {jv jv' iv v:Value} {w w1 w2:World}
section
attribute [local go_sem ↓] Go.wp_at_zero Go.wp_at_succ
theorem dropFrame_all (h:jz w M B ty tail S m X) (f:G m.zH<=1000):Calls Tryz.prog 184 #[H (Q ⟨M,0,Z⟩)] w fun e w'=>e=T (E #[])/\∃X',Z8 M B ty tail S X X' { m with zH:=m.zH.dropLast } w w':=by
 by_cases h0:m.zH=[]
 ·have k:=h.c2;obtain⟨j,i,d⟩:=zK h.zH;rw[d,h0]at k;have o:=zD (show Z8 M B ty tail S X X { m with zH:=m.zH.dropLast } w w by
   have e:m.zH.dropLast=m.zH:=by rw[h0];rfl
   rw[e];exact Z8.start h (zI _ _))
  go_enter func184,ntmps184;go_wp2;go_end0;exact⟨rfl,_,o.u⟩
 ·exact iq h m.zH.dropLast (m.zH.getLast h0) (xj h0).symm f
theorem addPar_last (m:Rt.Mc) (d:List Rt.Fm) (f:Rt.Fm) (h:m.zH=d++[f]) (x:Int):Hr m x={ m with zH:=d++[⟨f.params++[x],f.call⟩] }:=by
 unfold Hr;rw[h];congr 1;rw[ze,yl,zu,IC]
theorem addParam_all (h:jz w M B ty tail S m X) (k:dL S m) (x:Int) (j:∀f∈m.zH,G f.params<=900):Calls Tryz.prog 212 #[H (Q ⟨M,0,Z⟩),J U x] w fun e w'=>e=T (E #[])/\∃X',Z8 M B ty tail S X X' (Hr m x) w w':=by
 by_cases h0:m.zH=[]
 ·have y:=h.c2;obtain⟨o,i,d⟩:=zK h.zH;rw[d,h0]at y;have z:=zD (show Z8 M B ty tail S X X (Hr m x) w w by
   have e:Hr m x=m:=by unfold Hr;rw[h0];rw[List.modify_nil];rw[<-h0]
   rw[e];exact Z8.start h (zI _ _))
  go_enter func212,ntmps212;go_wp2_with fail;refine zT (results_none rfl _ _ _) rfl ?_;exact⟨rfl,_,z.u⟩
 ·rw[addPar_last m m.zH.dropLast (m.zH.getLast h0) (xj h0).symm x];exact addParam_any h k x m.zH.dropLast (m.zH.getLast h0) (xj h0).symm (j _ (JV h0))
theorem jz.back (h:jz w M B ty tail S m X) (l:Int):Z8 M B ty tail S X X { m with line:=l,fin:=0 } w ((w.setCell ⟨M,6,Z⟩ (J U l)).setCell ⟨M,7,Z⟩ (J U 0)):=by
 have d:=h.step (w1:=w) (m':={ m with line:=l }) (X':=X) (zB _) rfl (fun _ _ hx _=>hx) 6 (J U l) (by simp[xC]) h.own rfl rfl h.fl h.vl;have f:=d.step (w1:=w.setCell ⟨M,6,Z⟩ (J U l)) (m':={ m with line:=l,fin:=0 }) (X':=X) (zB _) rfl (fun _ _ hx _=>hx) 7 (J U 0) (by simp[xC]) d.own rfl rfl h.fl h.vl;exact⟨f,VM.B5 (VM.B5 (VM.jQ _ (zI _ _)) _ _) _ _,vd.refl _ _,zQ h.block⟩
theorem jz.takenS (h:jz w M B ty tail S m X) (t:Int):Z8 M B ty tail S X X { m with taken:=t } w (w.setCell ⟨M,4,Z⟩ (J U t)):=by
 have d:=h.step (w1:=w) (m':={ m with taken:=t }) (X':=X) (zB _) rfl (fun _ _ hx _=>hx) 4 (J U t) (by simp[xC]) h.own rfl rfl h.fl h.vl;exact⟨d,VM.B5 (VM.jQ _ (zI _ _)) _ _,vd.refl _ _,zQ h.block⟩
theorem Z8.trans {m2:Rt.Mc} {X1 X2:ZK} (h:Z8 M B ty tail S X X1 m w w1) (g:Z8 M B ty tail S X1 X2 m2 w1 w2):Z8 M B ty tail S X X2 m2 w w2:=h.more g.mc g.vz g.grow
abbrev Hm (r:Rt.Rec):Array Value:=#[J U r.kind,J U r.line,J U r.at_.line,J U r.at_.cell,J U r.value]
def UndP (M B:Nat) (ty:TypeId) (tail:List Value) (S:Rt.Src) (X:ZK) (m':Rt.Mc) (w:World) (e:Ending) (w':World):Prop:=e=T (E #[])/\∃X',Z8 M B ty tail S X X' m' w w'
theorem undo_stayed (h:jz w M B ty tail S m X) (N:dL S m) (I:∀f∈m.zH,G f.params<=900) (d j k rv:Int):Calls Tryz.prog 190 #[H (Q ⟨M,0,Z⟩),L (Hm ⟨1,d,⟨j,k⟩,rv⟩)] w (UndP M B ty tail S X (G8 m ⟨1,d,⟨j,k⟩,rv⟩) w):=by
 have o:=(zI w.heap.size w).alloc (zB _) (V (Hm ⟨1,d,⟨j,k⟩,rv⟩) 162);have R:=zN w (V (Hm ⟨1,d,⟨j,k⟩,rv⟩) 162);have O:=h.zP o;have F:=zQ h.block;have A:=DA h O o N I;go_enter func190,ntmps190;go_wp2_with fail;refine(tn _ ⟨1,d,⟨j,k⟩,rv⟩).mono ?_;rintro e w1 ⟨rfl,i⟩;rw[show jt ⟨1,d,⟨j,k⟩,rv⟩=D from rfl];have x:=A.u.2.1.zP i;have y:=zU R i;have z:=Z8.start A.u.1 (A.u.2.2.1.trans (i.mono (B':=w.heap.size) (by simp)));have r0:w1.cell? ⟨w.heap.size,0,Z⟩=Q (J U 1):=by have:=zC y 0 (by simp);simpa using this
 have W:w1.cell? ⟨w.heap.size,1,Z⟩=Q (J U d):=by have:=zC y 1 (by simp);simpa using this
 have c6:=x.c6;have c7:=x.c7;have f6:=x.fz 6;have f7:=x.fz 7;have T:=zD (z.trans (x.back d));go_wp2;go_end0;exact⟨rfl,_,T.u⟩
theorem undo_entered (h:jz w M B ty tail S m X) (R:dL S m) (O:∀f∈m.zH,G f.params<=900) (d j k rv:Int):Calls Tryz.prog 190 #[H (Q ⟨M,0,Z⟩),L (Hm ⟨2,d,⟨j,k⟩,rv⟩)] w (UndP M B ty tail S X (G8 m ⟨2,d,⟨j,k⟩,rv⟩) w):=by
 have o:=(zI w.heap.size w).alloc (zB _) (V (Hm ⟨2,d,⟨j,k⟩,rv⟩) 162);have W:=zN w (V (Hm ⟨2,d,⟨j,k⟩,rv⟩) 162);have T:=h.zP o;have I:=zQ h.block;have z:=DA h T o R O;go_enter func190,ntmps190;go_wp2_with fail;refine(tn _ ⟨2,d,⟨j,k⟩,rv⟩).mono ?_;rintro e w1 ⟨rfl,i⟩;rw[show jt ⟨2,d,⟨j,k⟩,rv⟩=D from rfl];have x:=z.u.2.1.zP i;have y:=zU W i;have F:=Z8.start z.u.1 (z.u.2.2.1.trans (i.mono (B':=w.heap.size) (by simp)));have r0:w1.cell? ⟨w.heap.size,0,Z⟩=Q (J U 2):=by have:=zC y 0 (by simp);simpa using this
 have r1:w1.cell? ⟨w.heap.size,1,Z⟩=Q (J U d):=by have:=zC y 1 (by simp);simpa using this
 have c6:=x.c6;have c7:=x.c7;have f6:=x.fz 6;have f7:=x.fz 7;have N:=zD (F.trans (x.back d));go_wp2_with fail;refine(dropFrame_all N.u.mc z.u.2.2.2.1.zH).mono ?_;rintro e w2 ⟨rfl,X2,A⟩;have HY:=zD (N.u.trans A);go_wp2;go_end0;exact⟨rfl,_,HY.u⟩
theorem undo_stored3 (h:jz w M B ty tail S m X) (I:dL S m) (F:∀f∈m.zH,G f.params<=900) (o i j rv:Int):Calls Tryz.prog 190 #[H (Q ⟨M,0,Z⟩),L (Hm ⟨4,o,⟨i,j⟩,rv⟩)] w (UndP M B ty tail S X (G8 m ⟨4,o,⟨i,j⟩,rv⟩) w):=by
 have x:=(zI w.heap.size w).alloc (zB _) (V (Hm ⟨4,o,⟨i,j⟩,rv⟩) 162);have T:=zN w (V (Hm ⟨4,o,⟨i,j⟩,rv⟩) 162);have O:=h.zP x;have A:=zQ h.block;have y:=DA h O x I F;go_enter func190,ntmps190;go_wp2_with fail;refine(tn _ ⟨4,o,⟨i,j⟩,rv⟩).mono ?_;rintro e w1 ⟨rfl,k⟩;rw[show jt ⟨4,o,⟨i,j⟩,rv⟩=W from rfl];have R:=y.u.2.1.zP k;have d:=zU T k;have z:=Z8.start y.u.1 (y.u.2.2.1.trans (k.mono (B':=w.heap.size) (by simp)));have r0:w1.cell? ⟨w.heap.size,0,Z⟩=Q (J U 4):=by have:=zC d 0 (by simp);simpa using this
 have r2:w1.cell? ⟨w.heap.size,2,Z⟩=Q (J U i):=by have:=zC d 2 (by simp);simpa using this
 have r3:w1.cell? ⟨w.heap.size,3,Z⟩=Q (J U j):=by have:=zC d 3 (by simp);simpa using this
 have r4:w1.cell? ⟨w.heap.size,4,Z⟩=Q (J U rv):=by have:=zC d 4 (by simp);simpa using this
 have D:=qG z R;go_wp2_with fail;refine(EJ ⟨i,j⟩ rv D.u.2 y.u.2.2.2.1).mono ?_;rintro e w2 ⟨rfl,N⟩;have HY:=zD (D.u.1.put N);go_wp2;go_end0;exact⟨rfl,_,HY.u⟩
theorem undo_printed (h:jz w M B ty tail S m X) (N:dL S m) (I:∀f∈m.zH,G f.params<=900) (i j k rv:Int):Calls Tryz.prog 190 #[H (Q ⟨M,0,Z⟩),L (Hm ⟨5,i,⟨j,k⟩,rv⟩)] w (UndP M B ty tail S X (G8 m ⟨5,i,⟨j,k⟩,rv⟩) w):=by
 have o:=(zI w.heap.size w).alloc (zB _) (V (Hm ⟨5,i,⟨j,k⟩,rv⟩) 162);have T:=zN w (V (Hm ⟨5,i,⟨j,k⟩,rv⟩) 162);have O:=h.zP o;have D:=zQ h.block;have x:=DA h O o N I;go_enter func190,ntmps190;go_wp2_with fail;refine(tn _ ⟨5,i,⟨j,k⟩,rv⟩).mono ?_;rintro e w1 ⟨rfl,d⟩;rw[show jt ⟨5,i,⟨j,k⟩,rv⟩=W from rfl];have R:=x.u.2.1.zP d;have A:=zU T d;have z:=Z8.start x.u.1 (x.u.2.2.1.trans (d.mono (B':=w.heap.size) (by simp)));have r0:w1.cell? ⟨w.heap.size,0,Z⟩=Q (J U 5):=by have:=zC A 0 (by simp);simpa using this
 have F:=qG z R;go_wp2_with fail;refine(dropPrinted_any F.u.2 x.u.2.2.2.1.output).mono ?_;rintro e w2 ⟨rfl,X2,y⟩;have HY:=zD (F.u.1.trans y);go_wp2;go_end0;exact⟨rfl,_,HY.u⟩
theorem Hx (h:jz w M B ty tail S m X) (I:dL S m) (F:∀f∈m.zH,G f.params<=900) (i j k rv:Int):Calls Tryz.prog 190 #[H (Q ⟨M,0,Z⟩),L (Hm ⟨6,i,⟨j,k⟩,rv⟩)] w (UndP M B ty tail S X (G8 m ⟨6,i,⟨j,k⟩,rv⟩) w):=by
 have o:=(zI w.heap.size w).alloc (zB _) (V (Hm ⟨6,i,⟨j,k⟩,rv⟩) 162);have O:=zN w (V (Hm ⟨6,i,⟨j,k⟩,rv⟩) 162);have N:=h.zP o;have D:=zQ h.block;have A:=DA h N o I F;go_enter func190,ntmps190;go_wp2_with fail;refine(tn _ ⟨6,i,⟨j,k⟩,rv⟩).mono ?_;rintro e w1 ⟨rfl,d⟩;rw[show jt ⟨6,i,⟨j,k⟩,rv⟩=W from rfl];have y:=A.u.2.1.zP d;have z:=zU O d;have x:=Z8.start A.u.1 (A.u.2.2.1.trans (d.mono (B':=w.heap.size) (by simp)));have T:w1.cell? ⟨w.heap.size,0,Z⟩=Q (J U 6):=by have:=zC z 0 (by simp);simpa using this
 have c4:=y.c4;have f4:=y.fz 4;have R:=zD (x.trans (y.takenS (wrap64 (m.taken-1))));go_wp2;go_end0;exact⟨rfl,_,R.u⟩
theorem undo_passed (h:jz w M B ty tail S m X) (N:dL S m) (I:∀f∈m.zH,G f.params<=900) (i j k rv:Int):Calls Tryz.prog 190 #[H (Q ⟨M,0,Z⟩),L (Hm ⟨7,i,⟨j,k⟩,rv⟩)] w (UndP M B ty tail S X (G8 m ⟨7,i,⟨j,k⟩,rv⟩) w):=by
 have o:=(zI w.heap.size w).alloc (zB _) (V (Hm ⟨7,i,⟨j,k⟩,rv⟩) 162);have T:=zN w (V (Hm ⟨7,i,⟨j,k⟩,rv⟩) 162);have O:=h.zP o;have D:=zQ h.block;have y:=DA h O o N I;go_enter func190,ntmps190;go_wp2_with fail;refine(tn _ ⟨7,i,⟨j,k⟩,rv⟩).mono ?_;rintro e w1 ⟨rfl,d⟩;rw[show jt ⟨7,i,⟨j,k⟩,rv⟩=W from rfl];have R:=y.u.2.1.zP d;have x:=zU T d;have A:=Z8.start y.u.1 (y.u.2.2.1.trans (d.mono (B':=w.heap.size) (by simp)));have r0:w1.cell? ⟨w.heap.size,0,Z⟩=Q (J U 7):=by have:=zC x 0 (by simp);simpa using this
 have r4:w1.cell? ⟨w.heap.size,4,Z⟩=Q (J U rv):=by have:=zC x 4 (by simp);simpa using this
 have F:=qG A R;go_wp2_with fail;refine(addParam_all F.u.2 y.u.2.2.2.1 rv y.u.2.2.2.2).mono ?_;rintro e w2 ⟨rfl,X2,z⟩;have HY:=zD (F.u.1.trans z);go_wp2;go_end0;exact⟨rfl,_,HY.u⟩
theorem jz.frameBack {wy:World} (h:jz w M B ty tail S m X) (i:Below w.heap.size w wy) (x:wy.grownBy w1 X.fv.ownBlock) (f:Int) (d:Value) (j:w1.ownsRow 0 153 2 d (G m.zH+1) (fCells X.xg m.zH++[I Z 0 0,J U f])) (o:∀g,d.ownBlock=Q g->X.fv.ownBlock=Q g\/w.heap.size<=g):jz (w1.setCell ⟨M,2,Z⟩ d) M B ty tail S { m with zH:=m.zH++[⟨[],f⟩] } { X with fv:=d,xg:=X.xg++[I Z 0 0] }/\VM w (w1.setCell ⟨M,2,Z⟩ d) (M::Z4 X)/\vd w (Z4 X) (Z4 { X with fv:=d,xg:=X.xg++[I Z 0 0] })/\w1.cell? ⟨M,2,Z⟩=Q X.fv/\w1.frozen? ⟨M,2,Z⟩=W:=by
 obtain⟨A,z,y⟩:=h.A5 (zI _ w) i (I Z 0 0) [] f (zW _ _ _ _) x d j o;have k:w1.heap[M]?=Q (V (xC X m tail) ty (0,0)):=(x.block M (zX (zQ h.block) i.size) (fun e=>h.uk e.symm)).trans ((i.block M (zQ h.block)).trans h.block);refine⟨A,z,y,?_,zS k 2⟩;have:=zC k 2 (by simp[xC]);simpa[xC] using this
theorem undo_dropped (h:jz w M B ty tail S m X) (hm:dL S m) (hp:∀f∈m.zH,G f.params<=900) (x N O rv:Int):Calls Tryz.prog 190 #[H (Q ⟨M,0,Z⟩),L (Hm ⟨3,x,⟨N,O⟩,rv⟩)] w (UndP M B ty tail S X (G8 m ⟨3,x,⟨N,O⟩,rv⟩) w):=by
 obtain⟨j0,a4,a3,a2,a1⟩:=yi A0;have A:=(zI w.heap.size w).alloc (zB _) (V (Hm ⟨3,x,⟨N,O⟩,rv⟩) 162);have bR:=zN w (V (Hm ⟨3,x,⟨N,O⟩,rv⟩) 162);have hA:=h.zP A;have a7:=zQ h.block;have HH:=DA h hA A hm hp;clear h hA A hm hp;go_enter func190,ntmps190;go_wp2_with fail;refine(tn _ ⟨3,x,⟨N,O⟩,rv⟩).mono ?_;rintro e w1 ⟨rfl,z⟩;rw[show jt ⟨3,x,⟨N,O⟩,rv⟩=D from rfl];have F:=HH.u.2.1.zP z;have j:=zU bR z;have W:=Z8.start HH.u.1 (HH.u.2.2.1.trans (z.mono (B':=w.heap.size) (by simp)));have r0:w1.cell? ⟨w.heap.size,0,Z⟩=Q (J U 3):=by have:=zC j 0 (by simp);simpa using this
 have r1:w1.cell? ⟨w.heap.size,1,Z⟩=Q (J U x):=by have:=zC j 1 (by simp);simpa using this
 have r2:w1.cell? ⟨w.heap.size,2,Z⟩=Q (J U N):=by have:=zC j 2 (by simp);simpa using this
 have r3:w1.cell? ⟨w.heap.size,3,Z⟩=Q (J U O):=by have:=zC j 3 (by simp);simpa using this
 have r4:w1.cell? ⟨w.heap.size,4,Z⟩=Q (J U rv):=by have:=zC j 4 (by simp);simpa using this
 have b2:¬w.heap.size=M:=by omega
 have a6:¬M=w.heap.size:=by omega
 have c6:=F.c6;have c7:=F.c7;have f6:=F.fz 6;have f7:=F.fz 7;have R:=zD (W.trans (F.back x));have a9:=zQ F.block;clear F z j bR W;have a8:=zQ R.u.mc.block;go_wp2_with fail;have a0:((w1.setCell ⟨M,6,Z⟩ (J U x)).setCell ⟨M,7,Z⟩ (J U 0)).cell? ⟨w.heap.size,4,Z⟩=Q (J U rv):=by
  rw[xD _ _ _ _ (by simp),xD _ _ _ _ (by simp)];exact r4
 clear r0 r1 r2 r3 r4 c6 c7 f6 f7;generalize (w1.setCell ⟨M,6,Z⟩ (J U x)).setCell ⟨M,7,Z⟩ (J U 0)=w2 at *;obtain⟨b3,b0,y⟩:=zK R.u.mc.zH;have c2:=R.u.mc.c2;have i:=R.u.mc.zH;simp only at y c2 i;rw[y]at c2 i;have HO:=zD i;have a5:=HH.u.2.2.2.1.zH;have HV:=zD y;have b1:w.heap.size < w2.heap.size:=zt _ _ a0;clear y i;go_region_law
  ((refine step_append_lies _ (by rfl) _ _ _ (by rfl) 0 153 j0 _ 2 32 underlying88 a4 a3 a2 a1 rfl (by omega) _ (G m.zH) (fCells X.xg m.zH) (by rfl) ((HO.u.alloc _).drew) ⟨w2.heap.size,0,Z⟩ 1 1 [I Z 0 0,J U rv] (by rfl) (by rfl) (World.news_of_block (cs:=#[I Z 0 0,J U rv]) (t:=153) (fr:=(0,0)) (zN w2 _)) (by simp[Value.oneCell']) (by omega) (by unfold maxLen;omega) (by omega) (zo _) (w2.heap.size+1) (by simp) ?_;intro g' cap' w4 o d hat T;rw[<-HV.u]at d hat;obtain⟨q1,q2,q3,q4,q5⟩:=R.u.mc.frameBack (((zI _ w2).alloc (zB _) _).drew) d rv (I (Q ⟨g',0,Z⟩) (G m.zH+1) cap') o (fun k hk=>by simp[Value.ownBlock]at hk;subst hk;rcases hat with e | e;exact Or.inl e;exact Or.inr (by omega));have HF:=zD (R.u.more q1 q2 q3);clear q1 q2 q3 o d hat T))
 all_goals
  go_wp2;go_end0;exact⟨rfl,_,HF.u⟩
theorem undo_else (h:jz w M B ty tail S m X) (hm:dL S m) (hp:∀f∈m.zH,G f.params<=900) (d i k o rv:Int) (T:d≠1) (z:d≠2) (y:d≠3) (R:d≠4) (O:d≠5) (N:d≠6) (I:d≠7):Calls Tryz.prog 190 #[H (Q ⟨M,0,Z⟩),L (Hm ⟨d,i,⟨k,o⟩,rv⟩)] w (UndP M B ty tail S X (G8 m ⟨d,i,⟨k,o⟩,rv⟩) w):=by
 have x:=(zI w.heap.size w).alloc (zB _) (V (Hm ⟨d,i,⟨k,o⟩,rv⟩) 162);have bR:=zN w (V (Hm ⟨d,i,⟨k,o⟩,rv⟩) 162);have hA:=h.zP x;have a0:=zQ h.block;have F:=DA h hA x hm hp;have z2:(d==2)=W:=by simpa using z
 have z3:(d==3)=W:=by simpa using y
 have z4:(d==4)=W:=by simpa using R
 have z5:(d==5)=W:=by simpa using O
 have z6:(d==6)=W:=by simpa using N
 have z7:(d==7)=W:=by simpa using I
 have HE:=zD (show G8 m ⟨d,i,⟨k,o⟩,rv⟩=m by unfold G8 Hq;simp[jt,T,z,y,R,O,N,I]);go_enter func190,ntmps190;go_wp2_with fail;refine(tn _ ⟨d,i,⟨k,o⟩,rv⟩).mono ?_;rintro e w1 ⟨rfl,j⟩;rw[show jt ⟨d,i,⟨k,o⟩,rv⟩=W by simp[jt,T,z,y]];have h1:=F.u.2.1.zP j;have D:=zU bR j;have A:=Z8.start F.u.1 (F.u.2.2.1.trans (j.mono (B':=w.heap.size) (by simp)));have r0:w1.cell? ⟨w.heap.size,0,Z⟩=Q (J U d):=by have:=zC D 0 (by simp);simpa using this
 have HX:=zD A;go_wp2;go_end0;exact⟨rfl,_,by rw[HE.u];exact HX.u⟩
theorem undo_any (h:jz w M B ty tail S m X) (j:dL S m) (i:∀f∈m.zH,G f.params<=900) (r:Rt.Rec):Calls Tryz.prog 190 #[H (Q ⟨M,0,Z⟩),L (Hm r)] w (UndP M B ty tail S X (G8 m r) w):=by
 obtain⟨rk,d,⟨k,o⟩,rv⟩:=r;by_cases k1:rk=1
 ·subst k1;exact undo_stayed h j i d k o rv
 by_cases k2:rk=2
 ·subst k2;exact undo_entered h j i d k o rv
 by_cases k3:rk=3
 ·subst k3;exact undo_dropped h j i d k o rv
 by_cases k4:rk=4
 ·subst k4;exact undo_stored3 h j i d k o rv
 by_cases k5:rk=5
 ·subst k5;exact undo_printed h j i d k o rv
 by_cases k6:rk=6
 ·subst k6;exact Hx h j i d k o rv
 by_cases k7:rk=7
 ·subst k7;exact undo_passed h j i d k o rv
 exact undo_else h j i rk d k o rv k1 k2 k3 k4 k5 k6 k7
structure Mid (S:Rt.Src) (m:Rt.Mc) (n:Nat):Prop where
 zL:S.zL.length<=101
 input:S.input.length<=100
 zH:m.zH.length<=n
 values:m.values.length<=101
 output:m.output.length<=1000
 params:∀f∈m.zH,f.params.length<=n
 cells:∀l∈m.values,l.length<=1000
 ZX:∀p∈S.zL,Rt.Small p.form
theorem Mid.Zi (h:Mid S m n) (d:n<=900):dL S m:=⟨h.zL,h.input,zi h.zH (by omega),h.values,h.output,fun f hf=>zi (h.params f hf) (by omega),h.cells,h.ZX⟩
theorem mid_of (h:XW S m) (d:iK m):Mid S m 10:=⟨h.Zi.zL,h.Zi.input,zi h.hi (by omega),h.Zi.values,h.Zi.output,fun f hf=>zi (d f hf) (by omega),h.Zi.cells,h.Zi.ZX⟩
theorem Mid.more (h:Mid S m n) (d:n<=n'):Mid S m n':=⟨h.zL,h.input,zi h.zH d,h.values,h.output,fun f hf=>zi (h.params f hf) d,h.cells,h.ZX⟩
theorem Mid.put (h:Mid S m n) (s:Rt.Q9) (v:Int):Mid S (Rt.jN m s v) n:=by
 unfold Rt.jN;split
 ·split
  ·refine⟨h.zL,h.input,h.zH,by simpa using h.values,h.output,h.params,?_,h.ZX⟩;intro l f;obtain⟨i,d,rfl⟩:=List.getElem_of_mem f;simp only[YK]at d;rw[jW];split
   ·rw[jD];exact h.cells _ (zj d)
   ·exact h.cells _ (zj d)
  ·refine⟨h.zL,h.input,by simpa using h.zH,h.values,h.output,?_,h.cells,h.ZX⟩;intro l f;obtain⟨i,d,rfl⟩:=List.getElem_of_mem f;simp only[YK]at d;rw[jW];split
   ·simp only[jD];exact h.params _ (zj d)
   ·exact h.params _ (zj d)
 ·exact h
theorem Mid.back (h:Mid S m n) (r:Rt.Rec):Mid S (Hq m r) n:=by
 unfold Hq;split
 ·exact⟨h.zL,h.input,h.zH,h.values,h.output,h.params,h.cells,h.ZX⟩
 ·exact h
theorem Mid.undo (h:Mid S m n) (r:Rt.Rec):Mid S (G8 m r) (n+1):=by
 have d:=(h.back r).more (Nat.le_succ n);have j:=h.back r;unfold G8;split
 ·exact⟨d.zL,d.input,by simp only[XU];have:=d.zH;omega,d.values,d.output,fun f hf=>d.params f (vL _ hf),d.cells,d.ZX⟩
 split
 ·refine⟨d.zL,d.input,by simp only[ze,yl];have:=j.zH;omega,d.values,d.output,?_,d.cells,d.ZX⟩;intro f hf;rcases zd.mp hf with hf | hf
  ·exact d.params f hf
  ·rw[yN.mp hf];exact zo _
 split
 ·exact d.put _ _
 split
 ·exact⟨d.zL,d.input,d.zH,d.values,by simp only[XU];have:=d.output;omega,d.params,d.cells,d.ZX⟩
 split
 ·exact⟨d.zL,d.input,d.zH,d.values,d.output,d.params,d.cells,d.ZX⟩
 split
 ·unfold Hr;refine⟨d.zL,d.input,by simp only[YK];exact d.zH,d.values,d.output,?_,d.cells,d.ZX⟩;intro l o;obtain⟨i,k,rfl⟩:=List.getElem_of_mem o;simp only[YK]at k;simp only[jW];split
  ·simp only[ze,yl];have:=j.params _ (zj k);omega
  ·exact d.params _ (zj k)
 ·exact d
theorem undoM_take (m:Rt.Mc) (rs:List Rt.Rec) (k:Nat) (d:k < G rs):Hs m (rs.take (k+1))=G8 (Hs m (rs.take k)) rs[k]:=by
 unfold Hs;rw[List.take_succ_eq_append_getElem d,List.foldl_append];rfl
theorem undoAll_any (h:jz w M B ty tail S m X) (x:ty≠162) (O:Mid S m 10) {rs:List Rt.Rec} (N:G rs<=500) {B0:Nat} {sv:Value} (F:w.ownsRow B0 162 5 sv (G rs) (xE rs)):Calls Tryz.prog 161 #[H (Q ⟨M,0,Z⟩),sv] w (UndP M B ty tail S X (Hs m rs) w):=by
 obtain⟨ad,D,rfl⟩:=zK F;have HH:=XX h (vr F) O;go_enter func161,ntmps161;go_wp2_with fail;go_loopw [4] (fun c wr=>∃(k:Nat) (X':ZK),k<=G rs/\c=J U k/\Z8 M B ty tail S X X' (Hs m (rs.take k)) w wr/\Mid S (Hs m (rs.take k)) (10+k)) (fun c _=>G rs-(intOf c).toNat)
 case atStart=>exact⟨0,X,zo _,rfl,Z8.start HH.u.1 (zI _ _),HH.u.2.2⟩
 case round=>
  obtain⟨k,X',hk,rfl,o,d⟩:=hrel;by_cases hlt:k < G rs
  ·have i1:(k:Int) < (G rs:Int):=by omega
   have i:=Z8.row HH.u.1 o HH.u.2.1 x;obtain⟨g,gc,L,I,_⟩:=yD i (j:=k*5) (u:=J U rs[k].kind) (by have:=VO rs k hlt 0 (by omega);simpa[YV] using this);simp at L;obtain⟨rfl,rfl⟩:=L;obtain⟨r0,W,V,T,R⟩:=sB i k hlt;have HC:=gN (undo_any o.mc (d.Zi (by omega)) (fun f hf=>zi (d.params f hf) (by omega)) rs[k]) o (undoM_take m rs k hlt) (d.undo rs[k]);generalize rs[k]=r at *;go_wp2_with fail;refine HC.u.1.mono ?_;rintro e w2 ⟨rfl,X2,z⟩;have A:=zD (HC.u.2.1.trans z);go_wp2;go_roundw
   ·exact⟨k+1,X2,by omega,by go_num,by rw[HC.u.2.2.1];exact A.u,by rw[HC.u.2.2.1];exact HC.u.2.2.2⟩
   ·simp[intOf];omega
  ·have y:k=G rs:=by omega
   subst y;have A:=zD o;go_wp2;go_end0;exact⟨rfl,_,by have:=A.u;rw[Zp]at this;exact this⟩
namespace Rt
def G5 (s:Se) (kind fuel d0 mv:Int):Int:=if ¬jS s kind d0 mv=0 then jS s kind d0 mv else if s.idx=0 then 5 else if s.idx=s.low then 6 else if fuel<=mv then 4 else 0
theorem Ht {s:Se} (h:G5 s kind fuel d0 mv=0):s.idx≠0/\s.idx≠s.low/\mv < fuel:=by
 unfold G5 at h;split at h
 ·next hn=>exact absurd h hn
 ·split at h
  ·omega
  ·split at h
   ·omega
   ·split at h
    ·omega
    ·next a b c=>exact⟨a,b,by omega⟩
end Rt
theorem cells_row {low idx:Int} {marks:List Bool}:(xC X m (vF cap jv low idx marks)).setIfInBounds 9 jv'=xC X m (vF cap jv' low idx marks):=by
 simp[xC,vF]
theorem takeBack_any (h:Zv w P B S cap s X jv) (W:Mid S s.m 10) (h0:0 < G s.YU) (hr:G s.YU<=500):Calls Tryz.prog 114 #[H (Q ⟨P,0,Z⟩)] w fun e w'=>e=T (E #[])/\∃X' jv',vX P B S cap X X' jv jv' (IB s) w w':=by
 have F:=zQ h.mc.block;have I:=qG h W;go_enter func114,ntmps114;go_wp2_with fail;refine(withdraw_any I.u.1.jrS (by omega) h0).mono ?_;rintro e w1 ⟨j,v,rfl,i,d,o,L⟩;rw[cells_row]at i;have f:=I.u.1.mc.ru I.u.1.jr d i.block;have M:=L;obtain⟨V,O,rfl⟩:=zK L;have HU:=zD (undoAll_any f (by decide) I.u.2 (by rw[xp];omega) M);have HA:=gN f i d o;generalize (s.YU.drop (He s.YU)).length=rn at *;go_wp2_with fail;refine HU.u.mono ?_;rintro e w2 ⟨rfl,X2,hA2⟩;obtain⟨f,i,d,o⟩:=HA.u;have A:=Z8.row f hA2 i.own (by decide);have x:j.ownBlock≠Q P:=by rw[o];exact I.u.1.jrS.ne
 have a1:w2.cell? ⟨P,11,Z⟩=Q (J U s.idx):=by
  have:=vj w2 P 11 _ _ _ hA2.mc.block;rw[this];simp[vF]
 have a0:=zS hA2.mc.block 11;have D:KB P j w2 (w2.setCell ⟨P,11,Z⟩ (J U (wrap64 (s.idx-1)))):=⟨rfl,rfl,rfl,by simp[World.setCell],fun k _ hp _=>zO _ _ _ _ hp⟩;have b3:=zf hA2.mc.block 11 (J U (wrap64 (s.idx-1)));have y:=hA2.mc.ru (tail':=vF cap j s.low (wrap64 (s.idx-1)) s.marks) A D (by have:=b3;simpa[xC,vF] using this);have N:=yP (w':=w2.setCell ⟨P,11,Z⟩ (J U (wrap64 (s.idx-1)))) A (fun g hg=>zO _ _ _ _ (fun e=>x (by rw[hg,show g=P from e])));have HF:=zD (show vX P B S cap X X2 jv j (IB s) w (w2.setCell ⟨P,11,Z⟩ (J U (wrap64 (s.idx-1))))from by
  refine⟨⟨y,N⟩,⟨hA2.vz.os.trans d.os,hA2.vz.tape.trans d.tape,hA2.vz.output.trans d.output,zi d.size (zi hA2.vz.size D.size),?_⟩,?_,fun g hg=>Or.inl (by rw[<-o];exact hg),F⟩
  ·intro k hk R L;have z:k≠P:=fun e=>R (by rw[e];exact xB ..);rw[zO _ _ _ _ z,hA2.vz.block k (zX hk d.size) R];exact d.block k hk z L
  ·intro k hk;rcases hA2.grow k hk with e | e
   ·exact Or.inl e
   ·exact Or.inr (zi d.size e))
 go_wp2;go_end0;exact⟨rfl,_,_,HF.u⟩
theorem Ec (h:Zv w P B S cap s X jv):Calls Tryz.prog 102 #[H (Q ⟨P,8,Z⟩)] w fun e w'=>e=T (J U s.low)/\w'=w:=by
 have d:=h.jrS.ud;go_enter func102,ntmps102;go_wp2;go_ret;exact⟨rfl,rfl⟩
theorem Hw (h:Zv w P B S cap s X jv) (O:G s.marks=101) (d fuel i mv:Int):Calls Tryz.prog 113 #[H (Q ⟨P,0,Z⟩),L (om d fuel i mv)] w fun e w'=>e=T (J U (G5 s d fuel i mv))/\Below w.heap.size w w':=by
 have M:=(zI w.heap.size w).alloc (zB _) (V (om d fuel i mv) 169);have bM:=zN w (V (om d fuel i mv) 169);have I:=h.zP M;have N:=zD M;have HU:=zD (show G5 s d fuel i mv=if ¬jS s d i mv=0 then jS s d i mv else if s.idx=0 then 5 else if s.idx=s.low then 6 else if fuel<=mv then 4 else 0 from rfl);go_enter func113,ntmps113;go_wp2_with fail;refine(rL I O d fuel i mv).mono ?_;rintro e w2 ⟨rfl,j⟩;have f:=zD (N.u.trans (j.mono N.u.size));have k:=I.zP j;have o:=zU bM j;have m1:w2.cell? ⟨w.heap.size,1,Z⟩=Q (J U fuel):=by have:=zC o 1 (by simp);simpa using this
 have m3:w2.cell? ⟨w.heap.size,3,Z⟩=Q (J U mv):=by have:=zC o 3 (by simp);simpa using this
 have R:w2.cell? ⟨P,11,Z⟩=Q (J U s.idx):=by
  have:=vj w2 P 11 _ _ _ k.mc.block;rw[this];simp[vF]
 have A:=zD k;generalize jS s d i mv=a at *;by_cases ha:a=0
 ·have z:(a != 0)=W:=by simpa using ha
  replace HU:=zD (HU.u.trans (zA (by simpa using ha)))
  by_cases hi:s.idx=0
  ·have y:(s.idx==0)=D:=by simpa using hi
   replace HU:=zD (HU.u.trans (zE hi))
   go_wp2;go_ret;exact⟨by rw[HU.u];rfl,f.u⟩
  ·have y:(s.idx==0)=W:=by simpa using hi
   replace HU:=zD (HU.u.trans (zA hi))
   go_wp2_with fail;by_cases hl:s.idx=s.low
   ·have x:(s.idx==s.low)=D:=by simpa using hl
    replace HU:=zD (HU.u.trans (zE hl))
    go_region_held3 (fun w'=>w'.cell? ⟨P,11,Z⟩=Q (J U s.idx)) (go_keep) (first | (go_at_call 102;refine(Ec (A.u.zP (zh _))).mono ?_;rintro e F ⟨rfl,rfl⟩))
    all_goals
     go_wp2;go_ret;exact⟨by rw[HU.u];rfl,f.u.drew⟩
   ·have x:(s.idx==s.low)=W:=by simpa using hl
    replace HU:=zD (HU.u.trans (zA hl))
    by_cases hf:fuel<=mv
    ·replace HU:=zD (HU.u.trans (zE hf))
     go_region_held3 (fun w'=>w'.cell? ⟨P,11,Z⟩=Q (J U s.idx)) (go_keep) (first | (go_at_call 102;refine(Ec (A.u.zP (zh _))).mono ?_;rintro e F ⟨rfl,rfl⟩))
     all_goals
      go_wp2;go_ret;exact⟨by rw[HU.u];rfl,f.u.drew⟩
    ·replace HU:=zD (HU.u.trans (zA hf))
     go_region_held3 (fun w'=>w'.cell? ⟨P,11,Z⟩=Q (J U s.idx)) (go_keep) (first | (go_at_call 102;refine(Ec (A.u.zP (zh _))).mono ?_;rintro e F ⟨rfl,rfl⟩))
     all_goals
      go_wp2;go_ret;exact⟨by rw[HU.u];rfl,f.u.drew⟩
 ·have z:(a != 0)=D:=by simpa using ha
  replace HU:=zD (HU.u.trans (zE (by simpa using ha)))
  go_wp2;go_ret;exact⟨by rw[HU.u];rfl,f.u⟩
namespace Rt
def backRun (kind fuel d0:Int):Nat->Se->Nat->Se×Nat×Int
 | 0,s,k=>(s,k,4)
 | f+1,s,k=>if G5 s kind fuel d0 k=0 then backRun kind fuel d0 f (IB s) (k+1)else (s,k,G5 s kind fuel d0 k)
end Rt
structure Be (S:Rt.Src):Prop where
 Gj:Good S
 call:iN S
 first:XW S (Rt.firstM S)
theorem Be.qT (h:Be S) (n:Nat):XW S (Rt.atM S n):=wD h.Gj h.first n
theorem Be.par (h:Be S) (n:Nat):iK (Rt.atM S n):=wC h.call n
theorem Be.Ad (h:Be S) (n:Nat):Mid S (Rt.atM S n) 10:=mid_of (h.qT n) (h.par n)
theorem Be.input {S:Rt.Src} (h:Be S):G S.input<=100:=h.first.Zi.input
theorem Be.Gh (h:Be S) (i:VK S cap n low) (d:List Bool) (f:G d=101):rT S cap (XY S n low d):=⟨h.qT n,h.par n,i.room,f⟩
def AtP (S:Rt.Src) (cap:Int) (n low:Nat) (mk:List Bool) (s:Se):Prop:=∃n',s=XY S n' low mk/\VK S cap n' low/\n'<=n
theorem AtP.back {S:Rt.Src} {cap:Int} {n low:Nat} {mk:List Bool} {s:Se} (h:AtP S cap n low mk s) (k:Be S) (D:cap<=500) (z:n < 4611686018427387000) {kind fuel d0 mv:Int} (o:G5 s kind fuel d0 mv=0):AtP S cap n low mk (IB s)/\Mid S s.m 10/\0 < G s.YU/\G s.YU<=500:=by
 obtain⟨n',rfl,f,A⟩:=h;obtain⟨j,i,_⟩:=Ht o;have j:(n':Int)≠0:=j;have i:(n':Int)≠(low:Int):=i;have x:=f.le;obtain⟨q,rfl⟩:∃q,n'=q+1:=⟨n'-1,by omega⟩;have d:low<=q:=by omega
 have y:((xT S low (q+1-low)).length:Int)<=cap:=f.room;refine⟨⟨q,seBack_at f d k.input (by omega) mk,f.back d,by omega⟩,k.Ad _,last_lt f d,?_⟩;show (xT S low (q+1-low)).length<=500;omega
theorem AtP.marks {S:Rt.Src} {cap:Int} {n low:Nat} {mk:List Bool} {s:Se} (h:AtP S cap n low mk s) (d:G mk=101):G s.marks=101:=by
 obtain⟨n',rfl,_,_⟩:=h;exact d
theorem backward_any (h:Zv w P B S cap s X jv) (hS:Be S) (hc:cap<=500) (hk:AtP S cap n low mk s) (hn:n < 4611686018427387000) (a6:G mk=101) (kind:Int) (fuel:Nat) (a7:0<=kind/\kind<=3) (b4:fuel<=1000):Calls Tryz.prog 67 #[H (Q ⟨P,0,Z⟩),J U kind,J U fuel] w (FwdP P B S cap X jv (Rt.backRun kind fuel (G s.m.zH) (fuel+1) s 0) w):=by
 have b1:=zQ h.mc.block;have HH:=gN h hk (fun s' (h:AtP S cap n low mk s')=>h.marks a6) (fun s' (h:AtP S cap n low mk s') (mv:Int) (d0:Int) (hz:G5 s' kind fuel d0 mv=0)=>h.back hS hc hn hz);go_enter func67,ntmps67;go_wp2_with fail;refine(rz kind fuel a7 (by omega)).mono ?_;rintro e w0 ⟨rfl,rfl⟩;go_wp2_with fail;have a0:=(zI w.heap.size w).alloc (zB _) (V #[J U 0,J U 0,J U 0,J U 0,J U 0,J U 0] 111);refine(dE (HH.u.1.mc.zP a0)).mono ?_;rintro e w0 ⟨rfl,rfl⟩;generalize hd:(G s.m.zH:Int)=d at *;go_wp2_with fail;have a1:=a0.alloc (by simp) (V (om kind fuel d 0) 169);have F:=yR (zN w (V #[J U 0,J U 0,J U 0,J U 0,J U 0,J U 0] 111)) (V (om kind fuel d 0) 169);have i:=qD w (V #[J U 0,J U 0,J U 0,J U 0,J U 0,J U 0] 111) (V (om kind fuel d 0) 169);refine(Hw (HH.u.1.zP a1) (HH.u.2.2.1 _ HH.u.2.1) kind fuel d 0).mono ?_;rintro e w1 ⟨rfl,N⟩;have HA:=XX (vX.start HH.u.1 (a1.trans (N.mono (B':=w.heap.size) (by simp;omega)))) (zU F N) (zU i N);go_wp2_with fail;go_loopw [10] (fun rv wr=>∃(k:Nat) (s':Se) (X':ZK) (jv':Value),k<=fuel/\rv=J U (G5 s' kind fuel d k)/\wr.heap[w.heap.size]?=Q (V #[J U 0,J U 0,J U 0,J U 0,J U 0,J U 0] 111 (0,0))/\wr.heap[w.heap.size+1]?=Q (V (om kind fuel d k) 169 (0,0))/\vX P B S cap X X' jv jv' s' w wr/\AtP S cap n low mk s'/\Rt.backRun kind fuel d (fuel+1-k) s' k=Rt.backRun kind fuel d (fuel+1) s 0) (fun _ wr=>fuel+1-so wr (w.heap.size+1))
 case atStart=>exact⟨0,s,X,jv,zo _,rfl,HA.u.2.1,HA.u.2.2,HA.u.1,HH.u.2.1,rfl⟩
 case round=>
  obtain⟨k,s',X',jv',hk,rfl,F,i,o,I,j⟩:=hrel;have m3:wr.cell? ⟨w.heap.size+1,3,Z⟩=Q (J U (k:Int)):=by have:=zC i 3 (by simp);simpa using this
  have f3:=zS i 3;have HM:=zD (show so wr (w.heap.size+1)=k by unfold so;rw[m3];simp);have T:=DA F i o I j;by_cases hz:G5 s' kind fuel d k=0
  ·have a5:(G5 s' kind fuel d k==0)=D:=by simpa using hz
   have b3:=(Ht hz).2.2;have hq:=zD (HH.u.2.2.2 _ T.u.2.2.2.1 _ _ hz);have HN:=zD (show Rt.backRun kind fuel d (fuel+1-(k+1)) (IB s') (k+1)=Rt.backRun kind fuel d (fuel+1) s 0 by
    rw[<-T.u.2.2.2.2,show fuel+1-k=(fuel+1-(k+1))+1 by omega,Rt.backRun,zE hz])
   go_wp2_with fail;obtain⟨F,i,o,I,j⟩:=T.u;refine(takeBack_any o.Yo hq.u.2.1 hq.u.2.2.1 hq.u.2.2.2).mono ?_;rintro e w2 ⟨rfl,X2,jv2,R⟩;have a8:=vX.keeps o.Yo R F (by omega) (by unfold bg Xe;decide);have f:=vX.keeps o.Yo R i (by omega) (by unfold bg Xe;decide);have O:=(o.trans R).other f (by omega) (by unfold bg Xe;decide) 3 (J U ((k:Int)+1));have a9:(w2.setCell ⟨w.heap.size+1,3,Z⟩ (J U ((k:Int)+1))).heap[w.heap.size+1]?=Q (V (om kind fuel d ((k:Int)+1)) 169 (0,0)):=by
    have:=zf f 3 (J U ((k:Int)+1));simpa using this
   have A:(w2.setCell ⟨w.heap.size+1,3,Z⟩ (J U ((k:Int)+1))).heap[w.heap.size]?=Q (V #[J U 0,J U 0,J U 0,J U 0,J U 0,J U 0] 111 (0,0)):=(zO w2 ⟨w.heap.size+1,3,Z⟩ _ _ (by show w.heap.size≠w.heap.size+1;omega)).trans a8;have HY:=XX O a9 A;have n0:w2.cell? ⟨w.heap.size+1,0,Z⟩=Q (J U kind):=by have:=zC f 0 (by simp);simpa using this
   have n1:w2.cell? ⟨w.heap.size+1,1,Z⟩=Q (J U (fuel:Int)):=by have:=zC f 1 (by simp);simpa using this
   have n2:w2.cell? ⟨w.heap.size+1,2,Z⟩=Q (J U d):=by have:=zC f 2 (by simp);simpa using this
   have n3:w2.cell? ⟨w.heap.size+1,3,Z⟩=Q (J U (k:Int)):=by have:=zC f 3 (by simp);simpa using this
   have g3:=zS f 3;go_wp2_with fail;refine(Hw HY.u.1.Yo (HH.u.2.2.1 _ hq.u.1) kind fuel d ((k:Int)+1)).mono ?_;rintro e w4 ⟨rfl,M⟩;have a3:=zU HY.u.2.1 M;have a4:w4.cell? ⟨w.heap.size+1,3,Z⟩=Q (J U ((k:Int)+1)):=by have:=zC a3 3 (by simp);simpa using this
   have b0:=zD (show so w4 (w.heap.size+1)=k+1 by unfold so;rw[a4];show ((k:Int)+1).toNat=k+1;omega);have HZ:=XX (HY.u.1.below M) a3 (zU HY.u.2.2 M);go_wp2;go_roundw
   case rel=>exact⟨k+1,IB s',X2,jv2,by omega,rfl,HZ.u.2.2,HZ.u.2.1,HZ.u.1,hq.u.1,HN.u⟩
   case measure=>
    show fuel+1-so w4 (w.heap.size+1) < fuel+1-so wr (w.heap.size+1);rw[HM.u,b0.u];omega
  ·have a5:(G5 s' kind fuel d k==0)=W:=by simpa using hz
   have HE:=zD (show Rt.backRun kind fuel d (fuel+1) s 0=(s',k,G5 s' kind fuel d k) by
    rw[<-T.u.2.2.2.2,show fuel+1-k=(fuel-k)+1 by omega,Rt.backRun,zA hz])
   obtain⟨F,i,o,I,j⟩:=T.u;have n0:wr.cell? ⟨w.heap.size+1,0,Z⟩=Q (J U kind):=by have:=zC i 0 (by simp);simpa using this
   have n1:wr.cell? ⟨w.heap.size+1,1,Z⟩=Q (J U (fuel:Int)):=by have:=zC i 1 (by simp);simpa using this
   have n2:wr.cell? ⟨w.heap.size+1,2,Z⟩=Q (J U d):=by have:=zC i 2 (by simp);simpa using this
   generalize b2:G5 s' kind fuel d k=rs at *;go_wp2_with fail;obtain⟨F,i,o,_,_⟩:=T.u;refine(wj o.Yo kind fuel d k rs).mono ?_;rintro e w3 ⟨rfl,a2⟩;have A:=zU F a2;have O:=o.below a2;obtain⟨y0,y1,y2,y3,y4,y5,z⟩:=YA A;have HF:=zD (fun a b c x y q=>vX.YD O A (zB _) (by unfold bg Xe;decide) a b c x y q);go_wp2_with fail;refine zT (v:=E #[L (Yp rs k s'),J U 0]) ?_ rfl ⟨_,_,by rw[HE.u],by rw[HE.u];exact HF.u _ _ _ _ _ _⟩;simp[results,results67,go_sem,y0,y1,y2,y3,y4,y5]
end
namespace Rt
def spP (out:Ia):Nat->Ia
 | 0=>out
 | k+1=>spP out k++⟨#[32,32]⟩
def Hl (out:Ia) (t:List Tk):Nat->Ia
 | 0=>out
 | i+1=>(if 0 < i then Hl out t i++⟨#[32]⟩else Hl out t i)++((t[i]?).map Tk.text).getD ⟨#[]⟩
def Hc (pl:PL):Ia:=if (G pl.yY)=0 then ⟨#[]⟩else Hl (spP ⟨#[]⟩ pl.depth.toNat) pl.yY (G pl.yY)
theorem spP_size (out:Ia):∀k,(spP out k).size=out.size+2*k
 | 0=>rfl
 | k+1=>by rw[spP,ByteArray.size_append,spP_size out k];show _+2=_;omega
theorem tokP_size {t:List Tk} (d:∀x∈t,x.text.size<=40000) (out:Ia):∀i,i<=G t->(Hl out t i).size<=out.size+i*40001
 | 0,_=>by rw[Hl];omega
 | i+1,hi=>by
  have f:=tokP_size d out i (by omega);have h:=d _ (zj (show i < G t by omega));rw[Hl,ByteArray.size_append,zJ (show i < G t by omega)];simp only[Xf,Zn];split
  ·rw[ByteArray.size_append];have:(ByteArray.mk #[32]).size=1:=rfl;omega
  ·omega
end Rt
namespace Rt
def G2 (zL:List PL):Nat->Ia
 | 0=>⟨#[]⟩
 | k+1=>(if 0 < k then G2 zL k++⟨#[10]⟩else G2 zL k)++Hc ((zL[k+1]?).getD kb)
def tidyP (zL:List PL):Ia:=G2 zL (G zL-1)
def Fit (pl:PL):Prop:=G pl.yY<=1000/\(∀t∈pl.yY,t.text.size<=40000)/\pl.depth<=1000
theorem tidyLn_size {pl:PL} (h:Fit pl):(Hc pl).size<=49999999:=by
 obtain⟨i,d,f⟩:=h;unfold Hc;split
 ·show 0<=_;omega
 ·have:=tokP_size d (spP ⟨#[]⟩ pl.depth.toNat) _ (zB _);rw[spP_size]at this;have j:(ByteArray.mk #[]).size=0:=rfl;omega
theorem zPL_fit:Fit kb:=⟨by simp[kb],by simp[kb],by simp[kb]⟩
theorem Hj {zL:List PL} (h:∀p∈zL,Fit p):∀k,(G2 zL k).size<=k*50000000
 | 0=>by show 0<=_;omega
 | k+1=>by
  have f:=Hj h k;have d:Fit ((zL[k+1]?).getD kb):=by
   cases hq:zL[k+1]? with
   | none=>exact zPL_fit
   | some p=>exact h p (qF hq)
  have i:=tidyLn_size d;rw[G2,ByteArray.size_append];split
  ·rw[ByteArray.size_append];have:(ByteArray.mk #[10]).size=1:=rfl;omega
  ·omega
def Qq (S:Src) (mk:List Bool) (kind fuel d0:Int) (n k:Nat):Int:=kq (XY S n 0 mk) kind fuel d0 k
def fwdN (S:Src) (mk:List Bool) (kind fuel d0:Int):Nat->Nat->Nat->Nat×Nat×Int
 | 0,n,k=>(n,k,4)
 | f+1,n,k=>if Qq S mk kind fuel d0 n k=0 then fwdN S mk kind fuel d0 f (n+1) (k+1)else (n,k,Qq S mk kind fuel d0 n k)
def JI (S:Src) (cap:Int):Nat->Nat->Nat->Nat
 | 0,_,low=>low
 | j+1,n,low=>JI S cap j (n+1) (ik S cap n low)
theorem lX (S:Src) (cap:Int):∀i j n low,JI S cap (i+j) n low=JI S cap j (n+i) (JI S cap i n low)
 | 0,j,n,low=>by rw[xW];rfl
 | i+1,j,n,low=>by
  rw[show i+1+j=(i+j)+1 by omega,JI,lX S cap i j (n+1) _,JI,show n+1+i=n+(i+1) by omega]
theorem dC (S:Src) (mk:List Bool) (kind:Int) (fuel:Nat) (d0:Int):∀(f n k:Nat),k+f=fuel+1->0 < f->∃j,fwdN S mk kind fuel d0 f n k=(n+j,k+j,Qq S mk kind fuel d0 (n+j) (k+j))/\k+j<=fuel/\¬Qq S mk kind fuel d0 (n+j) (k+j)=0/\∀i,i < j->Qq S mk kind fuel d0 (n+i) (k+i)=0
 | 0,_,_,_,h=>by omega
 | f+1,n,k,he,_=>by
  rw[fwdN];by_cases hz:Qq S mk kind fuel d0 n k=0
  ·rw[zE hz];have x:(k:Int) < fuel:=(Xo hz).2;obtain⟨j,o,D,d,y⟩:=dC S mk kind fuel d0 f (n+1) (k+1) (by omega) (by omega);have A:n+1+j=n+(j+1):=by omega
   have z:k+1+j=k+(j+1):=by omega
   rw[A,z]at o d;refine⟨j+1,o,by omega,d,fun i hi=>?_⟩;cases i with
   | zero=>exact hz
   | succ i=>
    have:=y i (by omega)
    rwa [show n+1+i=n+(i+1) by omega,show k+1+i=k+(i+1) by omega]at this
  ·rw[zA hz];exact⟨0,rfl,by omega,hz,fun i hi=>by omega⟩
theorem mE {S:Src} {cap:Int} (i:0<=cap) (mk:List Bool) (kind fuel d0:Int):∀(f n k low:Nat),VK S cap n low->n+f<=4611686018427387000->
  fwdRun S cap kind fuel d0 f (XY S n low mk) k=(XY S (fwdN S mk kind fuel d0 f n k).1 (JI S cap ((fwdN S mk kind fuel d0 f n k).1-n) n low) mk,(fwdN S mk kind fuel d0 f n k).2)/\VK S cap (fwdN S mk kind fuel d0 f n k).1 (JI S cap ((fwdN S mk kind fuel d0 f n k).1-n) n low)/\n<=(fwdN S mk kind fuel d0 f n k).1
 | 0,n,k,low,h,_=>by
  rw[fwdN,fwdRun];simp only[jC,JI];exact⟨trivial,h,zB _⟩
 | f+1,n,k,low,h,hn=>by
  rw[fwdN,fwdRun];have j:kq (XY S n low mk) kind fuel d0 k=Qq S mk kind fuel d0 n k:=rfl;rw[j];by_cases hz:Qq S mk kind fuel d0 n k=0
  ·rw[zE hz,zE hz];have d:(atM S n).fin=0:=(Xo hz).1;rw[wh h i d (by omega) mk];obtain⟨x,o,z⟩:=mE i mk kind fuel d0 f (n+1) (k+1) (ik S cap n low) (h.step i d) (by omega);generalize fwdN S mk kind fuel d0 f (n+1) (k+1)=r at *;have y:JI S cap (r.1-n) n low=JI S cap (r.1-(n+1)) (n+1) (ik S cap n low):=by
    rw[show r.1-n=(r.1-(n+1))+1 by omega,JI]
   rw[y];exact⟨x,o,by omega⟩
  ·rw[zA hz,zA hz];simp only[jC,JI];exact⟨trivial,h,zB _⟩
def Ha (S:Src) (mk:List Bool) (low:Nat) (kind fuel d0:Int) (n k:Nat):Int:=G5 (XY S n low mk) kind fuel d0 k
def Hp (S:Src) (mk:List Bool) (low:Nat) (kind fuel d0:Int):Nat->Nat->Nat->Nat×Nat×Int
 | 0,n,k=>(n,k,4)
 | f+1,n,k=>if Ha S mk low kind fuel d0 n k=0 then Hp S mk low kind fuel d0 f (n-1) (k+1)else (n,k,Ha S mk low kind fuel d0 n k)
theorem bends_zero {S:Src} (h:Ha S mk low kind fuel d0 n k=0):n≠0/\n≠low/\(k:Int) < fuel:=by
 obtain⟨f,d,i⟩:=Ht h;have f:(n:Int)≠0:=f;have d:(n:Int)≠(low:Int):=d;exact⟨by omega,by omega,i⟩
theorem IX (S:Src) (mk:List Bool) (low:Nat) (kind:Int) (fuel:Nat) (d0:Int):∀(f n k:Nat),low<=n->k+f=fuel+1->0 < f->∃j,Hp S mk low kind fuel d0 f n k=(n-j,k+j,Ha S mk low kind fuel d0 (n-j) (k+j))/\low+j<=n/\k+j<=fuel/\¬Ha S mk low kind fuel d0 (n-j) (k+j)=0/\∀i,i < j->Ha S mk low kind fuel d0 (n-i) (k+i)=0
 | 0,_,_,_,_,h=>by omega
 | f+1,n,k,hl,he,_=>by
  rw[Hp];by_cases hz:Ha S mk low kind fuel d0 n k=0
  ·rw[zE hz];obtain⟨H,A,x⟩:=bends_zero hz;obtain⟨j,o,z,G,d,y⟩:=IX S mk low kind fuel d0 f (n-1) (k+1) (by omega) (by omega) (by omega);have F:n-1-j=n-(j+1):=by omega
   have D:k+1+j=k+(j+1):=by omega
   rw[F,D]at o d;refine⟨j+1,o,by omega,by omega,d,fun i hi=>?_⟩;cases i with
   | zero=>exact hz
   | succ i=>
    have:=y i (by omega)
    rwa [show n-1-i=n-(i+1) by omega,show k+1+i=k+(i+1) by omega]at this
  ·rw[zA hz];exact⟨0,rfl,by omega,by omega,hz,fun i hi=>by omega⟩
theorem backRun_at {S:Src} {cap:Int} (d:G S.input<=100) (mk:List Bool) (low:Nat) (kind fuel d0:Int):∀(f n k:Nat),VK S cap n low->n<=4611686018427387000->
  backRun kind fuel d0 f (XY S n low mk) k=(XY S (Hp S mk low kind fuel d0 f n k).1 low mk,(Hp S mk low kind fuel d0 f n k).2)/\VK S cap (Hp S mk low kind fuel d0 f n k).1 low/\(Hp S mk low kind fuel d0 f n k).1<=n
 | 0,n,k,h,_=>by
  rw[Hp,backRun];exact⟨rfl,h,zB _⟩
 | f+1,n,k,h,hn=>by
  rw[Hp,backRun];have o:G5 (XY S n low mk) kind fuel d0 k=Ha S mk low kind fuel d0 n k:=rfl;rw[o];by_cases hz:Ha S mk low kind fuel d0 n k=0
  ·rw[zE hz,zE hz];obtain⟨D,z,i⟩:=bends_zero hz;obtain⟨q,rfl⟩:∃q,n=q+1:=⟨n-1,by omega⟩;have j:=h.le;rw[seBack_at h (by omega) d (by omega) mk,zu];obtain⟨y,x,A⟩:=backRun_at d mk low kind fuel d0 f q (k+1) (h.back (by omega)) (by omega);exact⟨y,x,by omega⟩
  ·rw[zA hz,zA hz];exact⟨rfl,h,zB _⟩
end Rt
section
attribute [local go_sem ↓] Go.wp_at_zero Go.wp_at_succ
def J7 (P:Nat) (X:ZK) (jv:Value):List Nat:=P::Z4 X++jv.ownBlock.toList
theorem oZ (h:k∉J7 P X jv):k∉P::Z4 X/\jv.ownBlock≠Q k:=by
 unfold J7 at h;simp only[yF,zw,zd,Qu,not_or]at h;exact⟨by simp only[zw,not_or];exact⟨h.1,h.2.1⟩,h.2.2⟩
theorem eV (h:k∈J7 P X jv):k=P\/k∈Z4 X\/jv.ownBlock=Q k:=by
 unfold J7 at h;simpa only[yF,zw,zd,Qu] using h
theorem K2 (h:k=P\/k∈Z4 X\/jv.ownBlock=Q k):k∈J7 P X jv:=by
 unfold J7;simpa only[yF,zw,zd,Qu] using h
section
variable {w w':World} {P B:Nat} {S:Rt.Src} {cap:Int} {s s':Se} {X X':ZK} {jv jv':Value}
theorem vX.kept (h:vX P B S cap X X' jv jv' s' w w') (f:k < w.heap.size) (d:k∉J7 P X jv):w'.heap[k]?=w.heap[k]?:=h.vz.block k f (oZ d).1 (oZ d).2
theorem vX.owns (h:vX P B S cap X X' jv jv' s' w w') (hk:k∈J7 P X' jv'):k∈J7 P X jv\/w.heap.size<=k:=by
 rcases eV hk with e | e | e
 ·exact Or.inl (K2 (Or.inl e))
 ·rcases h.grow k e with e | e
  ·exact Or.inl (K2 (Or.inr (Or.inl e)))
  ·exact Or.inr e
 ·rcases h.jg k e with e | e
  ·exact Or.inl (K2 (Or.inr (Or.inr e)))
  ·exact Or.inr e
theorem Zv.Vq (h:Zv w P B S cap s X jv) (hk:k∈J7 P X jv):k < w.heap.size:=by
 rcases eV hk with e | e | e
 ·rw[e];exact zQ h.mc.block
 ·rw[<-h.mc.xh]at e;exact h.mc.own.lt k e
 ·obtain⟨c,d⟩:=yW h.jr e;exact zQ d
end
def Vn (S:Rt.Src) (rs:Int) (k n:Nat):Array Value:=#[J U rs,J U (k:Int),J U (Rt.atM S n).fin,J U (Rt.atM S n).line,J U ((Rt.atM S n).zH.length:Int),J U (n:Int)]
structure Jx (w:World) (P B:Nat) (S:Rt.Src) (cap:Int) (n low:Nat) (mk:List Bool) (X:ZK) (jv:Value):Prop where
 Yo:Zv w P B S cap (XY S n low mk) X jv
 ok:VK S cap n low
structure Cst (S:Rt.Src) (cap:Int) (mk:List Bool):Prop where
 Gc:Be S
 lo:5<=cap
 hi:cap<=500
 Yw:mk.length=101
def MvP (P B:Nat) (S:Rt.Src) (cap:Int) (mk:List Bool) (X:ZK) (jv:Value) (n' low' k:Nat) (rs:Int) (w:World) (e:Ending) (w':World):Prop:=
 e=T (E #[L (Vn S rs k n'),J U 0])/\∃X' jv',vX P B S cap X X' jv jv' (XY S n' low' mk) w w'/\VK S cap n' low'
section
variable {w:World} {P B:Nat} {S:Rt.Src} {cap:Int} {n low:Nat} {mk:List Bool} {X:ZK} {jv:Value}
theorem Jx.zP {w':World} (h:Jx w P B S cap n low mk X jv) (d:Below w.heap.size w w'):Jx w' P B S cap n low mk X jv:=⟨h.Yo.zP d,h.ok⟩
theorem Jx.FU (h:Jx w P B S cap n low mk X jv):Calls Tryz.prog 59 #[H (Q ⟨P,0,Z⟩)] w fun e w'=>e=T (L (Vn S 0 0 n))/\Below w.heap.size w w':=iw h.Yo
theorem Jx.fwd (h:Jx w P B S cap n low mk X jv) (i:Cst S cap mk) (f:Int) (d:Nat) (o:0<=f/\f<=3) (x:d<=1000) (F:n+1001<=4611686018427386000):Calls Tryz.prog 65 #[H (Q ⟨P,0,Z⟩),J U f,J U d] w (MvP P B S cap mk X jv (Rt.fwdN S mk f d (Rt.atM S n).zH.length (d+1) n 0).1 (JI S cap ((Rt.fwdN S mk f d (Rt.atM S n).zH.length (d+1) n 0).1-n) n low) (Rt.fwdN S mk f d (Rt.atM S n).zH.length (d+1) n 0).2.1 (Rt.fwdN S mk f d (Rt.atM S n).zH.length (d+1) n 0).2.2 w):=by
 have j:0<=cap:=by have:=i.lo;omega
 obtain⟨D,A,_⟩:=mE j mk f d (Rt.atM S n).zH.length (d+1) n 0 low h.ok (by omega);refine(pe h.Yo i.Gc.Gj i.Gc.call ⟨j,i.hi⟩ (i.Gc.Gh h.ok mk i.Yw) f d o x).mono ?_;rintro e w' ⟨X',k,y,z⟩;rw[show ((XY S n low mk).m.zH.length:Int)=((Rt.atM S n).zH.length:Int)from rfl,D]at y z;exact⟨y,X',k,z,A⟩
theorem Jx.bwd (h:Jx w P B S cap n low mk X jv) (i:Cst S cap mk) (f:Int) (d:Nat) (k:0<=f/\f<=3) (o:d<=1000) (D:n+1001<=4611686018427386000):Calls Tryz.prog 67 #[H (Q ⟨P,0,Z⟩),J U f,J U d] w (MvP P B S cap mk X jv (Hp S mk low f d (Rt.atM S n).zH.length (d+1) n 0).1 low (Hp S mk low f d (Rt.atM S n).zH.length (d+1) n 0).2.1 (Hp S mk low f d (Rt.atM S n).zH.length (d+1) n 0).2.2 w):=by
 obtain⟨A,z,_⟩:=backRun_at (cap:=cap) i.Gc.input mk low f d (Rt.atM S n).zH.length (d+1) n 0 h.ok (by omega);refine(backward_any h.Yo i.Gc i.hi ⟨n,rfl,h.ok,zB _⟩ (by omega) i.Yw f d k o).mono ?_;rintro e w' ⟨X',j,x,y⟩;rw[show ((XY S n low mk).m.zH.length:Int)=((Rt.atM S n).zH.length:Int)from rfl,A]at x y;exact⟨x,X',j,y,z⟩
end
theorem dd (h:jz w M B ty tail S m X) (n:Int):Calls Tryz.prog 105 #[H (Q ⟨M,0,Z⟩),J U n] w fun e w'=>e=T (A (Rt.xV S.zL (yM S.zL n)))/\Below w.heap.size w w':=by
 have f:=zD (isStop_v n h.prog.v);go_enter func105,ntmps105;go_wp2_with fail;refine f.u.mono ?_;rintro e w1 ⟨rfl,d⟩;have i:=zD d;go_wp2;go_ret;exact⟨rfl,i.u⟩
theorem ti (X:ZK) (m:Rt.Mc) (cap:Int) (jv:Value) (low d:Int) (marks:List Bool) (l:Nat) (b:Bool):(xC X m (vF cap jv low d marks)).setIfInBounds (12+l) (A b)=xC X m (vF cap jv low d (marks.set l b)):=by
 rw[Xs];simp[xC,vF,bk]
theorem Zv.marked (h:Zv w P B S cap s X jv) (l:Nat) (b:Bool):vX P B S cap X X jv jv { s with marks:=s.marks.set l b } w (w.setCell ⟨P,12+l,Z⟩ (A b)):=by
 have j:KB P jv w (w.setCell ⟨P,12+l,Z⟩ (A b)):=⟨rfl,rfl,rfl,by simp[World.setCell],fun k _ hp _=>zO _ _ _ _ hp⟩;have o:=zf h.mc.block (12+l) (A b);have e:(([X.lv,X.iv,X.fv,X.vv,J U s.m.taken,X.ov,J U s.m.line,J U s.m.fin]++vF cap jv s.low s.idx s.marks).toArray).setIfInBounds (12+l) (A b)=xC X s.m (vF cap jv s.low s.idx (s.marks.set l b)):=ti X s.m cap jv s.low s.idx s.marks l b;rw[e]at o;have f:=h.mc.ru h.jr j o;have d:jv.ownBlock≠Q P:=h.jrS.ne;have i:=yP (w':=w.setCell ⟨P,12+l,Z⟩ (A b)) h.jr (fun g hg=>zO _ _ _ _ (fun e=>d (by rw[hg,show g=P from e])));exact⟨⟨f,i⟩,⟨rfl,rfl,rfl,by simp[World.setCell],fun k _ hn _=>zO _ _ _ _ (fun e=>hn (by rw[show k=P from e];exact xB ..))⟩,vd.refl _ _,fun _ h=>Or.inl h,zQ h.mc.block⟩
theorem lV (h:Zv w P B S cap s X jv) (l:Nat) (k:l < 101) (i:Rt.xV S.zL (yM S.zL l)=W):Calls Tryz.prog 63 #[H (Q ⟨P,0,Z⟩),J U l] w fun e w'=>e=T (E #[A W,J U 8])/\Below w.heap.size w w':=by
 have f:=zD (dd h.mc l);rw[i]at f;go_enter func63,ntmps63;go_wp2_with fail;refine f.u.mono ?_;rintro e w1 ⟨rfl,d⟩;have j:=zD d;go_wp2_with fail;refine zT (v:=E #[A W,J U 8]) ?_ rfl ⟨rfl,j.u⟩;simp[results,results63,go_sem]
theorem Ag (h:Zv w P B S cap s X jv) (y:G s.marks=101) (l:Nat) (z:l < 101) (x:Rt.xV S.zL (yM S.zL l)=D) (b:Bool) (k:s.marks[l]?=Q b):Calls Tryz.prog 63 #[H (Q ⟨P,0,Z⟩),J U l] w fun e w'=>e=T (E #[A (!b),J U 0])/\vX P B S cap X X jv jv { s with marks:=s.marks.set l (!b) } w w':=by
 have o:=zD (dd h.mc l);rw[x]at o;have i:=qG h y;go_enter func63,ntmps63;go_wp2_with fail;refine o.u.mono ?_;rintro e w1 ⟨rfl,f⟩;have d:=i.u.1.zP f;have F:=d.ow i.u.2 l z;have L:w1.frozen? ⟨P,12+l,Z⟩=W:=zS d.mc.block _;have I:=zD (fun b=>(vX.start i.u.1 f).trans (d.marked l b));have j:s.marks[l]'(by have:=i.u.2;omega)=b:=by
  rw[zJ (by have:=i.u.2;omega)]at k;exact Option.some.inj k
 rw[j]at F;go_wp2_with fail;go_region;go_wp2_with fail;refine zT (v:=E #[A (!b),J U 0]) ?_ rfl ⟨rfl,(I.u _).below (zh _)⟩;simp[results,results63,go_sem]
theorem BH (h:Zv w P B S cap s X jv):Calls Tryz.prog 103 #[H (Q ⟨P,8,Z⟩)] w fun e w'=>e=T (J U (G s.YU:Int))/\w'=w:=by
 have f:=h.jrS.k9;obtain⟨i,d,rfl⟩:=zK h.jr;clear h;go_enter func103,ntmps103;go_wp2;go_ret;exact⟨rfl,rfl⟩
theorem C9 (h:Zv w P B S cap s X jv):Calls Tryz.prog 61 #[H (Q ⟨P,0,Z⟩)] w fun e w'=>e=T (E #[J U s.low,J U (G s.YU:Int)])/\w'=w:=by
 have d:=zD h;clear h;go_enter func61,ntmps61;go_wp2_with fail;refine(Ec d.u).mono ?_;rintro e w1 ⟨rfl,rfl⟩;go_wp2_with fail;refine(BH d.u).mono ?_;rintro e w2 ⟨rfl,rfl⟩;go_wp2_with fail;refine zT (v:=E #[J U s.low,J U (G s.YU:Int)]) ?_ rfl ⟨rfl,rfl⟩;simp[results,results61,go_sem]
theorem aI (s:Ia) (cap:Int) (y:s.size<=maxLen) (j:kA w iv qo) (er ln:Int) (h:(100 < G qo/\er=1/\ln=0)\/(G qo<=100/\¬er=0/\∃zL,Rt.qx s=(er,ln,zL))):Calls Tryz.prog 30 #[O s,iv,J U cap] w fun e w'=>e=T (E #[H Z,J U er,J U ln])/\Below w.heap.size w w':=by
 have F:=zD j;obtain⟨x,i,rfl,_⟩:=j;have z:(er != 0)=D:=by rcases h with⟨_,rfl,_⟩| ⟨_,h,_⟩ <;> simp_all
 have HH:=zD h;clear h;go_enter func30,ntmps30;go_wp2_with fail;refine(nC s y F.u (fun p hp=>tQ hp)).mono ?_;rintro e w1 ⟨d,hcase⟩;have he:e=T (E #[L KC,J U er,J U ln]):=by
  rcases HH.u with⟨h1,h2,h3⟩| ⟨h1,h2,p,h3⟩
  ·subst h2 h3;rcases hcase with⟨_,he⟩| ⟨h,_⟩
   ·exact he
   ·omega
  ·rcases hcase with⟨h,_⟩| ⟨_,A,k,f,hR,hc⟩
   ·omega
   ·rw[h3]at hR;injection hR with e1 hR;injection hR with e2 _;subst e1 e2;rcases hc with⟨_,he⟩| ⟨h0,_⟩
    ·exact he
    ·exact absurd h0 h2
 subst he;have I:=zD (fun o=>d.alloc d.size o);clear hcase;go_wp2;go_ret3;exact⟨rfl,I.u _⟩
theorem Bz (s:Ia) (cap:Int) (hs:s.size<=maxLen) (D:kA w iv qo) (hR:Rt.qx s=(0,0,zL)) (hl:G qo<=100) (hc:cap < 5\/500 < cap):Calls Tryz.prog 30 #[O s,iv,J U cap] w fun e w'=>e=T (E #[H Z,J U 6,J U 0])/\Below w.heap.size w w':=by
 have HI:=zD D;obtain⟨a0,A,rfl,_⟩:=D;go_enter func30,ntmps30;go_wp2_with fail;refine(nC s hs HI.u (fun p hp=>tQ hp)).mono ?_;rintro e w1 ⟨h,hcase⟩;rcases hcase with⟨hlt,_⟩| ⟨_,er,ln,z,f,hcc⟩
 ·exact absurd hlt (by omega)
 rw[hR]at f;injection f with e1 f;injection f with e2 e3;subst e1 e2 e3;rcases hcc with⟨h0,_⟩| ⟨_,_,hlen,M0,X,rfl,hM0,hblk,hmc⟩
 ·exact absurd rfl h0
 obtain⟨W,V,ia,ic,fa,fc,M,L,R,N,y,x,k,j,i⟩:=hmc.shape;generalize Rt.firstM (Zs s zL qo)=m0 at *;have d:xC X m0 []=#[I W (G zL) V,I ia (G qo) ic,I fa (G m0.zH) fc,I M (G m0.values) L,J U m0.taken,I R (G m0.output) N,J U m0.line,J U m0.fin]:=by
  simp only[xC,y,x,k,j,i,Zs,qR];rfl
 rw[d];have F:=zD (fun o=>h.alloc h.size o);clear hmc d y x k j i hR hblk;by_cases hz:cap < 5
 ·go_wp2;go_ret3;exact⟨rfl,F.u _⟩
 ·have a1:500 < cap:=by omega
  go_wp2;go_ret3;exact⟨rfl,F.u _⟩
def Ba:List Bool:=List.replicate 101 W
theorem Ft {s:Ia} (d:Rt.qx s=(0,0,zL)) (f:G qo<=100):Be (Zs s zL qo):=⟨ui d f,Dd d,ph (ui d f)⟩
theorem EB (s:Ia) (cap:Int) (h:s.size<=maxLen) (f:kA w iv qo) (A:Rt.qx s=(0,0,zL)) (j:G qo<=100) (x:5<=cap/\cap<=500):Calls Tryz.prog 30 #[O s,iv,J U cap] w fun e w'=>Below w.heap.size w w'/\∃P B X jv,e=T (E #[H (Q ⟨P,0,Z⟩),J U 0,J U 0])/\(∀k∈J7 P X jv,w.heap.size<=k)/\Jx w' P B (Zs s zL qo) cap 0 0 Ba X jv:=by
 refine(snew_any s cap zL h f A j x).mono ?_;rintro e w' ⟨y,P,B,X,o,D,z,d⟩;refine⟨y,P,B,X,I Z 0 0,o,fun k hk=>?_,d,⟨fun i f=>by omega,zB _,?_⟩⟩
 ·rcases eV hk with e | e | e
  ·omega
  ·exact z k e
  ·cases e
 ·show ((0:Nat):Int)<=cap;omega
theorem Cc (w:World) (P:Nat) (l:Int) (d:l < 0\/101<=l):Calls Tryz.prog 63 #[H (Q ⟨P,0,Z⟩),J U l] w fun e w'=>e=T (E #[A W,J U 8])/\Below w.heap.size w w':=by
 by_cases h0:l < 0
 ·go_enter func63,ntmps63;go_wp2_with fail;refine zT (v:=E #[A W,J U 8]) ?_ rfl ⟨rfl,zI _ _⟩;simp[results,results63,go_sem]
 ·have f:(101:Int)<=l:=by omega
  go_enter func63,ntmps63;go_wp2_with fail;refine zT (v:=E #[A W,J U 8]) ?_ rfl ⟨rfl,zI _ _⟩;simp[results,results63,go_sem]
def eF (t:TypeId):Prop:=t=105\/t=3\/t=153\/t=24\/t=162\/t=109\/t=72\/t=4\/t=30\/t=36
theorem eF.notP (h:eF t):¬Xe t:=by
 unfold eF at h;unfold Xe;rcases h with rfl | rfl | rfl | rfl | rfl | rfl | rfl | rfl | rfl | rfl <;> decide
theorem eF.notS (h:eF t):¬FG t:=by
 unfold eF at h;unfold FG;rcases h with rfl | rfl | rfl | rfl | rfl | rfl | rfl | rfl | rfl | rfl <;> decide
section
variable {w w':World} {P B:Nat} {S:Rt.Src} {cap:Int} {n low:Nat} {mk:List Bool} {X:ZK} {jv:Value}
theorem Jx.mty (h:Jx w P B S cap n low mk X jv) (hk:k∈J7 P X jv):∃t,qm w k t/\eF t:=by
 rcases eV hk with e | e | e
 ·exact⟨_,⟨_,by rw[e];exact h.Yo.mc.block⟩,Or.inl rfl⟩
 ·rw[<-h.Yo.mc.xh]at e;obtain⟨r,hr,d⟩:=ju.mp e;refine⟨r.t,yW (h.Yo.mc.own.rows r hr) d,?_⟩;rcases JF hr with e | e | e <;> rw[e] <;> simp[eF]
 ·exact⟨_,yW h.Yo.jr e,by simp[eF]⟩
theorem Jx.stay (h:Jx w P B S cap n low mk X jv) (hs:w.heap.size<=w'.heap.size) (hk:∀k∈J7 P X jv,w'.heap[k]?=w.heap[k]?) (i:∀k t,Xe t->qm w k t->w'.heap[k]?=w.heap[k]?):Jx w' P B S cap n low mk X jv:=by
 refine⟨⟨h.Yo.mc.next ((hk P (K2 (Or.inl rfl))).trans h.Yo.mc.block) hs ?_ ⟨fun r hr=>yP (h.Yo.mc.own.rows r hr) (fun g hg=>hk g (K2 (Or.inr (Or.inl ?_)))),h.Yo.mc.own.apart⟩ rfl rfl h.Yo.mc.fl h.Yo.mc.vl,yP h.Yo.jr (fun g hg=>hk g (K2 (Or.inr (Or.inr hg))))⟩,h.ok⟩
 ·rintro k x d _ ⟨c,t,rfl,f⟩;exact(i k t f ⟨c,d⟩).trans d
 ·rw[<-h.Yo.mc.xh];exact ju.mpr ⟨r,hr,hg⟩
theorem Jx.held (h:Jx w P B S cap n low mk X jv):Calls Tryz.prog 61 #[H (Q ⟨P,0,Z⟩)] w fun e w'=>e=T (E #[J U (low:Int),J U ((xT S low (n-low)).length:Int)])/\w'=w:=C9 h.Yo
end
structure mU where
 q:Nat
 P:Nat
 B:Nat
 X:ZK
 jv:Value
 C:Nat
 Y:iQ
 ps:List Rt.PL
 zL:List Rt.PL
 ls:List Ib
 S:Rt.Src
 cap:Int
 len:Nat
 n:Nat
 low:Nat
 Yw:List Bool
structure vf (w:World) (s:mU):Prop where
 pair:w.heap[s.q]?=some (.cells #[.pointer (some ⟨s.P,0,none⟩),.pointer (some ⟨s.C,0,none⟩)] 65 (0,0))
 Yo:Jx w s.P s.B s.S s.cap s.n s.low s.Yw s.X s.jv
 Bb:Cst s.S s.cap s.Yw
 cur:vg w s.C s.zL s.ls s.S s.cap s.len s.n s.low (s.Yw.take (s.ls.length+1)) s.Y
 ctx:Rf.Ctx s.ps s.zL s.ls s.S
 le:s.n<=s.len
 apart:∀k∈J7 s.P s.X s.jv,k∉Dt s.zL s.S s.C s.Y
def rV (s:mU):List Nat:=s.q::(J7 s.P s.X s.jv++Dt s.zL s.S s.C s.Y)
def Dr (t:TypeId):Prop:=Xe t\/FG t\/t=65
theorem eF.CU (h:eF t):¬Dr t:=by
 rintro (e | e | e)
 ·exact h.notP e
 ·exact h.notS e
 ·rw[e]at h;exact absurd h (by unfold eF;decide)
structure YJ (s s':mU) (w w':World):Prop where
 ok:vf w' s'
 q:s'.q=s.q
 os:w'.os=w.os
 tape:w'.tape=w.tape
 output:w'.output=w.output
 size:w.heap.size<=w'.heap.size
 block:∀k,k < w.heap.size->k∉rV s->w'.heap[k]?=w.heap[k]?
 kept:∀k t,Dr t->qm w k t->w'.heap[k]?=w.heap[k]?
 own:∀k∈rV s',k∈rV s\/w.heap.size<=k
 iP:s'.len<=s.len+1000
section
variable {w w':World} {s:mU}
theorem vf.lt (h:vf w s) {k:Nat} (hk:k∈rV s):k < w.heap.size:=by
 rcases zw.mp hk with rfl | hk
 ·exact zQ h.pair
 ·rcases zd.mp hk with hk | hk
  ·exact h.Yo.Yo.Vq hk
  ·exact h.cur.lt hk
theorem vf.stay (h:vf w s) (i:w.heap.size<=w'.heap.size) (d:∀k∈rV s,w'.heap[k]?=w.heap[k]?) (f:∀k t,Dr t->qm w k t->w'.heap[k]?=w.heap[k]?):vf w' s:=
 ⟨(d _ (xB ..)).trans h.pair,h.Yo.stay i (fun k hm=>d k (zm _ (zY _ hm))) (fun k t hp=>f k t (Or.inl hp)),h.Bb,h.cur.stay (fun k hm=>d k (zm _ (zb _ hm))) (fun k t hp=>f k t (Or.inr (Or.inl hp))),h.ctx,h.le,h.apart⟩
theorem vf.zP (h:vf w s) (d:Below w.heap.size w w'):vf w' s:=h.stay d.size (fun k hk=>d.block k (h.lt hk)) (fun k _ _ hk=>d.block k hk.lt)
theorem YJ.below (h:vf w s) (d:Below w.heap.size w w'):YJ s s w w':=
 ⟨h.zP d,rfl,d.os,d.tape,d.output,d.size,fun k hk _=>d.block k hk,fun k _ _ hk=>d.block k hk.lt,fun k hk=>Or.inl hk,by omega⟩
theorem YJ.then {s2:mU} (h:YJ s s w w1) (h2:YJ s s2 w1 w2):YJ s s2 w w2:=
 ⟨h2.ok,h2.q,h2.os.trans h.os,h2.tape.trans h.tape,h2.output.trans h.output,zi h.size h2.size,fun k hk hn=>(h2.block k (zX hk h.size) hn).trans (h.block k hk hn),fun k t ht hk=>(h2.kept k t ht (by unfold qm;rw[h.kept k t ht hk];exact hk)).trans (h.kept k t ht hk),fun k hk=>by
  rcases h2.own k hk with e | e
  ·exact Or.inl e
  ·exact Or.inr (zi h.size e),h2.iP⟩
theorem CH (zL:List Rt.PL) (S:Rt.Src) (n:Nat):(ZN zL S n).line=(Rt.atM S n).line/\(ZN zL S n).fin=(Rt.atM S n).fin/\(ZN zL S n).zH.length=(Rt.atM S n).zH.length:=⟨rfl,rfl,Rf.XD _ _ _⟩
theorem dV (h:vf w s) (rs N:Int):Calls Tryz.prog 60 #[H (Q ⟨s.q,0,Z⟩),L #[J U rs,J U N,J U (Rt.atM s.S s.n).fin,J U (Rt.atM s.S s.n).line,J U ((Rt.atM s.S s.n).zH.length:Int),J U (s.n:Int)],J U rs,J U N] w fun e w'=>e=T (A D)/\Below w.heap.size w w':=by
 have HH:=zD h;obtain⟨e1,e2,e3⟩:=CH s.zL s.S s.n;rw[<-e1,<-e2,<-e3];have p1:w.cell? ⟨s.q,1,Z⟩=Q (H (Q ⟨s.C,0,Z⟩)):=zC h.pair 1 (by simp);have c5:w.cell? ⟨s.C,5,Z⟩=Q (J U s.n):=zC h.cur.block 5 (by simp[Du]);have a3:=zQ h.pair;have a5:=zQ h.cur.block;clear h e1 e2 e3;have a2:=(zI w.heap.size w).alloc (zB _) (V #[J U rs,J U N,J U (ZN s.zL s.S s.n).fin,J U (ZN s.zL s.S s.n).line,J U ((ZN s.zL s.S s.n).zH.length:Int),J U (s.n:Int)] 111);have a1:=zN w (V #[J U rs,J U N,J U (ZN s.zL s.S s.n).fin,J U (ZN s.zL s.S s.n).line,J U ((ZN s.zL s.S s.n).zH.length:Int),J U (s.n:Int)] 111);have i:=qG a2 a1;go_enter func60,ntmps60;go_wp2_with fail;refine(AD (HH.u.zP i.u.1).cur HH.u.le).mono ?_;generalize w.alloc (V #[J U rs,J U N,J U (ZN s.zL s.S s.n).fin,J U (ZN s.zL s.S s.n).line,J U ((ZN s.zL s.S s.n).zH.length:Int),J U (s.n:Int)] 111)=wa at *;rintro e w1 ⟨O,X,_,hq,rfl⟩;obtain⟨F,z,y,x,k,j,M,G,f1,f2,f3,f4⟩:=hq.ZX;have a0:jh X.fv X.vv X.cv X.ov (ZN s.zL s.S s.n)=#[I F (ZN s.zL s.S s.n).zH.length z,I y (ZN s.zL s.S s.n).vars.length x,I k (ZN s.zL s.S s.n).cells.length j,J U (ZN s.zL s.S s.n).read,I M (ZN s.zL s.S s.n).out.length G,J U (ZN s.zL s.S s.n).line,J U (ZN s.zL s.S s.n).fin]:=by rw[f1,f2,f3,f4];rfl
 rw[a0];have f:Below w.heap.size w w1:=i.u.1.trans (O.mono (B':=w.heap.size) i.u.1.size);have d1:=cell_later f p1;have d5:=cell_later f c5;have hR:=zU i.u.2 O;obtain⟨r0,r1,r2,r3,r4,r5,_⟩:=YA hR;have a4:=zQ hR;have W:=f.size;have HF:=zD (fun o=>f.alloc W o);generalize ZN s.zL s.S s.n=p at *;have d:=(zI w1.heap.size w1).alloc (zB _) (V (Hi F z y x k j M G p) 72);obtain⟨q0,_,_,_,_,q5,q6⟩:=seven (zN w1 (V (Hi F z y x k j M G p) 72));have d1:=cell_later d d1;have d5:=cell_later d d5;have k2:=cell_later d r2;have k3:=cell_later d r3;have k4:=cell_later d r4;have k5:=cell_later d r5;have R:=zD (HF.u (V (Hi F z y x k j M G p) 72));go_wp2_with fail;generalize w1.alloc (V (Hi F z y x k j M G p) 72)=wq at *;go_quiet (fail);go_wp2;go_ret;exact⟨rfl,R.u.trans ((below_drewN wq _).mono R.u.size)⟩
theorem iu (h:vf w s):Calls Tryz.prog 32 #[H (Q ⟨s.q,0,Z⟩)] w fun e w'=>e=T (A D)/\Below w.heap.size w w':=by
 have y:=zD h;have M:w.cell? ⟨s.q,0,Z⟩=Q (H (Q ⟨s.P,0,Z⟩)):=zC h.pair 0 (by simp);go_enter func32,ntmps32;go_wp2_with fail;refine(y.u.Yo.FU).mono ?_;rintro e w1 ⟨rfl,f⟩;have x:=zN w1 (V (Vn s.S 0 0 s.n) 111);have d:=(zI w1.heap.size w1).alloc (zB _) (V (Vn s.S 0 0 s.n) 111);unfold Vn at x d;unfold Vn;obtain⟨L,J,I,G,F,z,_⟩:=YA x;have k:=zD ((y.u.zP f).zP d);have i:=zD (f.trans (d.mono (B':=w.heap.size) f.size));go_wp2_with fail;refine(dV k.u 0 0).mono ?_;rintro e w2 ⟨rfl,j⟩;have o:=zD (i.u.trans (j.mono (B':=w.heap.size) i.u.size));go_wp2;go_ret;exact⟨rfl,o.u⟩
theorem vf.room (h:vf w s):(xT s.S s.low (s.n-s.low)).length<=1000000/\s.low<=s.n:=by
 have f:=h.Yo.ok.room;have d:=h.Bb.hi;exact⟨by omega,h.Yo.ok.le⟩
theorem AE (h:vf w s) (i:s.len < 4611686018427387904):Calls Tryz.prog 33 #[H (Q ⟨s.q,0,Z⟩)] w fun e w'=>e=T (A D)/\Below w.heap.size w w':=by
 have d:=zD h;have o:w.cell? ⟨s.q,0,Z⟩=Q (H (Q ⟨s.P,0,Z⟩)):=zC h.pair 0 (by simp);have k:w.cell? ⟨s.q,1,Z⟩=Q (H (Q ⟨s.C,0,Z⟩)):=zC h.pair 1 (by simp);go_enter func33,ntmps33;go_wp2_with fail;refine(d.u.Yo.held).mono ?_;rintro e w1 ⟨rfl,rfl⟩;go_wp2_with fail;refine(BJ d.u.cur d.u.le d.u.room.2 i d.u.room.1).mono ?_;rintro e w2 ⟨rfl,f⟩;have j:=zD f;go_wp2;go_ret;exact⟨by first | rfl | simp,j.u⟩
end
theorem qm.one {u:TypeId} (f:qm w k t) (d:qm w k u):t=u:=by
 apply Zt;intro h;exact f.ne d h rfl
section
variable {w w1 w2:World} {s:mU}
theorem vg.mty {C:Nat} {ls:List Ib} {len:Nat} {Y:iQ} (h:vg w C zL ls S cap len n low mk Y) (hk:k∈Ev C Y):∃t,qm w k t/\eF t:=by
 have d:∀{o:Option Nat} {g:Nat},g∈o.toList->o=Q g:=fun hg=>by simpa using hg
 rcases zw.mp hk with rfl | hk
 ·exact⟨_,⟨_,h.block⟩,by simp[eF]⟩
 ·rcases zd.mp hk with hk | hk
  ·rcases zd.mp hk with hk | hk
   ·exact⟨_,yW h.tr (d hk),by simp[eF]⟩
   ·exact⟨_,yW h.oH (d hk),by simp[eF]⟩
  ·exact⟨_,yW h.Yw (d hk),by simp[eF]⟩
theorem vf.ua (h:vf w s) (i:vX s.P s.B s.S s.cap s.X X' s.jv jv' s' w w1) (d:Dr t) (f:qm w k t):w1.heap[k]?=w.heap[k]?:=
 i.kept f.lt (fun hm=>by
  obtain⟨u,o,j⟩:=h.Yo.mty hm;rw[f.one o]at d;exact j.CU d)
theorem vf.Eu (h:vf w s) (d:vX s.P s.B s.S s.cap s.X X' s.jv jv' s' w w1):vg w1 s.C s.zL s.ls s.S s.cap s.len s.n s.low (s.Yw.take (G s.ls+1)) s.Y:=
 h.cur.stay (fun k hk=>d.kept (h.cur.lt hk) (fun hm=>h.apart k hm hk)) (fun _ _ ht hk=>h.ua d (Or.inr (Or.inl ht)) hk)
theorem vf.act (h:vf w s) {Y':iQ} {len' low':Nat} {mk':List Bool} (hA:vX s.P s.B s.S s.cap s.X X' s.jv jv' (XY s.S n' low' mk') w w1) (x:VK s.S s.cap n' low') (hc:Cst s.S s.cap mk') (hD:Ds s.C s.zL s.ls s.S s.cap len' n' low' (mk'.take (G s.ls+1)) s.Y Y' w1 w2) (y:n'<=len') (f:len'<=s.len+1000):YJ s { s with X:=X',jv:=jv',Y:=Y',len:=len',n:=n',low:=low',Yw:=mk' } w w2:=by
 have z:=h.Eu hA;have j:∀k t,Dr t->qm w k t->w1.heap[k]?=w.heap[k]?:=fun k t ht hk=>h.ua hA ht hk;have i:∀k t,Dr t->qm w1 k t->w2.heap[k]?=w1.heap[k]?:=fun k t ht hk=>hD.vz.block k hk.lt (fun hm=>by
  obtain⟨u,h1,F⟩:=z.mty hm;rw[hk.one h1]at ht;exact F.CU ht)
 have hk:∀k t,Dr t->qm w k t->w2.heap[k]?=w.heap[k]?:=fun k t ht hk=>(i k t ht (by unfold qm;rw[j k t ht hk];exact hk)).trans (j k t ht hk);have d:=hA.vz.size;have A:Jx w1 s.P s.B s.S s.cap n' low' mk' X' jv':=⟨hA.Yo,x⟩;have o:∀k∈J7 s.P X' jv',k∉Dt s.zL s.S s.C s.Y:=fun k hm hc=>by
  rcases hA.owns hm with h1 | h1
  ·exact h.apart k h1 hc
  ·have:=h.cur.lt hc;omega
 refine⟨⟨(hk _ _ (Or.inr (Or.inr rfl)) ⟨_,h.pair⟩).trans h.pair,A.stay hD.vz.size (fun k hm=>hD.vz.block k (hA.Yo.Vq hm) (fun hc=>o k hm (zY _ hc))) (fun k t ht hk'=>i k t (Or.inl ht) hk'),hc,hD.cur,h.ctx,y,fun k hm hc=>?_⟩,rfl,hD.vz.os.trans hA.vz.os,hD.vz.tape.trans hA.vz.tape,hD.vz.output.trans hA.vz.output,zi d hD.vz.size,fun k hk' hn=>?_,hk,fun k hm=>?_,f⟩
 ·rcases hD.own k hc with h1 | h1
  ·exact o k hm h1
  ·have:=hA.Yo.Vq hm;omega
 ·have D:k∉J7 s.P s.X s.jv:=fun hm=>hn (zm _ (zY _ hm));have n2:k∉Ev s.C s.Y:=fun hm=>hn (zm _ (zb _ (zY _ hm)));exact(hD.vz.block k (zX hk' d) n2).trans (hA.kept hk' D)
 ·rcases zw.mp hm with rfl | hm
  ·exact Or.inl (xB ..)
  ·rcases zd.mp hm with hm | hm
   ·rcases hA.owns hm with h1 | h1
    ·exact Or.inl (zm _ (zY _ h1))
    ·exact Or.inr h1
   ·rcases hD.own k hm with h1 | h1
    ·exact Or.inl (zm _ (zb _ h1))
    ·exact Or.inr (zi d h1)
theorem Af (h:vf w s) (l:Int) (z:Calls Tryz.prog 63 #[H (Q ⟨s.P,0,Z⟩),J U l] w fun e w'=>e=T (E #[A W,J U 8])/\Below w.heap.size w w') (F:∀w1,vf w1 s->Calls Tryz.prog 64 #[H (Q ⟨s.C,0,Z⟩),J U l] w1 fun e w'=>e=T (E #[A W,J U 8])/\Below w1.heap.size w1 w'):Calls Tryz.prog 34 #[H (Q ⟨s.q,0,Z⟩),J U l] w fun e w'=>e=T (A D)/\YJ s s w w':=by
 have x:=zD h;have j:=zD z;have k:=zD F;have G:w.cell? ⟨s.q,0,Z⟩=Q (H (Q ⟨s.P,0,Z⟩)):=zC h.pair 0 (by simp);have y:w.cell? ⟨s.q,1,Z⟩=Q (H (Q ⟨s.C,0,Z⟩)):=zC h.pair 1 (by simp);go_enter func34,ntmps34;go_wp2_with fail;refine j.u.mono ?_;rintro e w1 ⟨rfl,f⟩;have I:=cell_later f y;have d:=zD f;go_wp2_with fail;refine(k.u w1 (x.u.zP d.u)).mono ?_;rintro e w2 ⟨rfl,i⟩;have o:=zD (d.u.trans (i.mono (B':=w.heap.size) d.u.size));go_wp2_with (go_at_call 20;refine(K3 8).mono ?_;rintro e w' ⟨rfl,rfl⟩)
 all_goals
  go_ret;exact⟨by first | rfl | simp,YJ.below x.u o.u⟩
theorem ss (h:vf w s) (l:Nat) (b:Bool) {s':mU} (x:Calls Tryz.prog 63 #[H (Q ⟨s.P,0,Z⟩),J U ((l:Int)+1)] w fun e w'=>e=T (E #[A (!b),J U 0])/\vX s.P s.B s.S s.cap s.X s.X s.jv s.jv (XY s.S s.n s.low (s.Yw.set (l+1) (!b))) w w') (z:∀w1,vX s.P s.B s.S s.cap s.X s.X s.jv s.jv (XY s.S s.n s.low (s.Yw.set (l+1) (!b))) w w1->Calls Tryz.prog 64 #[H (Q ⟨s.C,0,Z⟩),J U ((l:Int)+1)] w1 fun e w'=>e=T (E #[A (!b),J U 0])/\YJ s s' w w'):Calls Tryz.prog 34 #[H (Q ⟨s.q,0,Z⟩),J U ((l:Int)+1)] w fun e w'=>e=T (A D)/\YJ s s' w w':=by
 have i:=zD h;have f:=zD x;have j:=zD z;have G:w.cell? ⟨s.q,0,Z⟩=Q (H (Q ⟨s.P,0,Z⟩)):=zC h.pair 0 (by simp);go_enter func34,ntmps34;go_wp2_with fail;refine f.u.mono ?_;rintro e w1 ⟨rfl,k⟩;have d:=(i.u.ua k (Or.inr (Or.inr rfl)) ⟨_,i.u.pair⟩).trans i.u.pair;have I:w1.cell? ⟨s.q,1,Z⟩=Q (H (Q ⟨s.C,0,Z⟩)):=zC d 1 (by simp);have F:=zD k;go_wp2_with fail;refine(j.u w1 F.u).mono ?_;rintro e w2 ⟨rfl,o⟩;have y:=zD o;cases b <;> go_wp2_with (go_at_call 20;refine(K3 0).mono ?_;rintro e w' ⟨rfl,rfl⟩)
 all_goals
  go_ret;exact⟨by first | rfl | simp,y.u⟩
theorem iz (h:vf w s) (d:l < G s.ls):Rt.xV s.S.zL (yM s.S.zL ((l+1:Nat):Int))=xx s.ls l s.ls[l]:=by
 have e:yM s.S.zL ((l+1:Nat):Int)=Rt.jK (Rt.vU s.zL ((l:Int)+1)):=by
  rw[h.ctx.Ja];exact Rt.QO s.zL ((l:Int)+1)
 rw[e,h.ctx.Ja,Jo];exact uN h.ctx.both d (ee h.ctx.both d)
theorem Bs (h:vf w s) (hl:l=0\/G s.ls < l):Rt.xV s.S.zL (yM s.S.zL (l:Int))=W:=by
 have i:=h.ctx.both.len;have e:yM s.S.zL (l:Int)=Rt.jK (Rt.vU s.zL (l:Int)):=by
  rw[h.ctx.Ja];exact Rt.QO s.zL (l:Int)
 have f:(Rt.vU s.zL (l:Int)).form=Rt.zF:=by
  unfold Rt.vU;rw[zA (by omega),xS];rcases hl with rfl | hl
  ·obtain⟨q,d,_⟩:=h.ctx.both.ex;rw[d];rfl
  ·rw[xt (by omega)];rfl
 rw[e,h.ctx.Ja,Jo];unfold Rt.xV;rw[f];rfl
theorem su (h:vf w s) (l:Int):Calls Tryz.prog 34 #[H (Q ⟨s.q,0,Z⟩),J U l] w fun e w'=>e=T (A D)/\∃s',YJ s s' w w':=by
 have d:=h.ctx.law.len;have o:=h.Bb.Yw;have i:Calls Tryz.prog 63 #[H (Q ⟨s.P,0,Z⟩),J U l] w (fun e w'=>e=T (E #[A W,J U 8])/\Below w.heap.size w w')->(∀w1,vf w1 s->Calls Tryz.prog 64 #[H (Q ⟨s.C,0,Z⟩),J U l] w1 fun e w'=>e=T (E #[A W,J U 8])/\Below w1.heap.size w1 w')->Calls Tryz.prog 34 #[H (Q ⟨s.q,0,Z⟩),J U l] w fun e w'=>e=T (A D)/\∃s',YJ s s' w w':=fun a b=>
  (Af h l a b).mono (fun e w' hh=>⟨hh.1,s,hh.2⟩);by_cases h1:l < 0\/101<=l
 ·exact i (Cc w s.P l h1) (fun w1 h'=>mM h'.cur l (by omega))
 ·obtain⟨k,rfl⟩:∃k:Nat,l=(k:Int):=⟨l.toNat,by omega⟩;by_cases h2:k=0\/G s.ls < k
  ·exact i (lV h.Yo.Yo k (by omega) (Bs h h2)) (fun w1 h'=>mM h'.cur k (by omega))
  ·obtain⟨j,rfl⟩:∃j,k=j+1:=⟨k-1,by omega⟩;have f:j < G s.ls:=by omega
   cases hz:xx s.ls j s.ls[j]with
   | false=>exact i (lV h.Yo.Yo (j+1) (by omega) ((iz h f).trans hz)) (fun w1 h'=>th h'.cur d h.ctx.both.nested j f hz)
   | true=>
    obtain⟨b,x⟩:∃b,s.Yw[j+1]?=Q b:=⟨_,zJ (by omega)⟩;have F:∀w1,vX s.P s.B s.S s.cap s.X s.X s.jv s.jv (XY s.S s.n s.low (s.Yw.set (j+1) (!b))) w w1->Calls Tryz.prog 64 #[H (Q ⟨s.C,0,Z⟩),J U ((j:Int)+1)] w1 fun e w'=>e=T (E #[A (!b),J U 0])/\YJ s { s with Yw:=s.Yw.set (j+1) (!b) } w w':=fun w1 hA=>by
     refine(tg (h.Eu hA) d h.ctx.both.nested j f hz (by rw[jw];omega) b (by rw[List.getElem?_take,zE (by omega)];exact x)).mono ?_;rintro e w2 ⟨z,y⟩;rw[<-List.take_set]at y;exact⟨z,h.act hA h.Yo.ok ⟨h.Bb.Gc,h.Bb.lo,h.Bb.hi,by rw[jD];exact o⟩ y h.le (by omega)⟩
    exact(ss h j b (Ag h.Yo.Yo o (j+1) (by omega) ((iz h f).trans hz) b x) F).mono (fun e w' hh=>⟨hh.1,_,hh.2⟩)
end
structure WI (w:World) (S0:Nat) (pv lv:Value) (vs:List Value) (prs:List mU) (tag:Nat->Nat):Prop where
 lg:LG w S0 pv lv vs
 ps:w.ownsRow (S0+1) 36 1 pv prs.length (prs.map (fun s=>Value.pointer (some ⟨s.q,0,none⟩)))
 each:∀i (h:i < prs.length),vf w prs[i]
 tags:∀i (h:i < prs.length),∀k∈rV prs[i],tag k=i+1/\S0 < k
 Ce:∀k,lv.ownBlock=some k->tag k=0
 FP:∀k,pv.ownBlock=some k->tag k=0
 GR:∀i (h:i < vs.length) k,vs[i].ownBlock=some k->tag k=0
section
variable {w w':World} {S0:Nat} {pv lv:Value} {vs:List Value} {prs:List mU} {tag:Nat -> Nat}
theorem WI.zP (h:WI w S0 pv lv vs prs tag) (d:Below w.heap.size w w'):WI w' S0 pv lv vs prs tag:=
 ⟨h.lg.zP d,yG h.ps d,fun i hi=>(h.each i hi).zP d,h.tags,h.Ce,h.FP,h.GR⟩
theorem LG.stay (h:LG w S0 pv lv vs) (j:w'.heap[S0]?=w.heap[S0]?) (f:∀k,lv.ownBlock=Q k->w'.heap[k]?=w.heap[k]?) (d:∀i (h:i < G vs) k,vs[i].ownBlock=Q k->w'.heap[k]?=w.heap[k]?):LG w' S0 pv lv vs:=by
 refine⟨j.trans h.block,yP h.own f,fun i hi=>?_⟩;rcases h.each i hi with e | ⟨g,c,e,hc,ho⟩
 ·exact Or.inl e
 ·exact Or.inr ⟨g,c,e,hc,yP ho (d i hi)⟩
theorem WI.act (h:WI w S0 pv lv vs prs tag) {i:Nat} (y:i < G prs) {s':mU} (hA:YJ prs[i] s' w w'):WI w' S0 pv lv vs (prs.set i s') (fun k=>if k < w.heap.size then tag k else i+1)/\Below S0 w w':=by
 have d:∀k,k < w.heap.size->tag k≠i+1->w'.heap[k]?=w.heap[k]?:=fun k hk ht=>hA.block k hk (fun hm=>ht (h.tags i y k hm).1);have A:w'.heap[S0]?=w.heap[S0]?:=hA.block S0 (zQ h.lg.block) (fun hm=>by have:=(h.tags i y S0 hm).2;omega);have x:∀k,lv.ownBlock=Q k->k < w.heap.size:=fun k e=>(h.lg.own.lt k e).2;have o:∀k,pv.ownBlock=Q k->k < w.heap.size:=fun k e=>(h.ps.lt k e).2;have f:∀j (hj:j < G vs) k,vs[j].ownBlock=Q k->k < w.heap.size:=fun j hj k e=>(h.lg.lt j hj k e).2;have z:(prs.set i s').map (fun s=>Value.pointer (Q ⟨s.q,0,Z⟩))=prs.map (fun s=>Value.pointer (Q ⟨s.q,0,Z⟩)):=by
  apply qw
  ·simp
  ·intro j h1 D;simp only[qc,Zq];split
   ·next e=>subst e;rw[hA.q]
   ·rfl
 refine⟨⟨h.lg.stay A (fun k e=>d k (x k e) (by rw[h.Ce k e];omega)) (fun j hj k e=>d k (f j hj k e) (by rw[h.GR j hj k e];omega)),?_,fun j hj=>?_,fun j hj k hk=>?_,fun k e=>by simp only[zE (x k e)];exact h.Ce k e,fun k e=>by simp only[zE (o k e)];exact h.FP k e,fun j hj k e=>by simp only[zE (f j hj k e)];exact h.GR j hj k e⟩,⟨hA.os,hA.tape,hA.output,hA.size,fun k hk=>hA.block k (by have:=zQ h.lg.block;omega) (fun hm=>by have:=(h.tags i y k hm).2;omega)⟩⟩
 ·rw[z,jD];exact yP h.ps (fun k e=>d k (o k e) (by rw[h.FP k e];omega))
 ·rw[jD]at hj;rw[Zq];split
  ·exact hA.ok
  ·next e=>
   refine(h.each j hj).stay hA.size (fun k hk=>d k ((h.each j hj).lt hk) (by rw[(h.tags j hj k hk).1];omega)) hA.kept
 ·rw[jD]at hj;rw[Zq]at hk;split at hk
  ·next e=>
   subst e;rcases hA.own k hk with h1 | h1
   ·simp only[zE ((h.each i y).lt h1)];exact h.tags i y k h1
   ·have:=zQ h.lg.block;rw[zA (by omega)];exact⟨rfl,by omega⟩
  ·simp only[zE ((h.each j hj).lt hk)];exact h.tags j hj k hk
theorem oU (h:LG w S0 pv lv vs) {e:Ending} (j:w.ownsRow (S0+1) 3 1 v n xs) (o:GO S0 pv lv vs v w e w') (f:Dr t) (i:qm w k t):w'.heap[k]?=w.heap[k]?:=by
 have d:∀u,qm w k u->eF u->False:=fun u h1 h2=>by
  rw[i.one h1]at f;exact h2.CU f
 exact o.2.2.1 k i.lt (fun e=>d _ (by rw[e];exact qm.intro h.block) (by simp[eF])) (fun e=>d _ (yW h.own e) (by simp[eF])) (fun e=>d _ (yW j e) (by simp[eF]))
theorem WI.own (h:WI w S0 pv lv vs prs tag) {v:Value} {e:Ending} {n:Nat} {xs:List Value} (o:w.ownsRow (S0+1) 3 1 v n xs) (D:∀k,v.ownBlock=Q k->tag k=0) (H:GO S0 pv lv vs v w e w'):∃lv' v' tag',WI w' S0 pv lv' (vs++[v']) prs tag'/\v'.ownBlock=v.ownBlock/\∀g,lv'.ownBlock=Q g->lv.ownBlock=Q g\/w.heap.size<=g:=by
 have y:∀k t,Dr t->qm w k t->w'.heap[k]?=w.heap[k]?:=fun k t ht hk=>oU h.lg o H ht hk;obtain⟨_,J,z,lv',v',I,f,hlo⟩:=H;have F:=zQ h.lg.block;have x:∀k,lv.ownBlock=Q k->k < w.heap.size:=fun k e=>(h.lg.own.lt k e).2;have j:∀k,v.ownBlock=Q k->k < w.heap.size:=fun k e=>(o.lt k e).2;have d:∀k,k < w.heap.size->¬(k=S0\/lv.ownBlock=Q k\/v.ownBlock=Q k)->w'.heap[k]?=w.heap[k]?:=fun k hk hn=>z k hk (fun e=>hn (Or.inl e)) (fun e=>hn (Or.inr (Or.inl e))) (fun e=>hn (Or.inr (Or.inr e)));refine⟨lv',v',fun k=>if k < w.heap.size then tag k else 0,⟨I,?_,fun i hi=>?_,fun i hi k hk=>?_,fun k e=>?_,fun k e=>?_,fun i hi k e=>?_⟩,f,hlo⟩
 ·refine yP h.ps (fun k e=>d k (h.ps.lt k e).2 (fun hc=>?_));rcases hc with rfl | e2 | e2
  ·have:=(h.ps.lt k e).1;omega
  ·obtain⟨M,h1⟩:=yW h.ps e;obtain⟨L,A⟩:=yW h.lg.own e2;exact absurd ((qm.intro h1).one (qm.intro A)) (by decide)
  ·obtain⟨M,h1⟩:=yW h.ps e;obtain⟨L,A⟩:=yW o e2;exact absurd ((qm.intro h1).one (qm.intro A)) (by decide)
 ·refine(h.each i hi).stay J.size (fun k hk=>d k ((h.each i hi).lt hk) (fun hc=>?_)) y;have h1:=h.tags i hi k hk;rcases hc with e | e | e
  ·omega
  ·have:=h.Ce k e;omega
  ·have:=D k e;omega
 ·simp only[zE ((h.each i hi).lt hk)];exact h.tags i hi k hk
 ·rcases hlo k e with h1 | h1
  ·simp only[zE (x k h1)];exact h.Ce k h1
  ·rw[zA (by omega)]
 ·simp only[zE (h.ps.lt k e).2];exact h.FP k e
 ·by_cases hiv:i < G vs
  ·rw[xI hiv]at e;simp only[zE (h.lg.lt i hiv k e).2];exact h.GR i hiv k e
  ·have:i=G vs:=by simp at hi;omega
   subst this;rw[xm (zB _)]at e;simp only[jC,zv]at e;rw[f]at e;simp only[zE (j k e)];exact D k e
end
section
variable {w w1 w2:World} {S0:Nat} {pv lv pv':Value} {vs:List Value} {prs:List mU} {tag:Nat -> Nat} {s:mU}
open Classical in
theorem WI.push (h:WI w S0 pv lv vs prs tag) (I:vf w s) (z:∀k∈rV s,S0 < k/\lv.ownBlock≠Q k/\pv.ownBlock≠Q k/\(∀i (hi:i < G vs),vs[i].ownBlock≠Q k)/\∀i (hi:i < G prs),k∉rV prs[i]) (o:Below w.heap.size w w1) (A:w1.grownBy w2 pv.ownBlock) (N:w2.ownsRow (S0+1) 36 1 pv' (G prs+1) (prs.map (fun s=>Value.pointer (Q ⟨s.q,0,Z⟩))++[H (Q ⟨s.q,0,Z⟩)])) (hat:∀k,pv'.ownBlock=Q k->pv.ownBlock=Q k\/w.heap.size<=k):(∃tag',WI (w2.setCell ⟨S0,0,Z⟩ pv') S0 pv' lv vs (prs++[s]) tag')/\Below S0 w (w2.setCell ⟨S0,0,Z⟩ pv'):=by
 have F:=zQ h.lg.block;have J:pv.ownBlock≠Q S0:=fun e=>by have:=(h.ps.lt S0 e).1;omega
 have j:∀k,k≠S0->(w2.setCell ⟨S0,0,Z⟩ pv').heap[k]?=w2.heap[k]?:=fun k hk=>zO w2 ⟨S0,0,Z⟩ _ k hk;have hk:∀k,k < w.heap.size->k≠S0->pv.ownBlock≠Q k->(w2.setCell ⟨S0,0,Z⟩ pv').heap[k]?=w.heap[k]?:=fun k hk h1 h2=>(j k h1).trans ((A.block k (zX hk o.size) (xK h2)).trans (o.block k hk));have M:w2.heap[S0]?=Q (V #[pv,lv] 30 (0,0)):=(A.block S0 (zX F o.size) (xK J)).trans (zU h.lg.block o);have x:w.heap.size<=(w2.setCell ⟨S0,0,Z⟩ pv').heap.size:=by
  have h1:=o.size;have h2:=A.size;simp[World.setCell];omega
 have D:∀k t,Dr t->qm w k t->(w2.setCell ⟨S0,0,Z⟩ pv').heap[k]?=w.heap[k]?:=fun k t ht hk'=>hk k hk'.lt (fun e=>by
  have:=hk'.one (by rw[e];exact qm.intro h.lg.block);rw[this]at ht;exact(show eF 30 by simp[eF]).CU ht) (fun e=>by
  obtain⟨c,hc⟩:=yW h.ps e;have:=hk'.one (qm.intro hc);rw[this]at ht;exact(show eF 36 by simp[eF]).CU ht)
 have f:∀k,lv.ownBlock=Q k->k < w.heap.size/\k≠S0/\pv.ownBlock≠Q k:=fun k e=>⟨(h.lg.own.lt k e).2,by have:=(h.lg.own.lt k e).1;omega,fun e2=>by
  obtain⟨R,h1⟩:=yW h.ps e2;obtain⟨O,h2⟩:=yW h.lg.own e;exact absurd ((qm.intro h1).one (qm.intro h2)) (by decide)⟩
 have d:∀i (hi:i < G vs) k,vs[i].ownBlock=Q k->k < w.heap.size/\k≠S0/\pv.ownBlock≠Q k:=fun i hi k e=>⟨(h.lg.lt i hi k e).2,by have:=(h.lg.lt i hi k e).1;omega,fun e2=>by
  obtain⟨R,h1⟩:=yW h.ps e2;rcases h.lg.each i hi with e3 | ⟨g,c,e3,_,hr⟩
  ·rw[e3]at e;cases e
  ·obtain⟨O,h2⟩:=yW hr e;exact absurd ((qm.intro h1).one (qm.intro h2)) (by decide)⟩
 refine⟨⟨fun k=>if k∈rV s then G prs+1 else if k < w.heap.size then tag k else 0,⟨?_,yP ?_ (fun k e=>j k ?_),fun i hi=>?_,fun i hi k hm=>?_,fun k e=>?_,fun k e=>?_,fun i hi k e=>?_⟩⟩,?_⟩
 ·have L:=zf M 0 pv';refine⟨by simpa using L,yP h.lg.own (fun k e=>hk k (f k e).1 (f k e).2.1 (f k e).2.2),fun i hi=>?_⟩;rcases h.lg.each i hi with e | ⟨g,c,e,hc,hr⟩
  ·exact Or.inl e
  ·exact Or.inr ⟨g,c,e,hc,yP hr (fun k e=>hk k (d i hi k e).1 (d i hi k e).2.1 (d i hi k e).2.2)⟩
 ·rw[ze,yl,yB];exact N
 ·have:=(N.lt k e).1;omega
 ·by_cases hiv:i < G prs
  ·rw[xI hiv];refine(h.each i hiv).stay x (fun k hm=>hk k ((h.each i hiv).lt hm) (by have:=(h.tags i hiv k hm).2;omega) (fun e=>?_)) D;have h1:=(h.tags i hiv k hm).1;have h2:=h.FP k e;omega
  ·have:i=G prs:=by simp at hi;omega
   subst this;rw[xm (zB _)];simp only[jC,zv];exact I.stay x (fun k hm=>hk k (I.lt hm) (by have:=(z k hm).1;omega) (z k hm).2.2.1) D
 ·by_cases hiv:i < G prs
  ·rw[xI hiv]at hm;have y:k∉rV s:=fun hc=>(z k hc).2.2.2.2 i hiv hm;simp only[zA y,zE ((h.each i hiv).lt hm)];exact h.tags i hiv k hm
  ·have:i=G prs:=by simp at hi;omega
   subst this;rw[xm (zB _)]at hm;simp only[jC,zv]at hm;simp only[zE hm];exact⟨trivial,(z k hm).1⟩
 ·have y:k∉rV s:=fun hc=>(z k hc).2.1 e;simp only[zA y,zE (f k e).1];exact h.Ce k e
 ·have y:k∉rV s:=fun hc=>by
   rcases hat k e with h1 | h1
   ·exact(z k hc).2.2.1 h1
   ·have:=I.lt hc;omega
  simp only[zA y];rcases hat k e with h1 | h1
  ·simp only[zE (h.ps.lt k h1).2];exact h.FP k h1
  ·rw[zA (by omega)]
 ·have y:k∉rV s:=fun hc=>(z k hc).2.2.2.1 i hi e;simp only[zA y,zE (d i hi k e).1];exact h.GR i hi k e
 ·exact⟨A.os.trans o.os,A.tape.trans o.tape,A.output.trans o.output,x,fun k hk'=>hk k (by omega) (by omega) (fun e=>by have:=(h.ps.lt k e).1;omega)⟩
end
end
end Go.Proofs.YthleadfkfnnadaaGreat
