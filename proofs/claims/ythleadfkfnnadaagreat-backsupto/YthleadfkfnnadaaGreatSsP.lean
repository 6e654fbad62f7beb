/- What a session holds: Count, Held. -/
import Derived.Test.YthleadfkfnnadaaGreatSeA
set_option maxHeartbeats 4000000
set_option maxRecDepth 100000
set_option linter.unusedSimpArgs false
namespace Go.Proofs.YthleadfkfnnadaaGreat
open Rt Go.Proofs.Tryz
open Go.RowKit
attribute [local go_sem ↓] Go.wp_at_zero Go.wp_at_succ
variable {cap:Int} {tail:List Value} {X:ZK} {M B n P:Nat} {m:Rt.Mc} {s:Se} {S:Rt.Src} {ty:TypeId} {jv:Value} {w w1:World}
theorem dropFrame_all (h:jz w M B ty tail S m X) (f:m.zH.length<=1000):Calls Tryz.prog 184 #[.pointer (some ⟨M,0,none⟩)] w fun e w'=>e=.returned (.tuple #[])/\∃X',Z8 M B ty tail S X X' { m with zH:=m.zH.dropLast } w w':=by
 by_cases h0:m.zH=[]
 ·have k:=h.c2;obtain⟨j,i,d⟩:=zK h.zH;rw[d,h0]at k;have o:=zD (show Z8 M B ty tail S X X { m with zH:=m.zH.dropLast } w w by
   have e:m.zH.dropLast=m.zH:=by rw[h0];rfl
   rw[e];exact Z8.start h (zI _ _))
  clear h d;go_enter func184,ntmps184;go_wp2_with fail;go_end0;exact⟨rfl,_,o.u⟩
 ·exact iq h m.zH.dropLast (m.zH.getLast h0) (xj h0).symm f
theorem addPar_last (m:Rt.Mc) (d:List Rt.Fm) (f:Rt.Fm) (h:m.zH=d++[f]) (x:Int):G9 m x={ m with zH:=d++[⟨f.params++[x],f.call⟩] }:=by
 unfold G9;rw[h];congr 1;rw[ze,yl,zu,Hh]
theorem addParam_all (h:jz w M B ty tail S m X) (k:dL S m) (x:Int) (j:∀f∈m.zH,f.params.length<=900):Calls Tryz.prog 212 #[.pointer (some ⟨M,0,none⟩),.int .i64 x] w fun e w'=>e=.returned (.tuple #[])/\∃X',Z8 M B ty tail S X X' (G9 m x) w w':=by
 by_cases h0:m.zH=[]
 ·have y:=h.c2;obtain⟨o,i,d⟩:=zK h.zH;rw[d,h0]at y;have z:=zD (show Z8 M B ty tail S X X (G9 m x) w w by
   have e:G9 m x=m:=by unfold G9;rw[h0];rw[List.modify_nil];rw[<-h0]
   rw[e];exact Z8.start h (zI _ _))
  clear h d;go_enter func212,ntmps212;go_wp2_with fail;refine zT (results_none rfl _ _ _) rfl ?_;exact⟨rfl,_,z.u⟩
 ·rw[addPar_last m m.zH.dropLast (m.zH.getLast h0) (xj h0).symm x];exact addParam_any h k x m.zH.dropLast (m.zH.getLast h0) (xj h0).symm (j _ (JV h0))
theorem jz.back (h:jz w M B ty tail S m X) (l:Int):Z8 M B ty tail S X X { m with line:=l,fin:=0 } w ((w.setCell ⟨M,6,none⟩ (.int .i64 l)).setCell ⟨M,7,none⟩ (.int .i64 0)):=by
 have d:=h.step (w1:=w) (m':={ m with line:=l }) (X':=X) (zB _) rfl (fun _ _ hx _=>hx) 6 (.int .i64 l) (by simp[xC]) h.own rfl rfl h.fl h.vl;have f:=d.step (w1:=w.setCell ⟨M,6,none⟩ (.int .i64 l)) (m':={ m with line:=l,fin:=0 }) (X':=X) (zB _) rfl (fun _ _ hx _=>hx) 7 (.int .i64 0) (by simp[xC]) d.own rfl rfl h.fl h.vl;exact⟨f,VM.B5 (VM.B5 (VM.jQ _ (zI _ _)) _ _) _ _,vd.refl _ _,zQ h.block⟩
theorem jz.takenS (h:jz w M B ty tail S m X) (t:Int):Z8 M B ty tail S X X { m with taken:=t } w (w.setCell ⟨M,4,none⟩ (.int .i64 t)):=by
 have d:=h.step (w1:=w) (m':={ m with taken:=t }) (X':=X) (zB _) rfl (fun _ _ hx _=>hx) 4 (.int .i64 t) (by simp[xC]) h.own rfl rfl h.fl h.vl;exact⟨d,VM.B5 (VM.jQ _ (zI _ _)) _ _,vd.refl _ _,zQ h.block⟩
theorem Z8.trans {m2:Rt.Mc} {X1 X2:ZK} {w2:World} (h:Z8 M B ty tail S X X1 m w w1) (g:Z8 M B ty tail S X1 X2 m2 w1 w2):Z8 M B ty tail S X X2 m2 w w2:=h.more g.mc g.vz g.grow
abbrev G6 (r:Rt.Rec):Array Value:=#[.int .i64 r.kind,.int .i64 r.line,.int .i64 r.at_.line,.int .i64 r.at_.cell,.int .i64 r.value]
def UndP (M B:Nat) (ty:TypeId) (tail:List Value) (S:Rt.Src) (X:ZK) (m':Rt.Mc) (w:World) (e:Ending) (w':World):Prop:=e=.returned (.tuple #[])/\∃X',Z8 M B ty tail S X X' m' w w'
theorem undo_stayed (h:jz w M B ty tail S m X) (G:dL S m) (D:∀f∈m.zH,f.params.length<=900) (j o x rv:Int):Calls Tryz.prog 190 #[.pointer (some ⟨M,0,none⟩),.agg (G6 ⟨1,j,⟨o,x⟩,rv⟩)] w (UndP M B ty tail S X (G3 m ⟨1,j,⟨o,x⟩,rv⟩) w):=by
 have k:=(zI w.heap.size w).alloc (zB _) (.cells (G6 ⟨1,j,⟨o,x⟩,rv⟩) 162);have J:=zN w (.cells (G6 ⟨1,j,⟨o,x⟩,rv⟩) 162);have I:=h.zP k;have H:=zQ h.block;have A:=DA h I k G D;clear h I k G D;go_enter func190,ntmps190;go_wp2_with fail;refine(tn _ ⟨1,j,⟨o,x⟩,rv⟩).mono ?_;rintro e w1 ⟨rfl,i⟩;rw[show jt ⟨1,j,⟨o,x⟩,rv⟩=true from rfl];have y:=A.u.2.1.zP i;have d:=zU J i;have z:=Z8.start A.u.1 (A.u.2.2.1.trans (i.mono (B':=w.heap.size) (by simp)));have V:w1.cell? ⟨w.heap.size,0,none⟩=some (.int .i64 1):=by have:=zC d 0 (by simp);simpa using this
 have U:w1.cell? ⟨w.heap.size,1,none⟩=some (.int .i64 j):=by have:=zC d 1 (by simp);simpa using this
 have T:w1.cell? ⟨w.heap.size,2,none⟩=some (.int .i64 o):=by have:=zC d 2 (by simp);simpa using this
 have R:w1.cell? ⟨w.heap.size,3,none⟩=some (.int .i64 x):=by have:=zC d 3 (by simp);simpa using this
 have O:w1.cell? ⟨w.heap.size,4,none⟩=some (.int .i64 rv):=by have:=zC d 4 (by simp);simpa using this
 have L:¬w.heap.size=M:=by omega
 have F:¬M=w.heap.size:=by omega
 have c6:=y.c6;have c7:=y.c7;have Z:=y.fz 6;have W:=y.fz 7;have N:=zD (z.trans (y.back j));clear y i d J z;go_wp2_with fail;go_end0;exact⟨rfl,_,N.u⟩
theorem undo_entered (h:jz w M B ty tail S m X) (H:dL S m) (F:∀f∈m.zH,f.params.length<=900) (j o x rv:Int):Calls Tryz.prog 190 #[.pointer (some ⟨M,0,none⟩),.agg (G6 ⟨2,j,⟨o,x⟩,rv⟩)] w (UndP M B ty tail S X (G3 m ⟨2,j,⟨o,x⟩,rv⟩) w):=by
 have k:=(zI w.heap.size w).alloc (zB _) (.cells (G6 ⟨2,j,⟨o,x⟩,rv⟩) 162);have L:=zN w (.cells (G6 ⟨2,j,⟨o,x⟩,rv⟩) 162);have J:=h.zP k;have I:=zQ h.block;have D:=DA h J k H F;clear h J k H F;go_enter func190,ntmps190;go_wp2_with fail;refine(tn _ ⟨2,j,⟨o,x⟩,rv⟩).mono ?_;rintro e w1 ⟨rfl,i⟩;rw[show jt ⟨2,j,⟨o,x⟩,rv⟩=true from rfl];have y:=D.u.2.1.zP i;have d:=zU L i;have A:=Z8.start D.u.1 (D.u.2.2.1.trans (i.mono (B':=w.heap.size) (by simp)));have Z:w1.cell? ⟨w.heap.size,0,none⟩=some (.int .i64 2):=by have:=zC d 0 (by simp);simpa using this
 have W:w1.cell? ⟨w.heap.size,1,none⟩=some (.int .i64 j):=by have:=zC d 1 (by simp);simpa using this
 have V:w1.cell? ⟨w.heap.size,2,none⟩=some (.int .i64 o):=by have:=zC d 2 (by simp);simpa using this
 have U:w1.cell? ⟨w.heap.size,3,none⟩=some (.int .i64 x):=by have:=zC d 3 (by simp);simpa using this
 have T:w1.cell? ⟨w.heap.size,4,none⟩=some (.int .i64 rv):=by have:=zC d 4 (by simp);simpa using this
 have O:¬w.heap.size=M:=by omega
 have G:¬M=w.heap.size:=by omega
 have c6:=y.c6;have c7:=y.c7;have f6:=y.fz 6;have f7:=y.fz 7;have N:=zD (A.trans (y.back j));clear y i d L A;go_wp2_with fail;refine(dropFrame_all N.u.mc D.u.2.2.2.1.zH).mono ?_;rintro e w2 ⟨rfl,X2,z⟩;have R:=zD (N.u.trans z);clear z;go_wp2_with fail;go_end0;exact⟨rfl,_,R.u⟩
theorem undo_stored3 (h:jz w M B ty tail S m X) (F:dL S m) (A:∀f∈m.zH,f.params.length<=900) (o j k rv:Int):Calls Tryz.prog 190 #[.pointer (some ⟨M,0,none⟩),.agg (G6 ⟨4,o,⟨j,k⟩,rv⟩)] w (UndP M B ty tail S X (G3 m ⟨4,o,⟨j,k⟩,rv⟩) w):=by
 have x:=(zI w.heap.size w).alloc (zB _) (.cells (G6 ⟨4,o,⟨j,k⟩,rv⟩) 162);have L:=zN w (.cells (G6 ⟨4,o,⟨j,k⟩,rv⟩) 162);have I:=h.zP x;have H:=zQ h.block;have z:=DA h I x F A;clear h I x F A;go_enter func190,ntmps190;go_wp2_with fail;refine(tn _ ⟨4,o,⟨j,k⟩,rv⟩).mono ?_;rintro e w1 ⟨rfl,i⟩;rw[show jt ⟨4,o,⟨j,k⟩,rv⟩=false from rfl];have J:=z.u.2.1.zP i;have d:=zU L i;have y:=Z8.start z.u.1 (z.u.2.2.1.trans (i.mono (B':=w.heap.size) (by simp)));have Z:w1.cell? ⟨w.heap.size,0,none⟩=some (.int .i64 4):=by have:=zC d 0 (by simp);simpa using this
 have W:w1.cell? ⟨w.heap.size,1,none⟩=some (.int .i64 o):=by have:=zC d 1 (by simp);simpa using this
 have V:w1.cell? ⟨w.heap.size,2,none⟩=some (.int .i64 j):=by have:=zC d 2 (by simp);simpa using this
 have U:w1.cell? ⟨w.heap.size,3,none⟩=some (.int .i64 k):=by have:=zC d 3 (by simp);simpa using this
 have T:w1.cell? ⟨w.heap.size,4,none⟩=some (.int .i64 rv):=by have:=zC d 4 (by simp);simpa using this
 have O:¬w.heap.size=M:=by omega
 have D:¬M=w.heap.size:=by omega
 have N:=qG y J;clear J i d L y;go_wp2_with fail;refine(EJ ⟨j,k⟩ rv N.u.2 z.u.2.2.2.1).mono ?_;rintro e w2 ⟨rfl,G⟩;have R:=zD (N.u.1.put G);clear G;go_wp2_with fail;go_end0;exact⟨rfl,_,R.u⟩
theorem undo_printed (h:jz w M B ty tail S m X) (G:dL S m) (D:∀f∈m.zH,f.params.length<=900) (j o x rv:Int):Calls Tryz.prog 190 #[.pointer (some ⟨M,0,none⟩),.agg (G6 ⟨5,j,⟨o,x⟩,rv⟩)] w (UndP M B ty tail S X (G3 m ⟨5,j,⟨o,x⟩,rv⟩) w):=by
 have k:=(zI w.heap.size w).alloc (zB _) (.cells (G6 ⟨5,j,⟨o,x⟩,rv⟩) 162);have L:=zN w (.cells (G6 ⟨5,j,⟨o,x⟩,rv⟩) 162);have I:=h.zP k;have H:=zQ h.block;have A:=DA h I k G D;clear h I k G D;go_enter func190,ntmps190;go_wp2_with fail;refine(tn _ ⟨5,j,⟨o,x⟩,rv⟩).mono ?_;rintro e w1 ⟨rfl,i⟩;rw[show jt ⟨5,j,⟨o,x⟩,rv⟩=false from rfl];have J:=A.u.2.1.zP i;have d:=zU L i;have z:=Z8.start A.u.1 (A.u.2.2.1.trans (i.mono (B':=w.heap.size) (by simp)));have Z:w1.cell? ⟨w.heap.size,0,none⟩=some (.int .i64 5):=by have:=zC d 0 (by simp);simpa using this
 have W:w1.cell? ⟨w.heap.size,1,none⟩=some (.int .i64 j):=by have:=zC d 1 (by simp);simpa using this
 have V:w1.cell? ⟨w.heap.size,2,none⟩=some (.int .i64 o):=by have:=zC d 2 (by simp);simpa using this
 have U:w1.cell? ⟨w.heap.size,3,none⟩=some (.int .i64 x):=by have:=zC d 3 (by simp);simpa using this
 have T:w1.cell? ⟨w.heap.size,4,none⟩=some (.int .i64 rv):=by have:=zC d 4 (by simp);simpa using this
 have O:¬w.heap.size=M:=by omega
 have F:¬M=w.heap.size:=by omega
 have N:=qG z J;clear J i d L z;go_wp2_with fail;refine(dropPrinted_any N.u.2 A.u.2.2.2.1.output).mono ?_;rintro e w2 ⟨rfl,X2,y⟩;have R:=zD (N.u.1.trans y);clear y;go_wp2_with fail;go_end0;exact⟨rfl,_,R.u⟩
theorem Hf (h:jz w M B ty tail S m X) (G:dL S m) (D:∀f∈m.zH,f.params.length<=900) (j o x rv:Int):Calls Tryz.prog 190 #[.pointer (some ⟨M,0,none⟩),.agg (G6 ⟨6,j,⟨o,x⟩,rv⟩)] w (UndP M B ty tail S X (G3 m ⟨6,j,⟨o,x⟩,rv⟩) w):=by
 have k:=(zI w.heap.size w).alloc (zB _) (.cells (G6 ⟨6,j,⟨o,x⟩,rv⟩) 162);have J:=zN w (.cells (G6 ⟨6,j,⟨o,x⟩,rv⟩) 162);have I:=h.zP k;have H:=zQ h.block;have A:=DA h I k G D;clear h I k G D;go_enter func190,ntmps190;go_wp2_with fail;refine(tn _ ⟨6,j,⟨o,x⟩,rv⟩).mono ?_;rintro e w1 ⟨rfl,i⟩;rw[show jt ⟨6,j,⟨o,x⟩,rv⟩=false from rfl];have z:=A.u.2.1.zP i;have d:=zU J i;have y:=Z8.start A.u.1 (A.u.2.2.1.trans (i.mono (B':=w.heap.size) (by simp)));have V:w1.cell? ⟨w.heap.size,0,none⟩=some (.int .i64 6):=by have:=zC d 0 (by simp);simpa using this
 have U:w1.cell? ⟨w.heap.size,1,none⟩=some (.int .i64 j):=by have:=zC d 1 (by simp);simpa using this
 have T:w1.cell? ⟨w.heap.size,2,none⟩=some (.int .i64 o):=by have:=zC d 2 (by simp);simpa using this
 have R:w1.cell? ⟨w.heap.size,3,none⟩=some (.int .i64 x):=by have:=zC d 3 (by simp);simpa using this
 have O:w1.cell? ⟨w.heap.size,4,none⟩=some (.int .i64 rv):=by have:=zC d 4 (by simp);simpa using this
 have L:¬w.heap.size=M:=by omega
 have F:¬M=w.heap.size:=by omega
 have Z:=z.c4;have W:=z.fz 4;have N:=zD (y.trans (z.takenS (wrap64 (m.taken-1))));clear z i d J y;go_wp2_with fail;go_end0;exact⟨rfl,_,N.u⟩
theorem undo_passed (h:jz w M B ty tail S m X) (G:dL S m) (D:∀f∈m.zH,f.params.length<=900) (j o x rv:Int):Calls Tryz.prog 190 #[.pointer (some ⟨M,0,none⟩),.agg (G6 ⟨7,j,⟨o,x⟩,rv⟩)] w (UndP M B ty tail S X (G3 m ⟨7,j,⟨o,x⟩,rv⟩) w):=by
 have k:=(zI w.heap.size w).alloc (zB _) (.cells (G6 ⟨7,j,⟨o,x⟩,rv⟩) 162);have L:=zN w (.cells (G6 ⟨7,j,⟨o,x⟩,rv⟩) 162);have I:=h.zP k;have H:=zQ h.block;have A:=DA h I k G D;clear h I k G D;go_enter func190,ntmps190;go_wp2_with fail;refine(tn _ ⟨7,j,⟨o,x⟩,rv⟩).mono ?_;rintro e w1 ⟨rfl,i⟩;rw[show jt ⟨7,j,⟨o,x⟩,rv⟩=false from rfl];have J:=A.u.2.1.zP i;have d:=zU L i;have z:=Z8.start A.u.1 (A.u.2.2.1.trans (i.mono (B':=w.heap.size) (by simp)));have Z:w1.cell? ⟨w.heap.size,0,none⟩=some (.int .i64 7):=by have:=zC d 0 (by simp);simpa using this
 have W:w1.cell? ⟨w.heap.size,1,none⟩=some (.int .i64 j):=by have:=zC d 1 (by simp);simpa using this
 have V:w1.cell? ⟨w.heap.size,2,none⟩=some (.int .i64 o):=by have:=zC d 2 (by simp);simpa using this
 have U:w1.cell? ⟨w.heap.size,3,none⟩=some (.int .i64 x):=by have:=zC d 3 (by simp);simpa using this
 have T:w1.cell? ⟨w.heap.size,4,none⟩=some (.int .i64 rv):=by have:=zC d 4 (by simp);simpa using this
 have O:¬w.heap.size=M:=by omega
 have F:¬M=w.heap.size:=by omega
 have N:=qG z J;clear J i d L z;go_wp2_with fail;refine(addParam_all N.u.2 A.u.2.2.2.1 rv A.u.2.2.2.2).mono ?_;rintro e w2 ⟨rfl,X2,y⟩;have R:=zD (N.u.1.trans y);clear y;go_wp2_with fail;go_end0;exact⟨rfl,_,R.u⟩
theorem jz.frameBack {wy:World} (h:jz w M B ty tail S m X) (i:Below w.heap.size w wy) (x:wy.grownBy w1 X.fv.ownBlock) (f:Int) (d:Value) (j:w1.ownsRow 0 153 2 d (m.zH.length+1) (fCells X.xg m.zH++[.slice none 0 0,.int .i64 f])) (o:∀g,d.ownBlock=some g->X.fv.ownBlock=some g\/w.heap.size<=g):jz (w1.setCell ⟨M,2,none⟩ d) M B ty tail S { m with zH:=m.zH++[⟨[],f⟩] } { X with fv:=d,xg:=X.xg++[.slice none 0 0] }/\VM w (w1.setCell ⟨M,2,none⟩ d) (M::Z4 X)/\vd w (Z4 X) (Z4 { X with fv:=d,xg:=X.xg++[.slice none 0 0] })/\w1.cell? ⟨M,2,none⟩=some X.fv/\w1.frozen? ⟨M,2,none⟩=false:=by
 obtain⟨A,z,y⟩:=h.A5 (zI _ w) i (.slice none 0 0) [] f (zW _ _ _ _) x d j o;have k:w1.heap[M]?=some (.cells (xC X m tail) ty (0,0)):=(x.block M (zX (zQ h.block) i.size) (fun e=>h.uk e.symm)).trans ((i.block M (zQ h.block)).trans h.block);refine⟨A,z,y,?_,zS k 2⟩;have:=zC k 2 (by simp[xC]);simpa[xC] using this
theorem undo_dropped (h:jz w M B ty tail S m X) (hm:dL S m) (hp:∀f∈m.zH,f.params.length<=900) (x F G rv:Int):Calls Tryz.prog 190 #[.pointer (some ⟨M,0,none⟩),.agg (G6 ⟨3,x,⟨F,G⟩,rv⟩)] w (UndP M B ty tail S X (G3 m ⟨3,x,⟨F,G⟩,rv⟩) w):=by
 obtain⟨j0,U,T,R,O⟩:=yi A0;have A:=(zI w.heap.size w).alloc (zB _) (.cells (G6 ⟨3,x,⟨F,G⟩,rv⟩) 162);have bR:=zN w (.cells (G6 ⟨3,x,⟨F,G⟩,rv⟩) 162);have hA:=h.zP A;have a1:=zQ h.block;have L:=DA h hA A hm hp;clear h hA A hm hp;go_enter func190,ntmps190;go_wp2_with fail;refine(tn _ ⟨3,x,⟨F,G⟩,rv⟩).mono ?_;rintro e w1 ⟨rfl,z⟩;rw[show jt ⟨3,x,⟨F,G⟩,rv⟩=true from rfl];have D:=L.u.2.1.zP z;have j:=zU bR z;have J:=Z8.start L.u.1 (L.u.2.2.1.trans (z.mono (B':=w.heap.size) (by simp)));have r0:w1.cell? ⟨w.heap.size,0,none⟩=some (.int .i64 3):=by have:=zC j 0 (by simp);simpa using this
 have r1:w1.cell? ⟨w.heap.size,1,none⟩=some (.int .i64 x):=by have:=zC j 1 (by simp);simpa using this
 have r2:w1.cell? ⟨w.heap.size,2,none⟩=some (.int .i64 F):=by have:=zC j 2 (by simp);simpa using this
 have r3:w1.cell? ⟨w.heap.size,3,none⟩=some (.int .i64 G):=by have:=zC j 3 (by simp);simpa using this
 have W:w1.cell? ⟨w.heap.size,4,none⟩=some (.int .i64 rv):=by have:=zC j 4 (by simp);simpa using this
 have a6:¬w.heap.size=M:=by omega
 have a0:¬M=w.heap.size:=by omega
 have c6:=D.c6;have c7:=D.c7;have f6:=D.fz 6;have f7:=D.fz 7;have H:=zD (J.trans (D.back x));have a3:=zQ D.block;clear D z j bR J;have a2:=zQ H.u.mc.block;go_wp2_with fail;have N:((w1.setCell ⟨M,6,none⟩ (.int .i64 x)).setCell ⟨M,7,none⟩ (.int .i64 0)).cell? ⟨w.heap.size,4,none⟩=some (.int .i64 rv):=by
  rw[xD _ _ _ _ (by simp),xD _ _ _ _ (by simp)];exact W
 clear r0 r1 r2 r3 W c6 c7 f6 f7;generalize (w1.setCell ⟨M,6,none⟩ (.int .i64 x)).setCell ⟨M,7,none⟩ (.int .i64 0)=w2 at *;obtain⟨a7,a4,y⟩:=zK H.u.mc.zH;have c2:=H.u.mc.c2;have i:=H.u.mc.zH;simp only at y c2 i;rw[y]at c2 i;have HO:=zD i;have V:=L.u.2.2.2.1.zH;have HV:=zD y;have a5:w.heap.size < w2.heap.size:=zt _ _ N;clear y i;go_region_law
  ((refine step_append_lies _ (by rfl) _ _ _ (by rfl) 0 153 j0 _ 2 32 underlying88 U T R O rfl (by omega) _ m.zH.length (fCells X.xg m.zH) (by rfl) ((HO.u.alloc _).drew) ⟨w2.heap.size,0,none⟩ 1 1 [.slice none 0 0,.int .i64 rv] (by rfl) (by rfl) (World.news_of_block (cs:=#[.slice none 0 0,.int .i64 rv]) (t:=153) (fr:=(0,0)) (zN w2 _)) (by simp[Value.oneCell']) (by omega) (by unfold maxLen;omega) (by omega) (zo _) (w2.heap.size+1) (by simp) ?_;intro g' cap' w4 o d hat I;rw[<-HV.u]at d hat;obtain⟨q1,q2,Z,q4,q5⟩:=H.u.mc.frameBack (((zI _ w2).alloc (zB _) _).drew) d rv (.slice (some ⟨g',0,none⟩) (m.zH.length+1) cap') o (fun k hk=>by simp[Value.ownBlock]at hk;subst hk;rcases hat with e | e;exact Or.inl e;exact Or.inr (by omega));have HF:=zD (H.u.more q1 q2 Z);clear q1 q2 Z o d hat I))
 all_goals
  go_wp2_with fail;go_end0;exact⟨rfl,_,HF.u⟩
theorem undo_else (h:jz w M B ty tail S m X) (R:dL S m) (N:∀f∈m.zH,f.params.length<=900) (d j o x rv:Int) (D:d≠1) (A:d≠2) (z:d≠3) (J:d≠4) (I:d≠5) (H:d≠6) (G:d≠7):Calls Tryz.prog 190 #[.pointer (some ⟨M,0,none⟩),.agg (G6 ⟨d,j,⟨o,x⟩,rv⟩)] w (UndP M B ty tail S X (G3 m ⟨d,j,⟨o,x⟩,rv⟩) w):=by
 have y:=(zI w.heap.size w).alloc (zB _) (.cells (G6 ⟨d,j,⟨o,x⟩,rv⟩) 162);have V:=zN w (.cells (G6 ⟨d,j,⟨o,x⟩,rv⟩) 162);have U:=h.zP y;have T:=zQ h.block;have L:=DA h U y R N;clear h U y R N;have z1:(d==1)=false:=by simpa using D
 have z2:(d==2)=false:=by simpa using A
 have z3:(d==3)=false:=by simpa using z
 have z4:(d==4)=false:=by simpa using J
 have z5:(d==5)=false:=by simpa using I
 have z6:(d==6)=false:=by simpa using H
 have z7:(d==7)=false:=by simpa using G
 have HE:=zD (show G3 m ⟨d,j,⟨o,x⟩,rv⟩=m by unfold G3 G8;simp[jt,D,A,z,J,I,H,G]);go_enter func190,ntmps190;go_wp2_with fail;refine(tn _ ⟨d,j,⟨o,x⟩,rv⟩).mono ?_;rintro e w1 ⟨rfl,k⟩;rw[show jt ⟨d,j,⟨o,x⟩,rv⟩=false by simp[jt,D,A,z]];have Z:=L.u.2.1.zP k;have i:=zU V k;have F:=Z8.start L.u.1 (L.u.2.2.1.trans (k.mono (B':=w.heap.size) (by simp)));have r0:w1.cell? ⟨w.heap.size,0,none⟩=some (.int .i64 d):=by have:=zC i 0 (by simp);simpa using this
 have r1:w1.cell? ⟨w.heap.size,1,none⟩=some (.int .i64 j):=by have:=zC i 1 (by simp);simpa using this
 have r2:w1.cell? ⟨w.heap.size,2,none⟩=some (.int .i64 o):=by have:=zC i 2 (by simp);simpa using this
 have r3:w1.cell? ⟨w.heap.size,3,none⟩=some (.int .i64 x):=by have:=zC i 3 (by simp);simpa using this
 have r4:w1.cell? ⟨w.heap.size,4,none⟩=some (.int .i64 rv):=by have:=zC i 4 (by simp);simpa using this
 have W:¬w.heap.size=M:=by omega
 have O:¬M=w.heap.size:=by omega
 have HX:=zD F;have HB:=zD (show jt ⟨d,j,⟨o,x⟩,rv⟩=false by simp[jt,D,A,z]);clear Z k i V F D A z J I H G;go_wp2_with fail;go_end0;exact⟨rfl,_,by rw[HE.u];exact HX.u⟩
theorem undo_any (h:jz w M B ty tail S m X) (j:dL S m) (i:∀f∈m.zH,f.params.length<=900) (r:Rt.Rec):Calls Tryz.prog 190 #[.pointer (some ⟨M,0,none⟩),.agg (G6 r)] w (UndP M B ty tail S X (G3 m r) w):=by
 obtain⟨rk,d,⟨k,o⟩,rv⟩:=r;by_cases k1:rk=1
 ·subst k1;exact undo_stayed h j i d k o rv
 by_cases k2:rk=2
 ·subst k2;exact undo_entered h j i d k o rv
 by_cases k3:rk=3
 ·subst k3;exact undo_dropped h j i d k o rv
 by_cases k4:rk=4
 ·subst k4;exact undo_stored3 h j i d k o rv
 by_cases k5:rk=5
 ·subst k5;exact undo_printed h j i d k o rv
 by_cases k6:rk=6
 ·subst k6;exact Hf h j i d k o rv
 by_cases k7:rk=7
 ·subst k7;exact undo_passed h j i d k o rv
 exact undo_else h j i rk d k o rv k1 k2 k3 k4 k5 k6 k7
structure Mid (S:Rt.Src) (m:Rt.Mc) (n:Nat):Prop where
 zL:S.zL.length<=101
 input:S.input.length<=100
 zH:m.zH.length<=n
 values:m.values.length<=101
 output:m.output.length<=1000
 params:∀f∈m.zH,f.params.length<=n
 cells:∀l∈m.values,l.length<=1000
 ZX:∀p∈S.zL,Rt.Small p.form
theorem Mid.Zi (h:Mid S m n) (d:n<=900):dL S m:=⟨h.zL,h.input,zi h.zH (by omega),h.values,h.output,fun f hf=>zi (h.params f hf) (by omega),h.cells,h.ZX⟩
theorem mid_of (h:XW S m) (d:iK m):Mid S m 10:=⟨h.Zi.zL,h.Zi.input,zi h.hi (by omega),h.Zi.values,h.Zi.output,fun f hf=>zi (d f hf) (by omega),h.Zi.cells,h.Zi.ZX⟩
theorem Mid.more {n':Nat} (h:Mid S m n) (d:n<=n'):Mid S m n':=⟨h.zL,h.input,zi h.zH d,h.values,h.output,fun f hf=>zi (h.params f hf) d,h.cells,h.ZX⟩
theorem Mid.put (h:Mid S m n) (s:Rt.Q9) (v:Int):Mid S (Rt.jN m s v) n:=by
 unfold Rt.jN;split
 ·split
  ·refine⟨h.zL,h.input,h.zH,by simpa using h.values,h.output,h.params,?_,h.ZX⟩;intro l f;obtain⟨i,d,rfl⟩:=List.getElem_of_mem f;simp only[YK]at d;rw[jW];split
   ·rw[jD];exact h.cells _ (zj d)
   ·exact h.cells _ (zj d)
  ·refine⟨h.zL,h.input,by simpa using h.zH,h.values,h.output,?_,h.cells,h.ZX⟩;intro l f;obtain⟨i,d,rfl⟩:=List.getElem_of_mem f;simp only[YK]at d;rw[jW];split
   ·simp only[jD];exact h.params _ (zj d)
   ·exact h.params _ (zj d)
 ·exact h
theorem Mid.back (h:Mid S m n) (r:Rt.Rec):Mid S (G8 m r) n:=by
 unfold G8;split
 ·exact⟨h.zL,h.input,h.zH,h.values,h.output,h.params,h.cells,h.ZX⟩
 ·exact h
theorem Mid.undo (h:Mid S m n) (r:Rt.Rec):Mid S (G3 m r) (n+1):=by
 have d:=(h.back r).more (Nat.le_succ n);have j:=h.back r;unfold G3;split
 ·exact⟨d.zL,d.input,by simp only[XU];have:=d.zH;omega,d.values,d.output,fun f hf=>d.params f (vL _ hf),d.cells,d.ZX⟩
 split
 ·refine⟨d.zL,d.input,by simp only[ze,yl];have:=j.zH;omega,d.values,d.output,?_,d.cells,d.ZX⟩;intro f hf;rcases zd.mp hf with hf | hf
  ·exact d.params f hf
  ·rw[yN.mp hf];exact zo _
 split
 ·exact d.put _ _
 split
 ·exact⟨d.zL,d.input,d.zH,d.values,by simp only[XU];have:=d.output;omega,d.params,d.cells,d.ZX⟩
 split
 ·exact⟨d.zL,d.input,d.zH,d.values,d.output,d.params,d.cells,d.ZX⟩
 split
 ·unfold G9;refine⟨d.zL,d.input,by simp only[YK];exact d.zH,d.values,d.output,?_,d.cells,d.ZX⟩;intro l o;obtain⟨i,k,rfl⟩:=List.getElem_of_mem o;simp only[YK]at k;simp only[jW];split
  ·simp only[ze,yl];have:=j.params _ (zj k);omega
  ·exact d.params _ (zj k)
 ·exact d
theorem undoM_take (m:Rt.Mc) (rs:List Rt.Rec) (k:Nat) (d:k < rs.length):Hb m (rs.take (k+1))=G3 (Hb m (rs.take k)) rs[k]:=by
 unfold Hb;rw[List.take_succ_eq_append_getElem d,List.foldl_append];rfl
theorem undoAll_any (h:jz w M B ty tail S m X) (y:ty≠162) (G:Mid S m 10) {rs:List Rt.Rec} (V:rs.length<=500) {B0:Nat} {sv:Value} (z:w.ownsRow B0 162 5 sv rs.length (xE rs)):Calls Tryz.prog 161 #[.pointer (some ⟨M,0,none⟩),sv] w (UndP M B ty tail S X (Hb m rs) w):=by
 obtain⟨ad,F,rfl⟩:=zK z;have J:=zQ h.block;have HH:=XX h (vr z) G;clear h z G;go_enter func161,ntmps161;go_wp2_with fail;go_loopw [4] (fun c wr=>∃(k:Nat) (X':ZK),k<=rs.length/\c=.int .i64 k/\Z8 M B ty tail S X X' (Hb m (rs.take k)) w wr/\Mid S (Hb m (rs.take k)) (10+k)) (fun c _=>rs.length-(intOf c).toNat)
 case atStart=>exact⟨0,X,zo _,rfl,Z8.start HH.u.1 (zI _ _),HH.u.2.2⟩
 case round=>
  obtain⟨k,X',Z,rfl,o,d⟩:=hrel;by_cases hlt:k < rs.length
  ·have U:(k:Int) < (rs.length:Int):=by omega
   have W:(0:Int)<=(k:Int):=by omega
   have i:=Z8.row HH.u.1 o HH.u.2.1 y;obtain⟨g,gc,I,H,_⟩:=yD i (j:=k*5) (u:=.int .i64 rs[k].kind) (by have:=VO rs k hlt 0 (by omega);simpa[YV] using this);simp at I;obtain⟨rfl,rfl⟩:=I;obtain⟨T,R,O,N,L⟩:=sB i k hlt;have HC:=gN (undo_any o.mc (d.Zi (by omega)) (fun f hf=>zi (d.params f hf) (by omega)) rs[k]) o (undoM_take m rs k hlt) (d.undo rs[k]);clear o d i;generalize rs[k]=r at *;go_wp2_with fail;refine HC.u.1.mono ?_;rintro e w2 ⟨rfl,X2,x⟩;have D:=zD (HC.u.2.1.trans x);clear x T R O N L;go_wp2_with fail;go_roundw
   case rel=>exact⟨k+1,X2,by omega,by go_num,by rw[HC.u.2.2.1];exact D.u,by rw[HC.u.2.2.1];exact HC.u.2.2.2⟩
   case measure=>simp[intOf];omega
  ·have A:k=rs.length:=by omega
   subst A;have U:¬(rs.length:Int) < (rs.length:Int):=by omega
   have D:=zD o;clear o d;go_wp2_with fail;go_end0;exact⟨rfl,_,by have:=D.u;rw[Zp]at this;exact this⟩
namespace Rt
def G2 (s:Se) (kind fuel d0 mv:Int):Int:=if ¬jS s kind d0 mv=0 then jS s kind d0 mv else if s.idx=0 then 5 else if s.idx=s.low then 6 else if fuel<=mv then 4 else 0
theorem Hc {s:Se} {kind fuel d0 mv:Int} (h:G2 s kind fuel d0 mv=0):s.idx≠0/\s.idx≠s.low/\mv < fuel:=by
 unfold G2 at h;split at h
 ·next hn=>exact absurd h hn
 ·split at h
  ·omega
  ·split at h
   ·omega
   ·split at h
    ·omega
    ·next a b c=>exact⟨a,b,by omega⟩
end Rt
theorem cells_row {jv':Value} {low idx:Int} {marks:List Bool}:(xC X m (vF cap jv low idx marks)).setIfInBounds 9 jv'=xC X m (vF cap jv' low idx marks):=by
 simp[xC,vF]
theorem takeBack_any (h:Zv w P B S cap s X jv) (N:Mid S s.m 10) (T:0 < s.YU.length) (hr:s.YU.length<=500):Calls Tryz.prog 114 #[.pointer (some ⟨P,0,none⟩)] w fun e w'=>e=.returned (.tuple #[])/\∃X' jv',vX P B S cap X X' jv jv' (Hg s) w w':=by
 have I:=zQ h.mc.block;have J:=qG h N;clear h N;go_enter func114,ntmps114;go_wp2_with fail;refine(withdraw_any J.u.1.jrS (by omega) T).mono ?_;rintro e w1 ⟨o,v,rfl,i,d,j,F⟩;rw[cells_row]at i;have f:=J.u.1.mc.ru J.u.1.jr d i.block;have D:=F;obtain⟨R,L,rfl⟩:=zK F;have Z:=zD (undoAll_any f (by decide) J.u.2 (by rw[xp];omega) D);have HA:=gN f i d j;clear f i d j F D;generalize (s.YU.drop (G5 s.YU)).length=rn at *;go_wp2_with fail;refine Z.u.mono ?_;rintro e w2 ⟨rfl,W,hA2⟩;obtain⟨f,i,d,j⟩:=HA.u;have z:=Z8.row f hA2 i.own (by decide);have x:o.ownBlock≠some P:=by rw[j];exact J.u.1.jrS.ne
 have V:w2.cell? ⟨P,11,none⟩=some (.int .i64 s.idx):=by
  have:=vj w2 P 11 _ _ _ hA2.mc.block;rw[this];simp[vF]
 have U:=zS hA2.mc.block 11;have A:KB P o w2 (w2.setCell ⟨P,11,none⟩ (.int .i64 (wrap64 (s.idx-1)))):=⟨rfl,rfl,rfl,by simp[World.setCell],fun k _ hp _=>zO _ _ _ _ hp⟩;have O:=zf hA2.mc.block 11 (.int .i64 (wrap64 (s.idx-1)));have y:=hA2.mc.ru (tail':=vF cap o s.low (wrap64 (s.idx-1)) s.marks) z A (by have:=O;simpa[xC,vF] using this);have H:=yP (w':=w2.setCell ⟨P,11,none⟩ (.int .i64 (wrap64 (s.idx-1)))) z (fun g hg=>zO _ _ _ _ (fun e=>x (by rw[hg,show g=P from e])));have HF:=zD (show vX P B S cap X W jv o (Hg s) w (w2.setCell ⟨P,11,none⟩ (.int .i64 (wrap64 (s.idx-1))))from by
  refine⟨⟨y,H⟩,⟨hA2.vz.os.trans d.os,hA2.vz.tape.trans d.tape,hA2.vz.output.trans d.output,zi d.size (zi hA2.vz.size A.size),?_⟩,?_,fun g hg=>Or.inl (by rw[<-j];exact hg),I⟩
  ·intro k hk M F;have G:k≠P:=fun e=>M (by rw[e];exact xB ..);rw[zO _ _ _ _ G,hA2.vz.block k (zX hk d.size) M];exact d.block k hk G F
  ·intro k hk;rcases hA2.grow k hk with e | e
   ·exact Or.inl e
   ·exact Or.inr (zi d.size e))
 clear f i d j z x A O y H hA2;go_wp2_with fail;go_end0;exact⟨rfl,_,_,HF.u⟩
theorem Ec (h:Zv w P B S cap s X jv):Calls Tryz.prog 102 #[.pointer (some ⟨P,8,none⟩)] w fun e w'=>e=.returned (.int .i64 s.low)/\w'=w:=by
 have d:=h.jrS.ud;clear h;go_enter func102,ntmps102;go_wp2;go_ret;exact⟨rfl,rfl⟩
theorem He (h:Zv w P B S cap s X jv) (J:s.marks.length=101) (d fuel j mv:Int):Calls Tryz.prog 113 #[.pointer (some ⟨P,0,none⟩),.agg (om d fuel j mv)] w fun e w'=>e=.returned (.int .i64 (G2 s d fuel j mv))/\Below w.heap.size w w':=by
 have A:=(zI w.heap.size w).alloc (zB _) (.cells (om d fuel j mv) 169);have I:=zN w (.cells (om d fuel j mv) 169);have x:=h.zP A;have G:=zD A;have HU:=zD (show G2 s d fuel j mv=if ¬jS s d j mv=0 then jS s d j mv else if s.idx=0 then 5 else if s.idx=s.low then 6 else if fuel<=mv then 4 else 0 from rfl);clear h A;go_enter func113,ntmps113;go_wp2_with fail;refine(rL x J d fuel j mv).mono ?_;rintro e w2 ⟨rfl,i⟩;have f:=zD (G.u.trans (i.mono G.u.size));have k:=x.zP i;have o:=zU I i;have N:w2.cell? ⟨w.heap.size,1,none⟩=some (.int .i64 fuel):=by have:=zC o 1 (by simp);simpa using this
 have M:w2.cell? ⟨w.heap.size,3,none⟩=some (.int .i64 mv):=by have:=zC o 3 (by simp);simpa using this
 have L:w2.cell? ⟨P,11,none⟩=some (.int .i64 s.idx):=by
  have:=vj w2 P 11 _ _ _ k.mc.block;rw[this];simp[vF]
 have F:=zD k;clear x i I o G k;generalize jS s d j mv=a at *;by_cases ha:a=0
 ·have D:(a != 0)=false:=by simpa using ha
  replace HU:=zD (HU.u.trans (zA (by simpa using ha)))
  clear ha;by_cases hi:s.idx=0
  ·have z:(s.idx==0)=true:=by simpa using hi
   replace HU:=zD (HU.u.trans (zE hi))
   clear hi;go_wp2;go_ret;exact⟨by rw[HU.u];rfl,f.u⟩
  ·have z:(s.idx==0)=false:=by simpa using hi
   replace HU:=zD (HU.u.trans (zA hi))
   clear hi;go_wp2_with fail;by_cases hl:s.idx=s.low
   ·have y:(s.idx==s.low)=true:=by simpa using hl
    replace HU:=zD (HU.u.trans (zE hl))
    clear hl;go_region_held3 (fun w'=>w'.cell? ⟨P,11,none⟩=some (.int .i64 s.idx)) (go_keep) (first | (go_at_call 102;refine(Ec (F.u.zP (zh _))).mono ?_;rintro e H ⟨rfl,rfl⟩))
    all_goals
     go_wp2;go_ret;exact⟨by rw[HU.u];rfl,f.u.drew⟩
   ·have y:(s.idx==s.low)=false:=by simpa using hl
    replace HU:=zD (HU.u.trans (zA hl))
    clear hl;by_cases hf:fuel<=mv
    ·replace HU:=zD (HU.u.trans (zE hf))
     go_region_held3 (fun w'=>w'.cell? ⟨P,11,none⟩=some (.int .i64 s.idx)) (go_keep) (first | (go_at_call 102;refine(Ec (F.u.zP (zh _))).mono ?_;rintro e H ⟨rfl,rfl⟩))
     all_goals
      go_wp2;go_ret;exact⟨by rw[HU.u];rfl,f.u.drew⟩
    ·replace HU:=zD (HU.u.trans (zA hf))
     go_region_held3 (fun w'=>w'.cell? ⟨P,11,none⟩=some (.int .i64 s.idx)) (go_keep) (first | (go_at_call 102;refine(Ec (F.u.zP (zh _))).mono ?_;rintro e H ⟨rfl,rfl⟩))
     all_goals
      go_wp2;go_ret;exact⟨by rw[HU.u];rfl,f.u.drew⟩
 ·have D:(a != 0)=true:=by simpa using ha
  replace HU:=zD (HU.u.trans (zE (by simpa using ha)))
  clear ha;go_wp2;go_ret;exact⟨by rw[HU.u];rfl,f.u⟩
theorem BH (h:Zv w P B S cap s X jv):Calls Tryz.prog 103 #[.pointer (some ⟨P,8,none⟩)] w fun e w'=>e=.returned (.int .i64 (s.YU.length:Int))/\w'=w:=by
 have f:=h.jrS.k9;obtain⟨i,d,rfl⟩:=zK h.jr;clear h;go_enter func103,ntmps103;go_wp2;go_ret;exact⟨rfl,rfl⟩
theorem C9 (h:Zv w P B S cap s X jv):Calls Tryz.prog 61 #[.pointer (some ⟨P,0,none⟩)] w fun e w'=>e=.returned (.tuple #[.int .i64 s.low,.int .i64 (s.YU.length:Int)])/\w'=w:=by
 have d:=zD h;clear h;go_enter func61,ntmps61;go_wp2_with fail;refine(Ec d.u).mono ?_;rintro e w1 ⟨rfl,rfl⟩;go_wp2_with fail;refine(BH d.u).mono ?_;rintro e w2 ⟨rfl,rfl⟩;go_wp2_with fail;refine zT (v:=.tuple #[.int .i64 s.low,.int .i64 (s.YU.length:Int)]) ?_ rfl ⟨rfl,rfl⟩;simp[results,results61,go_sem]
end Go.Proofs.YthleadfkfnnadaaGreat
