/- The names of a program: checkNames. -/
import Derived.Test.YthleadfkfnnadaaGreatNames4
set_option maxHeartbeats 4000000
set_option maxRecDepth 100000
set_option linter.unusedSimpArgs false
namespace Go.Proofs.YthleadfkfnnadaaGreat
open Rt Go.Proofs.Tryz
open Go.RowKit
variable {cs:List (List Value)} {zL:List Rt.PL} {P c1 c2 c3:Nat} {a1 a2 a3:Option Addr} {pl:Rt.PL} {lv:Value} {w:World}
theorem ef {a b:Nat}:(((a:Int)==(b:Int)))=decide (a=b):=by rw[xO];simp;omega
theorem sn (n:Nat) (y:Option Addr) (x:Nat) (j i:Int) (h:qH w P zL lv cs) (f:zL.length<=101) (z:qk w (P+1) #[.int .i64 pl.form.kind,.string pl.form.name,.int .i64 pl.form.cells,.slice a1 pl.form.params.length c1,.slice a2 pl.form.index.length c2,.slice a3 pl.form.values.length c3] pl.form) (A:pl.form.kind=1):Calls Tryz.prog 127 #[.pointer (some ⟨P,0,none⟩),.int .i64 n,.agg #[.slice y pl.yY.length x,.int .i64 pl.form.kind,.string pl.form.name,.int .i64 pl.form.cells,.slice a1 pl.form.params.length c1,.slice a2 pl.form.index.length c2,.slice a3 pl.form.values.length c3,.int .i64 pl.depth,.int .i64 pl.opener,.int .i64 j,.int .i64 i,.int .i64 pl.proc]] w fun e w'=>e=.returned (.bool (Rt.qh zL n pl))/\Below w.heap.size w w':=by
 have d:=(zI w.heap.size w).alloc (zB _) (.cells #[.slice y pl.yY.length x,.int .i64 pl.form.kind,.string pl.form.name,.int .i64 pl.form.cells,.slice a1 pl.form.params.length c1,.slice a2 pl.form.index.length c2,.slice a3 pl.form.values.length c3,.int .i64 pl.depth,.int .i64 pl.opener,.int .i64 j,.int .i64 i,.int .i64 pl.proc] 145);have o:=zN w (.cells #[.slice y pl.yY.length x,.int .i64 pl.form.kind,.string pl.form.name,.int .i64 pl.form.cells,.slice a1 pl.form.params.length c1,.slice a2 pl.form.index.length c2,.slice a3 pl.form.values.length c3,.int .i64 pl.depth,.int .i64 pl.opener,.int .i64 j,.int .i64 i,.int .i64 pl.proc] 145);have D:=h.zP d;have k:=(xZ (B:=P+1) d).form z;clear h z;have F:=zD (show Rt.qh zL n pl=decide (Rt.xb zL pl.form.name=n) by unfold Rt.qh;rw[zE (by omega)]);have H:(pl.form.kind==1)=true:=by simpa using A
 clear A;go_enter func127,ntmps127;go_wp2_with fail;refine(vt pl.form.name D f).mono ?_;rintro e w1 ⟨rfl,rfl⟩;have G:=zD d;clear D k o d;go_wp2;go_ret;exact⟨by rw[F.u];exact yj (ef),G.u⟩
theorem sm (n:Nat) (y:Option Addr) (x:Nat) (j i:Int) (h:qH w P zL lv cs) (f:zL.length<=101) (z:qk w (P+1) #[.int .i64 pl.form.kind,.string pl.form.name,.int .i64 pl.form.cells,.slice a1 pl.form.params.length c1,.slice a2 pl.form.index.length c2,.slice a3 pl.form.values.length c3] pl.form) (D:¬pl.form.kind=1) (A:pl.form.kind=2):Calls Tryz.prog 127 #[.pointer (some ⟨P,0,none⟩),.int .i64 n,.agg #[.slice y pl.yY.length x,.int .i64 pl.form.kind,.string pl.form.name,.int .i64 pl.form.cells,.slice a1 pl.form.params.length c1,.slice a2 pl.form.index.length c2,.slice a3 pl.form.values.length c3,.int .i64 pl.depth,.int .i64 pl.opener,.int .i64 j,.int .i64 i,.int .i64 pl.proc]] w fun e w'=>e=.returned (.bool (Rt.qh zL n pl))/\Below w.heap.size w w':=by
 have d:=(zI w.heap.size w).alloc (zB _) (.cells #[.slice y pl.yY.length x,.int .i64 pl.form.kind,.string pl.form.name,.int .i64 pl.form.cells,.slice a1 pl.form.params.length c1,.slice a2 pl.form.index.length c2,.slice a3 pl.form.values.length c3,.int .i64 pl.depth,.int .i64 pl.opener,.int .i64 j,.int .i64 i,.int .i64 pl.proc] 145);have o:=zN w (.cells #[.slice y pl.yY.length x,.int .i64 pl.form.kind,.string pl.form.name,.int .i64 pl.form.cells,.slice a1 pl.form.params.length c1,.slice a2 pl.form.index.length c2,.slice a3 pl.form.values.length c3,.int .i64 pl.depth,.int .i64 pl.opener,.int .i64 j,.int .i64 i,.int .i64 pl.proc] 145);have F:=h.zP d;have k:=(xZ (B:=P+1) d).form z;clear h z;have G:=zD (show Rt.qh zL n pl=decide (Rt.xb zL pl.form.name=n) by unfold Rt.qh;rw[zE (by omega)]);have J:(pl.form.kind==1)=false:=by simpa using D
 have I:(pl.form.kind==2)=true:=by simpa using A
 clear D A;go_enter func127,ntmps127;go_wp2_with fail;refine(vt pl.form.name F f).mono ?_;rintro e w1 ⟨rfl,rfl⟩;have H:=zD d;clear F k o d;go_wp2;go_ret;exact⟨by rw[G.u];exact yj (ef),H.u⟩
theorem sl (n:Nat) (J:Option Addr) (I:Nat) (A z:Int) (h:qH w P zL lv cs) (f:zL.length<=101) (F:Rt.Small pl.form) (R:qk w (P+1) #[.int .i64 pl.form.kind,.string pl.form.name,.int .i64 pl.form.cells,.slice a1 pl.form.params.length c1,.slice a2 pl.form.index.length c2,.slice a3 pl.form.values.length c3] pl.form) (V:¬pl.form.kind=1) (U:¬pl.form.kind=2) (T:pl.form.kind=3):Calls Tryz.prog 127 #[.pointer (some ⟨P,0,none⟩),.int .i64 n,.agg #[.slice J pl.yY.length I,.int .i64 pl.form.kind,.string pl.form.name,.int .i64 pl.form.cells,.slice a1 pl.form.params.length c1,.slice a2 pl.form.index.length c2,.slice a3 pl.form.values.length c3,.int .i64 pl.depth,.int .i64 pl.opener,.int .i64 A,.int .i64 z,.int .i64 pl.proc]] w fun e w'=>e=.returned (.bool (Rt.qh zL n pl))/\Below w.heap.size w w':=by
 have d:=(zI w.heap.size w).alloc (zB _) (.cells #[.slice J pl.yY.length I,.int .i64 pl.form.kind,.string pl.form.name,.int .i64 pl.form.cells,.slice a1 pl.form.params.length c1,.slice a2 pl.form.index.length c2,.slice a3 pl.form.values.length c3,.int .i64 pl.depth,.int .i64 pl.opener,.int .i64 A,.int .i64 z,.int .i64 pl.proc] 145);have o:=zN w (.cells #[.slice J pl.yY.length I,.int .i64 pl.form.kind,.string pl.form.name,.int .i64 pl.form.cells,.slice a1 pl.form.params.length c1,.slice a2 pl.form.index.length c2,.slice a3 pl.form.values.length c3,.int .i64 pl.depth,.int .i64 pl.opener,.int .i64 A,.int .i64 z,.int .i64 pl.proc] 145);have x:=h.zP d;have G:=(xZ (B:=P+1) d).form R;clear h R;have y:=zD (show Rt.qh zL n pl=(decide (Rt.xb zL pl.form.name=n) && Rt.QJ pl.form) by unfold Rt.qh;rw[zA (by omega),zE (by omega)]);have b1:(pl.form.kind==1)=false:=by simpa using V
 have b2:(pl.form.kind==2)=false:=by simpa using U
 have b3:(pl.form.kind==3)=true:=by simpa using T
 clear V U T;obtain⟨Z,iv,vv,W,j,D,O,N,M⟩:=G;simp at j;obtain⟨rfl,rfl,rfl⟩:=j;by_cases hd:Rt.xb zL pl.form.name=n
 ·have H:(((Rt.xb zL pl.form.name:Nat):Int)==(n:Int))=true:=by rw[ef];simpa using hd
  have i:=zD (y.u.trans (by rw[hd];simp:_=Rt.QJ pl.form));clear hd y;go_enter func127,ntmps127;go_wp2_with fail;refine(vt pl.form.name x f).mono ?_;rintro e w1 ⟨rfl,rfl⟩;go_wp2_with fail;refine(ig a2 a3 c2 c3 D (zi F.params (by omega))).mono ?_;rintro e w2 ⟨rfl,k⟩;have L:=zD (d.trans (k.mono (B':=w.heap.size) (by simp)));clear x o d k D O N M;go_wp2;go_ret;exact⟨by rw[i.u];first | rfl | simp,L.u⟩
 ·have H:(((Rt.xb zL pl.form.name:Nat):Int)==(n:Int))=false:=by rw[ef];simpa using hd
  have i:=zD (y.u.trans (by simp[hd]:_=false));clear hd y;go_enter func127,ntmps127;go_wp2_with fail;refine(vt pl.form.name x f).mono ?_;rintro e w1 ⟨rfl,rfl⟩;have L:=zD d;clear x o d D O N M;go_wp2;go_ret;exact⟨by rw[i.u];first | rfl | simp,L.u⟩
theorem sk (n:Nat) (J:Option Addr) (I:Nat) (H G:Int) (h:qH w P zL lv cs) (o:zL.length<=101) (k:(Rt.yA zL pl.proc).params.length<=1000) (L:Rt.Small pl.form) (R:qk w (P+1) #[.int .i64 pl.form.kind,.string pl.form.name,.int .i64 pl.form.cells,.slice a1 pl.form.params.length c1,.slice a2 pl.form.index.length c2,.slice a3 pl.form.values.length c3] pl.form) (F:¬pl.form.kind=1) (V:¬pl.form.kind=2) (U:¬pl.form.kind=3) (T:pl.form.kind=8):Calls Tryz.prog 127 #[.pointer (some ⟨P,0,none⟩),.int .i64 n,.agg #[.slice J pl.yY.length I,.int .i64 pl.form.kind,.string pl.form.name,.int .i64 pl.form.cells,.slice a1 pl.form.params.length c1,.slice a2 pl.form.index.length c2,.slice a3 pl.form.values.length c3,.int .i64 pl.depth,.int .i64 pl.opener,.int .i64 H,.int .i64 G,.int .i64 pl.proc]] w fun e w'=>e=.returned (.bool (Rt.qh zL n pl))/\Below w.heap.size w w':=by
 have i:=(zI w.heap.size w).alloc (zB _) (.cells #[.slice J pl.yY.length I,.int .i64 pl.form.kind,.string pl.form.name,.int .i64 pl.form.cells,.slice a1 pl.form.params.length c1,.slice a2 pl.form.index.length c2,.slice a3 pl.form.values.length c3,.int .i64 pl.depth,.int .i64 pl.opener,.int .i64 H,.int .i64 G,.int .i64 pl.proc] 145);have D:=zN w (.cells #[.slice J pl.yY.length I,.int .i64 pl.form.kind,.string pl.form.name,.int .i64 pl.form.cells,.slice a1 pl.form.params.length c1,.slice a2 pl.form.index.length c2,.slice a3 pl.form.values.length c3,.int .i64 pl.depth,.int .i64 pl.opener,.int .i64 H,.int .i64 G,.int .i64 pl.proc] 145);have M:=h.zP i;have y:=(xZ (B:=P+1) i).form R;clear h R;have j:=zD (show Rt.qh zL n pl=(Rt.isVar zL pl.proc pl.form.name && Rt.jF zL pl) by unfold Rt.qh;rw[zA (by omega),zA (by omega),zE (by omega)]);have b1:(pl.form.kind==1)=false:=by simpa using F
 have b2:(pl.form.kind==2)=false:=by simpa using V
 have b3:(pl.form.kind==3)=false:=by simpa using U
 have b8:(pl.form.kind==8)=true:=by simpa using T
 clear F V U T;go_enter func127,ntmps127;go_wp2_with fail;refine(QS pl.proc pl.form.name M o k).mono ?_;rintro e w1 ⟨rfl,f⟩;have d:=i.trans (f.mono (B':=w.heap.size) (by simp));have F:=M.zP f;have x:=(xZ (B:=P+1) f).form y;have A:=zU D f;clear M y D i f;cases hv:Rt.isVar zL pl.proc pl.form.name with
 | false=>
  have N:=zD (j.u.trans (by rw[hv];rfl:_=false));have O:=zD d;clear j hv F x A d;go_wp2;go_ret;exact⟨by rw[N.u];rfl,O.u⟩
 | true=>
  have N:=zD (j.u.trans (by rw[hv];rfl:_=Rt.jF zL pl));clear j hv;obtain⟨l0,l1,l2,l3,l4,l5,l6,l7,l8,l9,Z,W⟩:=Yn A;go_wp2_with fail;refine(kj J I H G F o k L x).mono ?_;rintro e w9 ⟨rfl,z⟩;have O:=zD (d.trans (z.mono (B':=w.heap.size) (by have:=(d).size;omega)));clear z;go_wp2;go_ret;exact⟨by rw[N.u];rfl,O.u⟩
theorem og (n:Nat) (L:Option Addr) (J:Nat) (I H:Int) (h:qH w P zL lv cs) (o:zL.length<=101) (k:(Rt.yA zL pl.proc).params.length<=1000) (M:Rt.Small pl.form) (T:qk w (P+1) #[.int .i64 pl.form.kind,.string pl.form.name,.int .i64 pl.form.cells,.slice a1 pl.form.params.length c1,.slice a2 pl.form.index.length c2,.slice a3 pl.form.values.length c3] pl.form) (G:¬pl.form.kind=1) (W:¬pl.form.kind=2) (V:¬pl.form.kind=3) (U:¬pl.form.kind=8) (F:pl.form.kind=11):Calls Tryz.prog 127 #[.pointer (some ⟨P,0,none⟩),.int .i64 n,.agg #[.slice L pl.yY.length J,.int .i64 pl.form.kind,.string pl.form.name,.int .i64 pl.form.cells,.slice a1 pl.form.params.length c1,.slice a2 pl.form.index.length c2,.slice a3 pl.form.values.length c3,.int .i64 pl.depth,.int .i64 pl.opener,.int .i64 I,.int .i64 H,.int .i64 pl.proc]] w fun e w'=>e=.returned (.bool (Rt.qh zL n pl))/\Below w.heap.size w w':=by
 have i:=(zI w.heap.size w).alloc (zB _) (.cells #[.slice L pl.yY.length J,.int .i64 pl.form.kind,.string pl.form.name,.int .i64 pl.form.cells,.slice a1 pl.form.params.length c1,.slice a2 pl.form.index.length c2,.slice a3 pl.form.values.length c3,.int .i64 pl.depth,.int .i64 pl.opener,.int .i64 I,.int .i64 H,.int .i64 pl.proc] 145);have D:=zN w (.cells #[.slice L pl.yY.length J,.int .i64 pl.form.kind,.string pl.form.name,.int .i64 pl.form.cells,.slice a1 pl.form.params.length c1,.slice a2 pl.form.index.length c2,.slice a3 pl.form.values.length c3,.int .i64 pl.depth,.int .i64 pl.opener,.int .i64 I,.int .i64 H,.int .i64 pl.proc] 145);have N:=h.zP i;have y:=(xZ (B:=P+1) i).form T;clear h T;have j:=zD (show Rt.qh zL n pl=(Rt.isVar zL pl.proc pl.form.name && Rt.jF zL pl) by unfold Rt.qh;rw[zA (by omega),zA (by omega),zE (by omega)]);have b1:(pl.form.kind==1)=false:=by simpa using G
 have b2:(pl.form.kind==2)=false:=by simpa using W
 have b3:(pl.form.kind==3)=false:=by simpa using V
 have b8:(pl.form.kind==8)=false:=by simpa using U
 have a5:(pl.form.kind==11)=true:=by simpa using F
 clear G W V U F;go_enter func127,ntmps127;go_wp2_with fail;refine(QS pl.proc pl.form.name N o k).mono ?_;rintro e w1 ⟨rfl,f⟩;have d:=i.trans (f.mono (B':=w.heap.size) (by simp));have G:=N.zP f;have x:=(xZ (B:=P+1) f).form y;have A:=zU D f;clear N y D i f;cases hv:Rt.isVar zL pl.proc pl.form.name with
 | false=>
  have O:=zD (j.u.trans (by rw[hv];rfl:_=false));have R:=zD d;clear j hv G x A d;go_wp2;go_ret;exact⟨by rw[O.u];rfl,R.u⟩
 | true=>
  have O:=zD (j.u.trans (by rw[hv];rfl:_=Rt.jF zL pl));clear j hv;obtain⟨l0,l1,l2,l3,l4,l5,l6,l7,l8,l9,a4,Z⟩:=Yn A;go_wp2_with fail;refine(kj L J I H G o k M x).mono ?_;rintro e w9 ⟨rfl,z⟩;have R:=zD (d.trans (z.mono (B':=w.heap.size) (by have:=(d).size;omega)));clear z;go_wp2;go_ret;exact⟨by rw[O.u];rfl,R.u⟩
theorem sj (n:Nat) (L:Option Addr) (J:Nat) (I H:Int) (h:qH w P zL lv cs) (o:zL.length<=101) (k:(Rt.yA zL pl.proc).params.length<=1000) (M:Rt.Small pl.form) (T:qk w (P+1) #[.int .i64 pl.form.kind,.string pl.form.name,.int .i64 pl.form.cells,.slice a1 pl.form.params.length c1,.slice a2 pl.form.index.length c2,.slice a3 pl.form.values.length c3] pl.form) (G:¬pl.form.kind=1) (Z:¬pl.form.kind=2) (W:¬pl.form.kind=3) (V:¬pl.form.kind=8) (F:¬pl.form.kind=11) (U:pl.form.kind=9):Calls Tryz.prog 127 #[.pointer (some ⟨P,0,none⟩),.int .i64 n,.agg #[.slice L pl.yY.length J,.int .i64 pl.form.kind,.string pl.form.name,.int .i64 pl.form.cells,.slice a1 pl.form.params.length c1,.slice a2 pl.form.index.length c2,.slice a3 pl.form.values.length c3,.int .i64 pl.depth,.int .i64 pl.opener,.int .i64 I,.int .i64 H,.int .i64 pl.proc]] w fun e w'=>e=.returned (.bool (Rt.qh zL n pl))/\Below w.heap.size w w':=by
 have i:=(zI w.heap.size w).alloc (zB _) (.cells #[.slice L pl.yY.length J,.int .i64 pl.form.kind,.string pl.form.name,.int .i64 pl.form.cells,.slice a1 pl.form.params.length c1,.slice a2 pl.form.index.length c2,.slice a3 pl.form.values.length c3,.int .i64 pl.depth,.int .i64 pl.opener,.int .i64 I,.int .i64 H,.int .i64 pl.proc] 145);have D:=zN w (.cells #[.slice L pl.yY.length J,.int .i64 pl.form.kind,.string pl.form.name,.int .i64 pl.form.cells,.slice a1 pl.form.params.length c1,.slice a2 pl.form.index.length c2,.slice a3 pl.form.values.length c3,.int .i64 pl.depth,.int .i64 pl.opener,.int .i64 I,.int .i64 H,.int .i64 pl.proc] 145);have N:=h.zP i;have y:=(xZ (B:=P+1) i).form T;clear h T;have j:=zD (show Rt.qh zL n pl=(ZW zL pl.proc pl.form.name && Rt.jF zL pl) by unfold Rt.qh;rw[zA (by omega),zA (by omega),zA (by omega),zE (by omega)]);have b1:(pl.form.kind==1)=false:=by simpa using G
 have b2:(pl.form.kind==2)=false:=by simpa using Z
 have b3:(pl.form.kind==3)=false:=by simpa using W
 have b8:(pl.form.kind==8)=false:=by simpa using V
 have a6:(pl.form.kind==11)=false:=by simpa using F
 have b9:(pl.form.kind==9)=true:=by simpa using U
 clear G Z W V F U;go_enter func127,ntmps127;go_wp2_with fail;refine(dm pl.proc pl.form.name N o k).mono ?_;rintro e w1 ⟨rfl,f⟩;have d:=i.trans (f.mono (B':=w.heap.size) (by simp));have G:=N.zP f;have x:=(xZ (B:=P+1) f).form y;have A:=zU D f;clear N y D i f;cases hv:ZW zL pl.proc pl.form.name with
 | false=>
  have O:=zD (j.u.trans (by rw[hv];rfl:_=false));have R:=zD d;clear j hv G x A d;go_wp2;go_ret;exact⟨by rw[O.u];rfl,R.u⟩
 | true=>
  have O:=zD (j.u.trans (by rw[hv];rfl:_=Rt.jF zL pl));clear j hv;obtain⟨l0,l1,l2,l3,l4,l5,l6,l7,l8,l9,a5,a4⟩:=Yn A;go_wp2_with fail;refine(kj L J I H G o k M x).mono ?_;rintro e w9 ⟨rfl,z⟩;have R:=zD (d.trans (z.mono (B':=w.heap.size) (by have:=(d).size;omega)));clear z;go_wp2;go_ret;exact⟨by rw[O.u];rfl,R.u⟩
theorem oe (n:Nat) (M:Option Addr) (L:Nat) (J I:Int) (h:qH w P zL lv cs) (k:zL.length<=101) (o:(Rt.yA zL pl.proc).params.length<=1000) (N:Rt.Small pl.form) (U:qk w (P+1) #[.int .i64 pl.form.kind,.string pl.form.name,.int .i64 pl.form.cells,.slice a1 pl.form.params.length c1,.slice a2 pl.form.index.length c2,.slice a3 pl.form.values.length c3] pl.form) (H:¬pl.form.kind=1) (h2:¬pl.form.kind=2) (Z:¬pl.form.kind=3) (W:¬pl.form.kind=8) (G:¬pl.form.kind=11) (V:¬pl.form.kind=9) (F:pl.form.kind=12):Calls Tryz.prog 127 #[.pointer (some ⟨P,0,none⟩),.int .i64 n,.agg #[.slice M pl.yY.length L,.int .i64 pl.form.kind,.string pl.form.name,.int .i64 pl.form.cells,.slice a1 pl.form.params.length c1,.slice a2 pl.form.index.length c2,.slice a3 pl.form.values.length c3,.int .i64 pl.depth,.int .i64 pl.opener,.int .i64 J,.int .i64 I,.int .i64 pl.proc]] w fun e w'=>e=.returned (.bool (Rt.qh zL n pl))/\Below w.heap.size w w':=by
 have i:=(zI w.heap.size w).alloc (zB _) (.cells #[.slice M pl.yY.length L,.int .i64 pl.form.kind,.string pl.form.name,.int .i64 pl.form.cells,.slice a1 pl.form.params.length c1,.slice a2 pl.form.index.length c2,.slice a3 pl.form.values.length c3,.int .i64 pl.depth,.int .i64 pl.opener,.int .i64 J,.int .i64 I,.int .i64 pl.proc] 145);have D:=zN w (.cells #[.slice M pl.yY.length L,.int .i64 pl.form.kind,.string pl.form.name,.int .i64 pl.form.cells,.slice a1 pl.form.params.length c1,.slice a2 pl.form.index.length c2,.slice a3 pl.form.values.length c3,.int .i64 pl.depth,.int .i64 pl.opener,.int .i64 J,.int .i64 I,.int .i64 pl.proc] 145);have O:=h.zP i;have y:=(xZ (B:=P+1) i).form U;clear h U;have j:=zD (show Rt.qh zL n pl=(Rt.XF zL pl.form && Rt.jF zL pl) by unfold Rt.qh;rw[zA (by omega),zA (by omega),zA (by omega),zA (by omega),zE (by omega)]);have b1:(pl.form.kind==1)=false:=by simpa using H
 have b2:(pl.form.kind==2)=false:=by simpa using h2
 have b3:(pl.form.kind==3)=false:=by simpa using Z
 have b8:(pl.form.kind==8)=false:=by simpa using W
 have a7:(pl.form.kind==11)=false:=by simpa using G
 have b9:(pl.form.kind==9)=false:=by simpa using V
 have a6:(pl.form.kind==12)=true:=by simpa using F
 clear H h2 Z W G V F;go_enter func127,ntmps127;go_wp2_with fail;refine(nb pl.form a1 a2 a3 c1 c2 c3 O k).mono ?_;rintro e w1 ⟨rfl,f⟩;have d:=i.trans (f.mono (B':=w.heap.size) (by simp));have H:=O.zP f;have x:=(xZ (B:=P+1) f).form y;have A:=zU D f;clear O y D i f;cases hv:Rt.XF zL pl.form with
 | false=>
  have R:=zD (j.u.trans (by rw[hv];rfl:_=false));have T:=zD d;clear j hv H x A d;go_wp2;go_ret;exact⟨by rw[R.u];rfl,T.u⟩
 | true=>
  have R:=zD (j.u.trans (by rw[hv];rfl:_=Rt.jF zL pl));clear j hv;obtain⟨l0,l1,l2,l3,l4,l5,l6,l7,l8,l9,a5,a4⟩:=Yn A;go_wp2_with fail;refine(kj M L J I H k o N x).mono ?_;rintro e w9 ⟨rfl,z⟩;have T:=zD (d.trans (z.mono (B':=w.heap.size) (by have:=(d).size;omega)));clear z;go_wp2;go_ret;exact⟨by rw[R.u];rfl,T.u⟩
theorem fu (n:Nat) (D:Option Addr) (A:Nat) (z y:Int) (h:qH w P zL lv cs) (i:zL.length<=101) (f:(Rt.yA zL pl.proc).params.length<=1000) (F:Rt.Small pl.form) (H:qk w (P+1) #[.int .i64 pl.form.kind,.string pl.form.name,.int .i64 pl.form.cells,.slice a1 pl.form.params.length c1,.slice a2 pl.form.index.length c2,.slice a3 pl.form.values.length c3] pl.form) (N:¬pl.form.kind=1) (M:¬pl.form.kind=2) (L:¬pl.form.kind=3) (J:¬pl.form.kind=8) (x:¬pl.form.kind=11) (I:¬pl.form.kind=9) (o:¬pl.form.kind=12):Calls Tryz.prog 127 #[.pointer (some ⟨P,0,none⟩),.int .i64 n,.agg #[.slice D pl.yY.length A,.int .i64 pl.form.kind,.string pl.form.name,.int .i64 pl.form.cells,.slice a1 pl.form.params.length c1,.slice a2 pl.form.index.length c2,.slice a3 pl.form.values.length c3,.int .i64 pl.depth,.int .i64 pl.opener,.int .i64 z,.int .i64 y,.int .i64 pl.proc]] w fun e w'=>e=.returned (.bool (Rt.qh zL n pl))/\Below w.heap.size w w':=by
 have d:=(zI w.heap.size w).alloc (zB _) (.cells #[.slice D pl.yY.length A,.int .i64 pl.form.kind,.string pl.form.name,.int .i64 pl.form.cells,.slice a1 pl.form.params.length c1,.slice a2 pl.form.index.length c2,.slice a3 pl.form.values.length c3,.int .i64 pl.depth,.int .i64 pl.opener,.int .i64 z,.int .i64 y,.int .i64 pl.proc] 145);have G:=zN w (.cells #[.slice D pl.yY.length A,.int .i64 pl.form.kind,.string pl.form.name,.int .i64 pl.form.cells,.slice a1 pl.form.params.length c1,.slice a2 pl.form.index.length c2,.slice a3 pl.form.values.length c3,.int .i64 pl.depth,.int .i64 pl.opener,.int .i64 z,.int .i64 y,.int .i64 pl.proc] 145);have O:=h.zP d;have j:=(xZ (B:=P+1) d).form H;clear h H;have U:=zD (show Rt.qh zL n pl=Rt.jF zL pl by unfold Rt.qh;rw[zA (by omega),zA (by omega),zA (by omega),zA (by omega),zA (by omega)]);have b1:(pl.form.kind==1)=false:=by simpa using N
 have b2:(pl.form.kind==2)=false:=by simpa using M
 have b3:(pl.form.kind==3)=false:=by simpa using L
 have b8:(pl.form.kind==8)=false:=by simpa using J
 have T:(pl.form.kind==11)=false:=by simpa using x
 have Z:(pl.form.kind==9)=false:=by simpa using I
 have R:(pl.form.kind==12)=false:=by simpa using o
 clear N M L J x I o;go_enter func127,ntmps127;go_wp2_with fail;refine(kj D A z y O i f F j).mono ?_;rintro e W ⟨rfl,k⟩;have V:=zD (d.trans (k.mono (B':=w.heap.size) (by simp)));clear O j G d k;go_wp2;go_ret;exact⟨by rw[U.u];rfl,V.u⟩
theorem nD (n:Nat) (x:Option Addr) (o:Nat) (k j:Int) (h:qH w P zL lv cs) (d:zL.length<=101) (f:(Rt.yA zL pl.proc).params.length<=1000) (i:Rt.Small pl.form) (y:qk w (P+1) #[.int .i64 pl.form.kind,.string pl.form.name,.int .i64 pl.form.cells,.slice a1 pl.form.params.length c1,.slice a2 pl.form.index.length c2,.slice a3 pl.form.values.length c3] pl.form):Calls Tryz.prog 127 #[.pointer (some ⟨P,0,none⟩),.int .i64 n,.agg #[.slice x pl.yY.length o,.int .i64 pl.form.kind,.string pl.form.name,.int .i64 pl.form.cells,.slice a1 pl.form.params.length c1,.slice a2 pl.form.index.length c2,.slice a3 pl.form.values.length c3,.int .i64 pl.depth,.int .i64 pl.opener,.int .i64 k,.int .i64 j,.int .i64 pl.proc]] w fun e w'=>e=.returned (.bool (Rt.qh zL n pl))/\Below w.heap.size w w':=by
 by_cases h1:pl.form.kind=1
 ·exact sn n x o k j h d y  h1
 by_cases h2:pl.form.kind=2
 ·exact sm n x o k j h d y h1 h2
 by_cases h3:pl.form.kind=3
 ·exact sl n x o k j h d i y h1 h2 h3
 by_cases h8:pl.form.kind=8
 ·exact sk n x o k j h d f i y h1 h2 h3 h8
 by_cases h11:pl.form.kind=11
 ·exact og n x o k j h d f i y h1 h2 h3 h8 h11
 by_cases h9:pl.form.kind=9
 ·exact sj n x o k j h d f i y h1 h2 h3 h8 h11 h9
 by_cases h12:pl.form.kind=12
 ·exact oe n x o k j h d f i y h1 h2 h3 h8 h11 h9 h12
 exact fu n x o k j h d f i y h1 h2 h3 h8 h11 h9 h12
theorem gy (h:qH w P zL lv cs) (z:zL.length<=101) (A:∀p∈zL,Rt.Small p.form):Calls Tryz.prog 77 #[.pointer (some ⟨P,0,none⟩)] w fun e w'=>Below w.heap.size w w'/\
      ((¬Rt.nameErr zL 1 (zL.drop 1)=0/\e=.returned (.tuple #[.int .i64 4,.int .i64 (Rt.nameErr zL 1 (zL.drop 1))]))\/
       (Rt.nameErr zL 1 (zL.drop 1)=0/\¬(Rt.yJ zL Rt.xP).kind=3/\e=.returned (.tuple #[.int .i64 4,.int .i64 0]))\/
       (Rt.nameErr zL 1 (zL.drop 1)=0/\(Rt.yJ zL Rt.xP).kind=3/\e=.returned (.tuple #[.int .i64 0,.int .i64 0]))):=by
  have D:=zD A;clear A;go_enter func77,ntmps77;go_wp2_with fail;go_loopw [4] (fun i wr=>∃k:Nat,1<=k/\k<=zL.length+1/\i=.int .i64 k/\Rt.nameErr zL k (zL.drop k)=Rt.nameErr zL 1 (zL.drop 1)/\qH wr P zL lv cs/\Below w.heap.size w wr)
    (fun i _=>zL.length+1-(intOf i).toNat)
  case atStart=>exact⟨1,zB _,by omega,rfl,rfl,h,zI _ _⟩
  case round=>
    clear h;obtain⟨k,a7,hk,rfl,hT,d,j⟩:=hrel;have R:=zD hT;clear hT;have F:=j.size;obtain⟨ad,cap,G,cP⟩:=d.Q3;by_cases hlt:k < zL.length
    · have L:(k:Int) < (zL.length:Int):=by omega
      have a8:(0:Int)<=(k:Int):=by omega
      obtain⟨g,cap',a0,a1,a2,a3,e0,e1,e2,e3,xe,xf,y,_,a6,⟨d0,d1,d2,d3,d4,d5,d6,d7,d8,d9,b4,b0⟩,U,H⟩:=d.at hlt;have x:=G.symm.trans y;simp at x;obtain⟨rfl,rfl⟩:=x;have J:=aJ D.u zL[k].proc;have V:=D.u zL[k] (zj hlt);have o:zL.drop k=zL[k]::zL.drop (k+1):=zZ hlt;have T:Hd (∀b,Rt.qh zL k zL[k]=b->Rt.nameErr zL 1 (zL.drop 1)=if b=true then Rt.nameErr zL (k+1) (zL.drop (k+1))else k):=by
        refine zD ?_;intro b hb;rw[<-R.u,o,Rt.nameErr,hb]
      clear G y U o R;generalize zL[k]=p at *;go_wp2_with fail;refine(nD k a0 e0 xe xf d z J V H).mono ?_;rintro e w2 ⟨rfl,f⟩;cases hv:Rt.qh zL k p with
      | true=>
        have HE:=zD (T.u true hv);have I:=qG (d.zP f) (j.trans (f.mono (B':=w.heap.size) F));clear d j f hv H T;go_wp2_with fail;go_roundw
        case rel=>exact⟨k+1,by omega,by omega,by go_num,by have:=HE.u;rw[zE trivial]at this;exact this.symm,I.u.1,I.u.2⟩
        case measure=>simp[intOf];omega
      | false=>
        have HE:=zD (T.u false hv);have I:=zD (j.trans (f.mono (B':=w.heap.size) F));clear d j f hv H T;go_wp2_with fail;go_ret2;have hE:=HE.u;rw[zA (by decide)]at hE;exact⟨I.u,Or.inl ⟨by omega,by rw[hE];simp⟩⟩
    · have HE:Hd (Rt.nameErr zL 1 (zL.drop 1)=0):=by
        refine zD ?_;rw[<-R.u,zp (by omega),Rt.nameErr]
      have L:¬(k:Int) < (zL.length:Int):=by omega
      clear G R;go_wp2_with fail;refine(Xq Rt.xP d z).mono ?_;rintro e w2 ⟨fv,rfl,⟨pv,iv,vv,vs,rfl,b1,b2,b3,_⟩,f⟩;obtain⟨a5,O,rfl⟩:=zK b1;obtain⟨a4,N,rfl⟩:=zK b2;obtain⟨Z,M,rfl⟩:=zK b3;have I:=zD (j.trans (f.mono (B':=w.heap.size) F));clear d j f b1 b2 b3;have a9:=eX (Rt.yJ zL Rt.xP).kind (.string (Rt.yJ zL Rt.xP).name) (.int .i64 (Rt.yJ zL Rt.xP).cells) (.slice a5 (Rt.yJ zL Rt.xP).params.length O) (.slice a4 (Rt.yJ zL Rt.xP).index.length N) (.slice Z (Rt.yJ zL Rt.xP).values.length M);by_cases hm:(Rt.yJ zL Rt.xP).kind=3
      · have W:((Rt.yJ zL Rt.xP).kind != 3)=false:=by simp[hm]
        have HM:=zD hm;clear hm;go_wp2_with fail;go_ret2;exact⟨I.u,Or.inr (Or.inr ⟨HE.u,HM.u,rfl⟩)⟩
      · have W:((Rt.yJ zL Rt.xP).kind != 3)=true:=by simp[hm]
        have HM:=zD hm;clear hm;go_wp2_with fail;go_ret2;exact⟨I.u,Or.inr (Or.inl ⟨HE.u,HM.u,rfl⟩)⟩
end Go.Proofs.YthleadfkfnnadaaGreat
