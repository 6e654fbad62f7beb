/- The program's reader of lines as plain functions: no program, no walk. -/
import Derived.Test.YthleadfkfnnadaaGreatRefA
set_option maxHeartbeats 4000000
set_option maxRecDepth 100000
set_option linter.all false
namespace Go.Proofs.YthleadfkfnnadaaGreat
open Value renaming int->J,slice->I,string->O,pointer->H,bool->A
open IntKind renaming i64->U
open Option renaming none->Z,some->Q
open Bool renaming false->W,true->D
open List renaming length->G
open Ending renaming returned->T
open Obj renaming cells->V
open Rf Go.Proofs.Tryz
variable {nm s:Ia} {kind:Int} {ls:List Ib} {t:Ib} {op sp pre:List Nat} {k i S g cap l n o B g' cap' f:Nat} {v ov sv:Value} {w w' w1 wr:World}
section
open Go.RowKit
theorem C0 (M:Y8 t) (d:0 < G t) (N:(t[0].toList==[101,110,100])=D):kv 81 xM t:=by
 intro w v k;have T:=zD M;obtain⟨ad,cap,rfl,H⟩:=k.form;obtain⟨b,o,rfl⟩:=k.qZ (by intro h;rw[h]at d;simp at d);have L:¬G t=0:=by omega
 have f:xM t=Rf.isKind t t[0].toList:=by rw[xM,zA L,Rf.first,qq d]
 unfold Rf.isKind at f;rw[N,zE rfl]at f;have U:=zD f;have V:Hd (∀w' j (hj:j < G t),xA w' (I (Q ⟨b,o,Z⟩) (G t) cap) t->w'.cell? ⟨b,o+j,Z⟩=Q (O t[j])):=zD (by
  intro w' j hj h;obtain⟨b',W,cap',F,R⟩:=h.cell hj;simp at F;obtain⟨⟨rfl,rfl⟩,rfl⟩:=F;exact R)
 have z:Hd (∀w',xA w' (I (Q ⟨b,o,Z⟩) (G t) cap) t->w'.cell? ⟨b,o,Z⟩=Q (O t[0])):=zD (fun w' h=>V.u w' 0 d h);have J:=zD k;generalize t[0]=x at *;go_enter func81,ntmps81;go_wp2_with fail
 all_goals
  refine(qv (by first | exact xA.gone (by omega) rfl | exact J.u.drop 1 _ _ rfl (by omega)) (T.u.drop 1)).mono ?_;rintro e w1 ⟨rfl,i⟩;have y:=zD (J.u.zP i);have A:=zD i;have cx:=z.u _ y.u;go_wp2;go_ret;exact⟨by rw[U.u];exact yj (by rw[xO];simp;omega),A.u⟩
theorem Cz (M:Y8 t) (d:0 < G t) (R:(t[0].toList==[101,110,100])=W) (N:(t[0].toList==[101,108,115,101])=D):kv 81 xM t:=by
 intro w v k;have U:=zD M;obtain⟨ad,cap,rfl,H⟩:=k.form;obtain⟨b,o,rfl⟩:=k.qZ (by intro h;rw[h]at d;simp at d);have L:¬G t=0:=by omega
 have f:xM t=Rf.isKind t t[0].toList:=by rw[xM,zA L,Rf.first,qq d]
 unfold Rf.isKind at f;rw[R,zA (by decide),N,zE rfl]at f;have V:=zD f;have HC:Hd (∀w' j (hj:j < G t),xA w' (I (Q ⟨b,o,Z⟩) (G t) cap) t->w'.cell? ⟨b,o+j,Z⟩=Q (O t[j])):=zD (by
  intro w' j hj h;obtain⟨b',o',cap',F,T⟩:=h.cell hj;simp at F;obtain⟨⟨rfl,rfl⟩,rfl⟩:=F;exact T)
 have z:Hd (∀w',xA w' (I (Q ⟨b,o,Z⟩) (G t) cap) t->w'.cell? ⟨b,o,Z⟩=Q (O t[0])):=zD (fun w' h=>HC.u w' 0 d h);have J:=zD k;generalize t[0]=x at *;go_enter func81,ntmps81;go_wp2_with fail
 all_goals
  refine(qv (by first | exact xA.gone (by omega) rfl | exact J.u.drop 1 _ _ rfl (by omega)) (U.u.drop 1)).mono ?_;rintro e w1 ⟨rfl,i⟩;have y:=zD (J.u.zP i);have A:=zD i;have cx:=z.u _ y.u;go_wp2;go_ret;exact⟨by rw[V.u];exact yj (by rw[xO];simp;omega),A.u⟩
theorem Cy (M:Y8 t) (d:0 < G t) (T:(t[0].toList==[101,110,100])=W) (R:(t[0].toList==[101,108,115,101])=W) (N:(t[0].toList==[114,101,116,117,114,110])=D):kv 81 xM t:=by
 intro w v k;have V:=zD M;obtain⟨ad,cap,rfl,H⟩:=k.form;obtain⟨b,o,rfl⟩:=k.qZ (by intro h;rw[h]at d;simp at d);have L:¬G t=0:=by omega
 have f:xM t=Rf.isKind t t[0].toList:=by rw[xM,zA L,Rf.first,qq d]
 unfold Rf.isKind at f;rw[T,zA (by decide),R,zA (by decide),N,zE rfl]at f;have HE:=zD f;have HC:Hd (∀w' j (hj:j < G t),xA w' (I (Q ⟨b,o,Z⟩) (G t) cap) t->w'.cell? ⟨b,o+j,Z⟩=Q (O t[j])):=zD (by
  intro w' j hj h;obtain⟨b',o',cap',F,U⟩:=h.cell hj;simp at F;obtain⟨⟨rfl,rfl⟩,rfl⟩:=F;exact U)
 have z:Hd (∀w',xA w' (I (Q ⟨b,o,Z⟩) (G t) cap) t->w'.cell? ⟨b,o,Z⟩=Q (O t[0])):=zD (fun w' h=>HC.u w' 0 d h);have J:=zD k;generalize t[0]=x at *;go_enter func81,ntmps81;go_wp2_with fail
 all_goals
  refine(qv (by first | exact xA.gone (by omega) rfl | exact J.u.drop 1 _ _ rfl (by omega)) (V.u.drop 1)).mono ?_;rintro e w1 ⟨rfl,i⟩;have y:=zD (J.u.zP i);have A:=zD i;have cx:=z.u _ y.u;go_wp2;go_ret;exact⟨by rw[HE.u];exact yj (by rw[xO];simp;omega),A.u⟩
theorem Cx (R:Y8 t) (d:0 < G t) (e0:(t[0].toList==[101,110,100])=W) (V:(t[0].toList==[101,108,115,101])=W) (U:(t[0].toList==[114,101,116,117,114,110])=W) (T:(t[0].toList==[118,97,114])=D):kv 81 xM t:=by
 intro w v z;have HF:=zD R;obtain⟨ad,cap,rfl,L⟩:=z.form;obtain⟨b,o,rfl⟩:=z.qZ (by intro h;rw[h]at d;simp at d);have N:¬G t=0:=by omega
 have f:xM t=Rf.isKind t t[0].toList:=by rw[xM,zA N,Rf.first,qq d]
 unfold Rf.isKind at f;rw[e0,zA (by decide),V,zA (by decide),U,zA (by decide),T,zE rfl]at f;have y:=zD f;have HC:Hd (∀w' j (hj:j < G t),xA w' (I (Q ⟨b,o,Z⟩) (G t) cap) t->w'.cell? ⟨b,o+j,Z⟩=Q (O t[j])):=zD (by
  intro w' j hj h;obtain⟨b',o',cap',J,c0⟩:=h.cell hj;simp at J;obtain⟨⟨rfl,rfl⟩,rfl⟩:=J;exact c0)
 have H:Hd (∀w',xA w' (I (Q ⟨b,o,Z⟩) (G t) cap) t->w'.cell? ⟨b,o,Z⟩=Q (O t[0])):=zD (fun w' h=>HC.u w' 0 d h);have M:=zD z;generalize t[0]=x at *;go_enter func81,ntmps81;go_wp2_with fail
 all_goals
  refine(qv (by first | exact xA.gone (by omega) rfl | exact M.u.drop 1 _ _ rfl (by omega)) (HF.u.drop 1)).mono ?_;rintro e w1 ⟨rfl,i⟩;have F:=zD (M.u.zP i);have k:=zD i;have cx:=H.u _ F.u;by_cases hn:G t=2
  ·have A:((G t:Int)==2)=D:=by rw[xw];omega
   rw[qA hn]at y;go_wp2_with fail
   all_goals
    go_ret;exact⟨by rw[y.u];exact yj (by simp_all),k.u⟩
  ·have A:((G t:Int)==2)=W:=by rw[zV];omega
   rw[qP hn]at y;go_wp2_with fail
   all_goals
    go_ret;exact⟨by rw[y.u];exact yj (by simp),k.u⟩
theorem Cu (T:Y8 t) (d:0 < G t) (e0:(t[0].toList==[101,110,100])=W) (e1:(t[0].toList==[101,108,115,101])=W) (e2:(t[0].toList==[114,101,116,117,114,110])=W) (e3:(t[0].toList==[118,97,114])=W) (e4:(t[0].toList==[114,101,97,100])=W) (V:(t[0].toList==[112,114,111,99])=W) (U:(t[0].toList==[105,102])=D):kv 81 xM t:=by
 intro w v z;have N:=zD T;obtain⟨ad,cap,rfl,L⟩:=z.form;obtain⟨b,o,rfl⟩:=z.qZ (by intro h;rw[h]at d;simp at d);have R:¬G t=0:=by omega
 have f:xM t=Rf.isKind t t[0].toList:=by rw[xM,zA R,Rf.first,qq d]
 unfold Rf.isKind at f;rw[e0,zA (by decide),e1,zA (by decide),e2,zA (by decide),e3,zA (by decide),e4,zA (by decide),V,zA (by decide),U,zE rfl]at f;have HE:=zD f;have HC:Hd (∀w' j (hj:j < G t),xA w' (I (Q ⟨b,o,Z⟩) (G t) cap) t->w'.cell? ⟨b,o+j,Z⟩=Q (O t[j])):=zD (by
  intro w' j hj h;obtain⟨b',o',cap',J,c0⟩:=h.cell hj;simp at J;obtain⟨⟨rfl,rfl⟩,rfl⟩:=J;exact c0)
 have F:Hd (∀w',xA w' (I (Q ⟨b,o,Z⟩) (G t) cap) t->w'.cell? ⟨b,o,Z⟩=Q (O t[0])):=zD (fun w' h=>HC.u w' 0 d h);have M:=zD z;generalize t[0]=x at *;go_enter func81,ntmps81;go_wp2_with fail
 all_goals
  refine(qv (by first | exact xA.gone (by omega) rfl | exact M.u.drop 1 _ _ rfl (by omega)) (N.u.drop 1)).mono ?_;rintro e w1 ⟨rfl,i⟩;have k:=zD (M.u.zP i);have y:=zD i;have cx:=F.u _ k.u;go_wp2_with fail
  all_goals
   refine(QU (N.u.drop 1) _ _ (by first | exact xA.gone (by omega) rfl | exact k.u.drop 1 _ _ rfl (by omega))).mono ?_;rintro e w2 ⟨rfl,A⟩;have H:=zD (y.u.trans (A.mono (B':=w.heap.size) y.u.size));go_wp2;go_ret;exact⟨by rw[HE.u];first | rfl | exact yj (by simp),H.u⟩
theorem Cw (R:Y8 t) (d:0 < G t) (e0:(t[0].toList==[101,110,100])=W) (e1:(t[0].toList==[101,108,115,101])=W) (V:(t[0].toList==[114,101,116,117,114,110])=W) (U:(t[0].toList==[118,97,114])=W) (T:(t[0].toList==[114,101,97,100])=D):kv 81 xM t:=by
 intro w v z;have HF:=zD R;obtain⟨ad,cap,rfl,L⟩:=z.form;obtain⟨b,o,rfl⟩:=z.qZ (by intro h;rw[h]at d;simp at d);have N:¬G t=0:=by omega
 have f:xM t=Rf.isKind t t[0].toList:=by rw[xM,zA N,Rf.first,qq d]
 unfold Rf.isKind at f;rw[e0,zA (by decide),e1,zA (by decide),V,zA (by decide),U,zA (by decide),T,zE rfl]at f;have y:=zD f;have HC:Hd (∀w' j (hj:j < G t),xA w' (I (Q ⟨b,o,Z⟩) (G t) cap) t->w'.cell? ⟨b,o+j,Z⟩=Q (O t[j])):=zD (by
  intro w' j hj h;obtain⟨b',o',cap',J,c0⟩:=h.cell hj;simp at J;obtain⟨⟨rfl,rfl⟩,rfl⟩:=J;exact c0)
 have H:Hd (∀w',xA w' (I (Q ⟨b,o,Z⟩) (G t) cap) t->w'.cell? ⟨b,o,Z⟩=Q (O t[0])):=zD (fun w' h=>HC.u w' 0 d h);have M:=zD z;generalize t[0]=x at *;go_enter func81,ntmps81;go_wp2_with fail
 all_goals
  refine(qv (by first | exact xA.gone (by omega) rfl | exact M.u.drop 1 _ _ rfl (by omega)) (HF.u.drop 1)).mono ?_;rintro e w1 ⟨rfl,i⟩;have F:=zD (M.u.zP i);have k:=zD i;have cx:=H.u _ F.u;by_cases hn:G t=2
  ·have A:((G t:Int)==2)=D:=by rw[xw];omega
   rw[qA hn]at y;go_wp2_with fail
   all_goals
    go_ret;exact⟨by rw[y.u];exact yj (by simp_all),k.u⟩
  ·have A:((G t:Int)==2)=W:=by rw[zV];omega
   rw[qP hn]at y;go_wp2_with fail
   all_goals
    go_ret;exact⟨by rw[y.u];exact yj (by simp),k.u⟩
theorem Cv (N:Y8 t) (d:0 < G t) (e0:(t[0].toList==[101,110,100])=W) (e1:(t[0].toList==[101,108,115,101])=W) (V:(t[0].toList==[114,101,116,117,114,110])=W) (U:(t[0].toList==[118,97,114])=W) (T:(t[0].toList==[114,101,97,100])=W) (R:(t[0].toList==[112,114,111,99])=D):kv 81 xM t:=by
 intro w v z;have HF:=zD N;obtain⟨ad,cap,rfl,J⟩:=z.form;obtain⟨b,o,rfl⟩:=z.qZ (by intro h;rw[h]at d;simp at d);have M:¬G t=0:=by omega
 have f:xM t=Rf.isKind t t[0].toList:=by rw[xM,zA M,Rf.first,qq d]
 unfold Rf.isKind at f;rw[e0,zA (by decide),e1,zA (by decide),V,zA (by decide),U,zA (by decide),T,zA (by decide),R,zE rfl]at f;have y:=zD f;clear f;have HC:Hd (∀w' j (hj:j < G t),xA w' (I (Q ⟨b,o,Z⟩) (G t) cap) t->w'.cell? ⟨b,o+j,Z⟩=Q (O t[j])):=zD (by
  intro w' j hj h;obtain⟨b',o',cap',H,c0⟩:=h.cell hj;simp at H;obtain⟨⟨rfl,rfl⟩,rfl⟩:=H;exact c0)
 have F:Hd (∀w',xA w' (I (Q ⟨b,o,Z⟩) (G t) cap) t->w'.cell? ⟨b,o,Z⟩=Q (O t[0])):=zD (fun w' h=>HC.u w' 0 d h);have L:=zD z;generalize t[0]=x at *;go_enter func81,ntmps81;go_wp2_with fail
 all_goals
  refine(qv (by first | exact xA.gone (by omega) rfl | exact L.u.drop 1 _ _ rfl (by omega)) (HF.u.drop 1)).mono ?_;rintro e w1 ⟨rfl,k⟩;have A:=zD (L.u.zP k);have i:=zD k;have cx:=F.u _ A.u;by_cases hn:2<=G t/\G t<=6
  ·obtain⟨n1,n2⟩:=hn;rw[qA (show 2<=G t/\G t<=6 from⟨n1,n2⟩)]at y;go_wp2_with fail
   all_goals
    go_ret;exact⟨by rw[y.u];exact yj (by simp_all),i.u⟩
  ·rw[qP hn]at y;by_cases n1:2<=G t
   ·have n2:¬G t<=6:=fun h=>hn ⟨n1,h⟩;go_wp2_with fail
    all_goals
     go_ret;exact⟨by rw[y.u];exact yj (by simp_all),i.u⟩
   ·go_wp2_with fail
    all_goals
     go_ret;exact⟨by rw[y.u];exact yj (by simp_all),i.u⟩
theorem Ct (T:Y8 t) (d:0 < G t) (e0:(t[0].toList==[101,110,100])=W) (e1:(t[0].toList==[101,108,115,101])=W) (e2:(t[0].toList==[114,101,116,117,114,110])=W) (e3:(t[0].toList==[118,97,114])=W) (e4:(t[0].toList==[114,101,97,100])=W) (e5:(t[0].toList==[112,114,111,99])=W) (V:(t[0].toList==[105,102])=W) (U:(t[0].toList==[119,104,105,108,101])=D):kv 81 xM t:=by
 intro w v z;have N:=zD T;obtain⟨ad,cap,rfl,L⟩:=z.form;obtain⟨b,o,rfl⟩:=z.qZ (by intro h;rw[h]at d;simp at d);have R:¬G t=0:=by omega
 have f:xM t=Rf.isKind t t[0].toList:=by rw[xM,zA R,Rf.first,qq d]
 unfold Rf.isKind at f;rw[e0,zA (by decide),e1,zA (by decide),e2,zA (by decide),e3,zA (by decide),e4,zA (by decide),e5,zA (by decide),V,zA (by decide),U,zE rfl]at f;have HE:=zD f;have HC:Hd (∀w' j (hj:j < G t),xA w' (I (Q ⟨b,o,Z⟩) (G t) cap) t->w'.cell? ⟨b,o+j,Z⟩=Q (O t[j])):=zD (by
  intro w' j hj h;obtain⟨b',o',cap',J,c0⟩:=h.cell hj;simp at J;obtain⟨⟨rfl,rfl⟩,rfl⟩:=J;exact c0)
 have F:Hd (∀w',xA w' (I (Q ⟨b,o,Z⟩) (G t) cap) t->w'.cell? ⟨b,o,Z⟩=Q (O t[0])):=zD (fun w' h=>HC.u w' 0 d h);have M:=zD z;generalize t[0]=x at *;go_enter func81,ntmps81;go_wp2_with fail
 all_goals
  refine(qv (by first | exact xA.gone (by omega) rfl | exact M.u.drop 1 _ _ rfl (by omega)) (N.u.drop 1)).mono ?_;rintro e w1 ⟨rfl,i⟩;have k:=zD (M.u.zP i);have y:=zD i;have cx:=F.u _ k.u;go_wp2_with fail
  all_goals
   refine(QU (N.u.drop 1) _ _ (by first | exact xA.gone (by omega) rfl | exact k.u.drop 1 _ _ rfl (by omega))).mono ?_;rintro e w2 ⟨rfl,A⟩;have H:=zD (y.u.trans (A.mono (B':=w.heap.size) y.u.size));go_wp2;go_ret;exact⟨by rw[HE.u];first | rfl | exact yj (by simp),H.u⟩
theorem Cs (T:Y8 t) (d:0 < G t) (e0:(t[0].toList==[101,110,100])=W) (e1:(t[0].toList==[101,108,115,101])=W) (e2:(t[0].toList==[114,101,116,117,114,110])=W) (e3:(t[0].toList==[118,97,114])=W) (e4:(t[0].toList==[114,101,97,100])=W) (e5:(t[0].toList==[112,114,111,99])=W) (e6:(t[0].toList==[105,102])=W) (V:(t[0].toList==[119,104,105,108,101])=W) (U:(t[0].toList==[112,114,105,110,116])=D):kv 81 xM t:=by
 intro w v z;have N:=zD T;obtain⟨ad,cap,rfl,L⟩:=z.form;obtain⟨b,o,rfl⟩:=z.qZ (by intro h;rw[h]at d;simp at d);have R:¬G t=0:=by omega
 have f:xM t=Rf.isKind t t[0].toList:=by rw[xM,zA R,Rf.first,qq d]
 unfold Rf.isKind at f;rw[e0,zA (by decide),e1,zA (by decide),e2,zA (by decide),e3,zA (by decide),e4,zA (by decide),e5,zA (by decide),e6,zA (by decide),V,zA (by decide),U,zE rfl]at f;have HE:=zD f;have HC:Hd (∀w' j (hj:j < G t),xA w' (I (Q ⟨b,o,Z⟩) (G t) cap) t->w'.cell? ⟨b,o+j,Z⟩=Q (O t[j])):=zD (by
  intro w' j hj h;obtain⟨b',o',cap',J,c0⟩:=h.cell hj;simp at J;obtain⟨⟨rfl,rfl⟩,rfl⟩:=J;exact c0)
 have F:Hd (∀w',xA w' (I (Q ⟨b,o,Z⟩) (G t) cap) t->w'.cell? ⟨b,o,Z⟩=Q (O t[0])):=zD (fun w' h=>HC.u w' 0 d h);have M:=zD z;generalize t[0]=x at *;go_enter func81,ntmps81;go_wp2_with fail
 all_goals
  refine(qv (by first | exact xA.gone (by omega) rfl | exact M.u.drop 1 _ _ rfl (by omega)) (N.u.drop 1)).mono ?_;rintro e w1 ⟨rfl,i⟩;have k:=zD (M.u.zP i);have y:=zD i;have cx:=F.u _ k.u;go_wp2_with fail
  all_goals
   refine(QU (N.u.drop 1) _ _ (by first | exact xA.gone (by omega) rfl | exact k.u.drop 1 _ _ rfl (by omega))).mono ?_;rintro e w2 ⟨rfl,A⟩;have H:=zD (y.u.trans (A.mono (B':=w.heap.size) y.u.size));go_wp2;go_ret;exact⟨by rw[HE.u];first | rfl | exact yj (by simp),H.u⟩
theorem Cr (T:Y8 t) (d:0 < G t) (e0:(t[0].toList==[101,110,100])=W) (e1:(t[0].toList==[101,108,115,101])=W) (e2:(t[0].toList==[114,101,116,117,114,110])=W) (e3:(t[0].toList==[118,97,114])=W) (e4:(t[0].toList==[114,101,97,100])=W) (e5:(t[0].toList==[112,114,111,99])=W) (e6:(t[0].toList==[105,102])=W) (e7:(t[0].toList==[119,104,105,108,101])=W) (V:(t[0].toList==[112,114,105,110,116])=W) (U:(t[0].toList==[115,101,116])=D):kv 81 xM t:=by
 intro w v z;have N:=zD T;obtain⟨ad,cap,rfl,L⟩:=z.form;obtain⟨b,o,rfl⟩:=z.qZ (by intro h;rw[h]at d;simp at d);have R:¬G t=0:=by omega
 have i:xM t=Rf.isKind t t[0].toList:=by rw[xM,zA R,Rf.first,qq d]
 unfold Rf.isKind at i;rw[e0,zA (by decide),e1,zA (by decide),e2,zA (by decide),e3,zA (by decide),e4,zA (by decide),e5,zA (by decide),e6,zA (by decide),e7,zA (by decide),V,zA (by decide),U,zE rfl]at i;have HE:=zD i;have HC:Hd (∀w' j (hj:j < G t),xA w' (I (Q ⟨b,o,Z⟩) (G t) cap) t->w'.cell? ⟨b,o+j,Z⟩=Q (O t[j])):=zD (by
  intro w' j hj h;obtain⟨b',o',cap',J,c0⟩:=h.cell hj;simp at J;obtain⟨⟨rfl,rfl⟩,rfl⟩:=J;exact c0)
 have F:Hd (∀w',xA w' (I (Q ⟨b,o,Z⟩) (G t) cap) t->w'.cell? ⟨b,o,Z⟩=Q (O t[0])):=zD (fun w' h=>HC.u w' 0 d h);have M:=zD z;generalize t[0]=x at *;go_enter func81,ntmps81;go_wp2_with fail
 all_goals
  refine(qv (by first | exact xA.gone (by omega) rfl | exact M.u.drop 1 _ _ rfl (by omega)) (N.u.drop 1)).mono ?_;rintro e w1 ⟨rfl,k⟩;have f:=zD (M.u.zP k);have y:=zD k;have cx:=F.u _ f.u;go_wp2_with fail
  all_goals
   refine(Av N.u _ _ (by first | exact f.u | (subst h;exact f.u))).mono ?_;rintro e w2 ⟨rfl,A⟩;have H:=zD (y.u.trans (A.mono (B':=w.heap.size) y.u.size));go_wp2;go_ret;exact⟨by rw[HE.u];first | rfl | exact yj (by simp),H.u⟩
theorem Ay (U:Y8 t) (d:0 < G t) (e0:(t[0].toList==[101,110,100])=W) (e1:(t[0].toList==[101,108,115,101])=W) (e2:(t[0].toList==[114,101,116,117,114,110])=W) (e3:(t[0].toList==[118,97,114])=W) (e4:(t[0].toList==[114,101,97,100])=W) (e5:(t[0].toList==[112,114,111,99])=W) (e6:(t[0].toList==[105,102])=W) (e7:(t[0].toList==[119,104,105,108,101])=W) (e8:(t[0].toList==[112,114,105,110,116])=W) (V:(t[0].toList==[115,101,116])=W) (F:(t[0].toList==[99,97,108,108])=D):kv 81 xM t:=by
 intro w v z;have R:=zD U;obtain⟨ad,cap,rfl,M⟩:=z.form;obtain⟨b,o,rfl⟩:=z.qZ (by intro h;rw[h]at d;simp at d);have T:¬G t=0:=by omega
 have i:xM t=Rf.isKind t t[0].toList:=by rw[xM,zA T,Rf.first,qq d]
 unfold Rf.isKind at i;rw[e0,zA (by decide),e1,zA (by decide),e2,zA (by decide),e3,zA (by decide),e4,zA (by decide),e5,zA (by decide),e6,zA (by decide),e7,zA (by decide),e8,zA (by decide),V,zA (by decide),F,zE rfl]at i;have HE:=zD i;have HC:Hd (∀w' j (hj:j < G t),xA w' (I (Q ⟨b,o,Z⟩) (G t) cap) t->w'.cell? ⟨b,o+j,Z⟩=Q (O t[j])):=zD (by
  intro w' j hj h;obtain⟨b',o',cap',L,c0⟩:=h.cell hj;simp at L;obtain⟨⟨rfl,rfl⟩,rfl⟩:=L;exact c0)
 have H:Hd (∀w',xA w' (I (Q ⟨b,o,Z⟩) (G t) cap) t->w'.cell? ⟨b,o,Z⟩=Q (O t[0])):=zD (fun w' h=>HC.u w' 0 d h);have N:=zD z;generalize t[0]=x at *;go_enter func81,ntmps81;go_wp2_with fail
 all_goals
  refine(qv (by first | exact xA.gone (by omega) rfl | exact N.u.drop 1 _ _ rfl (by omega)) (R.u.drop 1)).mono ?_;rintro e w1 ⟨rfl,k⟩;have f:=zD (N.u.zP k);have y:=zD k;have cx:=H.u _ f.u;go_wp2_with fail
  all_goals
   refine(tM R.u _ _ (by first | exact f.u | (subst h;exact f.u))).mono ?_;rintro e w2 ⟨rfl,A⟩;have J:=zD (y.u.trans (A.mono (B':=w.heap.size) y.u.size));go_wp2;go_ret;exact⟨by rw[HE.u];first | rfl | exact yj (by simp),J.u⟩
theorem Ax (hf:Y8 t) (d:0 < G t) (e0:(t[0].toList==[101,110,100])=W) (e1:(t[0].toList==[101,108,115,101])=W) (e2:(t[0].toList==[114,101,116,117,114,110])=W) (e3:(t[0].toList==[118,97,114])=W) (e4:(t[0].toList==[114,101,97,100])=W) (e5:(t[0].toList==[112,114,111,99])=W) (e6:(t[0].toList==[105,102])=W) (e7:(t[0].toList==[119,104,105,108,101])=W) (e8:(t[0].toList==[112,114,105,110,116])=W) (e9:(t[0].toList==[115,101,116])=W) (V:(t[0].toList==[99,97,108,108])=W) (U:(t[0].toList==[97,114,114,97,121])=D):kv 81 xM t:=by
 intro w v R;have HF:=zD hf;obtain⟨ad,cap,rfl,a2⟩:=R.form;obtain⟨b,o,rfl⟩:=R.qZ (by intro h;rw[h]at d;simp at d);have hz:¬G t=0:=by omega
 have f:xM t=Rf.isKind t t[0].toList:=by rw[xM,zA hz,Rf.first,qq d]
 unfold Rf.isKind at f;rw[e0,zA (by decide),e1,zA (by decide),e2,zA (by decide),e3,zA (by decide),e4,zA (by decide),e5,zA (by decide),e6,zA (by decide),e7,zA (by decide),e8,zA (by decide),e9,zA (by decide),V,zA (by decide),U,zE rfl]at f;have HE:=zD f;clear f;have HC:Hd (∀w' j (hj:j < G t),xA w' (I (Q ⟨b,o,Z⟩) (G t) cap) t->w'.cell? ⟨b,o+j,Z⟩=Q (O t[j])):=zD (by
  intro w' j hj h;obtain⟨b',o',cap',he,c0⟩:=h.cell hj;simp at he;obtain⟨⟨rfl,rfl⟩,rfl⟩:=he;exact c0)
 have a1:Hd (∀w',xA w' (I (Q ⟨b,o,Z⟩) (G t) cap) t->w'.cell? ⟨b,o,Z⟩=Q (O t[0])):=zD (fun w' h=>HC.u w' 0 d h);have HV:=zD R;generalize t[0]=x at *;go_enter func81,ntmps81;go_wp2_with fail
 all_goals
  refine(qv (by first | exact xA.gone (by omega) rfl | exact HV.u.drop 1 _ _ rfl (by omega)) (HF.u.drop 1)).mono ?_;rintro e w1 ⟨rfl,H⟩;have i:=zD (HV.u.zP H);have A:=zD H;have cx:=a1.u _ i.u;by_cases hn:G t=3
  ·have T:((G t:Int)==3)=D:=by rw[xw];omega
   have N:1 < G t:=by omega
   have M:2 < G t:=by omega
   have J:=zD (show xM t=(Rf.yg t[1] && xi t[2] && decide ((1:Int)<=Rf.worth t[2]) && decide (Rf.worth t[2]<=(32:Int))) by rw[HE.u,Qn,zE hn,qq N,qq M]);have c1:=HC.u _ 1 N i.u;have a0:=zD (fun w' h=>HC.u w' 2 M h);have s1:t[1].size<=maxLen:=by have:=HF.u.2 _ (zj N);unfold maxLen;omega
   have L:t[2].size<=maxLen:=by have:=HF.u.2 _ (zj M);unfold maxLen;omega
   generalize t[1]=y at *;generalize t[2]=z at *;go_wp2_with fail;refine(XJ y s1).mono ?_;rintro e w2 ⟨rfl,F⟩;have k:=zD (A.u.trans (F.mono (B':=w.heap.size) A.u.size));have c2:=a0.u _ (i.u.zP F);cases hy:Rf.yg y with
   | false=>
    go_wp2_with fail
    all_goals
     go_ret;exact⟨by rw[J.u,hy];rfl,k.u⟩
   | true=>
    cases hq:xi z with
    | false=>
     go_wp2_with (first | (go_at_call 139;refine(Yv z L).mono ?_;rintro e w' ⟨rfl,rfl⟩;rw[hq]))
     all_goals
      go_ret;exact⟨by rw[J.u,hy,hq];rfl,k.u⟩
    | true=>
     go_wp2_with (first | (go_at_call 139;refine(Yv z L).mono ?_;rintro e w' ⟨rfl,rfl⟩;rw[hq])| (go_at_call 93;refine(bx z L).mono ?_;rintro e w' ⟨rfl,rfl⟩))
     all_goals
      go_ret;exact⟨by rw[J.u,hy,hq];exact yj (by simp_all <;> omega),k.u⟩
  ·have T:((G t:Int)==3)=W:=by rw[zV];omega
   have J:=zD (show xM t=W by rw[HE.u,Qn,zA hn]);go_wp2;go_ret;exact⟨by rw[J.u];rfl,A.u⟩
theorem Aw (N:Y8 t) (d:0 < G t) (e0:(t[0].toList==[101,110,100])=W) (e1:(t[0].toList==[101,108,115,101])=W) (e2:(t[0].toList==[114,101,116,117,114,110])=W) (e3:(t[0].toList==[118,97,114])=W) (e4:(t[0].toList==[114,101,97,100])=W) (e5:(t[0].toList==[112,114,111,99])=W) (V:(t[0].toList==[105,102])=W) (U:(t[0].toList==[119,104,105,108,101])=W) (T:(t[0].toList==[112,114,105,110,116])=W) (R:(t[0].toList==[115,101,116])=W) (z:(t[0].toList==[99,97,108,108])=W) (y:(t[0].toList==[97,114,114,97,121])=W):kv 81 xM t:=by
 intro w v k;have HF:=zD N;obtain⟨ad,cap,rfl,J⟩:=k.form;obtain⟨b,o,rfl⟩:=k.qZ (by intro h;rw[h]at d;simp at d);have M:¬G t=0:=by omega
 have f:xM t=Rf.isKind t t[0].toList:=by rw[xM,zA M,Rf.first,qq d]
 unfold Rf.isKind at f;rw[e0,zA (by decide),e1,zA (by decide),e2,zA (by decide),e3,zA (by decide),e4,zA (by decide),e5,zA (by decide),V,zA (by decide),U,zA (by decide),T,zA (by decide),R,zA (by decide),z,zA (by decide),y,zA (by decide)]at f;have HE:=zD f;have HC:Hd (∀w' j (hj:j < G t),xA w' (I (Q ⟨b,o,Z⟩) (G t) cap) t->w'.cell? ⟨b,o+j,Z⟩=Q (O t[j])):=zD (by
  intro w' j hj h;obtain⟨b',o',cap',H,c0⟩:=h.cell hj;simp at H;obtain⟨⟨rfl,rfl⟩,rfl⟩:=H;exact c0)
 have D:Hd (∀w',xA w' (I (Q ⟨b,o,Z⟩) (G t) cap) t->w'.cell? ⟨b,o,Z⟩=Q (O t[0])):=zD (fun w' h=>HC.u w' 0 d h);have L:=zD k;generalize t[0]=x at *;go_enter func81,ntmps81;go_wp2_with fail
 all_goals
  refine(qv (by first | exact xA.gone (by omega) rfl | exact L.u.drop 1 _ _ rfl (by omega)) (HF.u.drop 1)).mono ?_;rintro e w1 ⟨rfl,i⟩;have A:=zD (L.u.zP i);have F:=zD i;have cx:=D.u _ A.u;go_wp2;go_ret;exact⟨by rw[HE.u];rfl,F.u⟩
theorem tK (d:Y8 t):kv 81 xM t:=by
 by_cases h0:0 < G t
 ·by_cases e0:(t[0].toList==[101,110,100])=D
  ·exact C0 d h0  e0
  replace e0:=yL.mpr e0
  by_cases e1:(t[0].toList==[101,108,115,101])=D
  ·exact Cz d h0 e0 e1
  replace e1:=yL.mpr e1
  by_cases e2:(t[0].toList==[114,101,116,117,114,110])=D
  ·exact Cy d h0 e0 e1 e2
  replace e2:=yL.mpr e2
  by_cases e3:(t[0].toList==[118,97,114])=D
  ·exact Cx d h0 e0 e1 e2 e3
  replace e3:=yL.mpr e3
  by_cases e4:(t[0].toList==[114,101,97,100])=D
  ·exact Cw d h0 e0 e1 e2 e3 e4
  replace e4:=yL.mpr e4
  by_cases e5:(t[0].toList==[112,114,111,99])=D
  ·exact Cv d h0 e0 e1 e2 e3 e4 e5
  replace e5:=yL.mpr e5
  by_cases e6:(t[0].toList==[105,102])=D
  ·exact Cu d h0 e0 e1 e2 e3 e4 e5 e6
  replace e6:=yL.mpr e6
  by_cases e7:(t[0].toList==[119,104,105,108,101])=D
  ·exact Ct d h0 e0 e1 e2 e3 e4 e5 e6 e7
  replace e7:=yL.mpr e7
  by_cases e8:(t[0].toList==[112,114,105,110,116])=D
  ·exact Cs d h0 e0 e1 e2 e3 e4 e5 e6 e7 e8
  replace e8:=yL.mpr e8
  by_cases e9:(t[0].toList==[115,101,116])=D
  ·exact Cr d h0 e0 e1 e2 e3 e4 e5 e6 e7 e8 e9
  replace e9:=yL.mpr e9
  by_cases e10:(t[0].toList==[99,97,108,108])=D
  ·exact Ay d h0 e0 e1 e2 e3 e4 e5 e6 e7 e8 e9 e10
  replace e10:=yL.mpr e10
  by_cases e11:(t[0].toList==[97,114,114,97,121])=D
  ·exact Ax d h0 e0 e1 e2 e3 e4 e5 e6 e7 e8 e9 e10 e11
  replace e11:=yL.mpr e11
  exact Aw d h0 e0 e1 e2 e3 e4 e5 e6 e7 e8 e9 e10 e11
 ·intro w v j;have o:=d.1;obtain⟨x,cap,rfl,f⟩:=j.form;have i:G t=0:=by omega
  have k:=zD (show xM t=D by rw[xM,zE i]);have h:((G t:Int)==0)=D:=by rw[xw];omega
  go_enter func81,ntmps81;go_wp2;go_ret;exact⟨by rw[k.u];rfl,zI _ _⟩
def FG (t:TypeId):Prop:=t=85\/t=87\/t=9
def qm (w:World) (k:Nat) (t:TypeId):Prop:=∃c,w.heap[k]?=Q (V c t (0,0))
structure jA (w:World) (S g cap:Nat) (ls:List Ib):Prop where
 top:w.cell? ⟨S,0,none⟩=some (.slice (some ⟨g,0,none⟩) ls.length cap)
 row:∀l (h:l < ls.length),∃ad c,w.cell? ⟨g,l,none⟩=some (.slice ad ls[l].length c)/\xA w (.slice ad ls[l].length c) ls[l]
 ty:qm w S 85/\qm w g 87
 tys:∀l v,w.cell? ⟨g,l,none⟩=some v->l < ls.length->∀b,v.ownBlock=some b->qm w b 9
theorem X0 (h:w'.heap[k]?=w.heap[k]?):w'.cell? ⟨k,i,Z⟩=w.cell? ⟨k,i,Z⟩:=by
 unfold World.cell?;simp only;rw[h]
theorem jA.stay (h:jA w S g cap ls) (d:∀k t,FG t->qm w k t->w'.heap[k]?=w.heap[k]?):jA w' S g cap ls:=by
 have z:=d S _ (Or.inl rfl) h.ty.1;have i:=d g _ (Or.inr (Or.inl rfl)) h.ty.2;refine⟨by rw[X0 z];exact h.top,fun l hl=>?_,⟨by unfold qm;rw[z];exact h.ty.1,by unfold qm;rw[i];exact h.ty.2⟩,fun l v hv hl b hbb=>?_⟩
 ·obtain⟨F,c,A,x,D,e,f,h2⟩:=h.row l hl;refine⟨F,c,by rw[X0 i];exact A,x,D,e,f,?_⟩;rcases h2 with h2 | ⟨b,o,rfl,h2⟩
  ·exact Or.inl h2
  ·injection e with e1 _ _;subst e1;have:=d b _ (Or.inr (Or.inr rfl)) (h.tys l _ A hl b rfl);exact Or.inr ⟨b,o,rfl,fun j hj=>by rw[X0 this];exact h2 j hj⟩
 ·rw[X0 i]at hv;have y:=h.tys l v hv hl b hbb;unfold qm;rw[d b _ (Or.inr (Or.inr rfl)) y];exact y
theorem jA.zP (h:jA w S g cap ls) (d:Below w.heap.size w w'):jA w' S g cap ls:=
 h.stay (fun k _ _ ⟨_,hc⟩=>d.block k (zQ hc))
structure Lawful (ls:List Ib):Prop where
 len:ls.length<=100
 VJ:∀t∈ls,Y8 t
 top:∀t∈ls,Xl t=true->2<=t.length
theorem Lawful.XO (h:Lawful ls) (d:l < G ls):Y8 ls[l]:=h.VJ _ (zj d)
theorem xz (l:Nat) (h:jA w S g cap ls) (y:l < G ls) (A:G ls<=100):Calls Tryz.prog 45 #[H (Q ⟨S,0,Z⟩),J U ((l:Int)+1)] w fun e w'=>e=T (O (Rf.first ls[l]))/\Below w.heap.size w w':=by
 have F:=h.top;obtain⟨L,c,I,k⟩:=h.row l y;by_cases hz:ls[l].length=0
 ·have d:=zD (A7 hz);have j:((ls[l].length:Int)==0)=D:=by rw[xw];omega
  generalize ls[l]=t at *;go_enter func45,ntmps45;go_wp2;go_ret;exact⟨by rw[d.u];rfl,zI _ _⟩
 ·have i:0 < ls[l].length:=by omega
  have d:=zD (gT i);obtain⟨b,o,cap',f,z⟩:=k.cell i;simp at f;obtain⟨rfl,rfl⟩:=f;rw[d.u];rw[qO]at z;generalize ls[l][0]=x at *;generalize ls[l]=t at *;go_enter func45,ntmps45;go_wp2;go_ret;exact⟨rfl,zI _ _⟩
namespace Rf
theorem wM (t:Ib):(Xl t=D/\(((first t).toList==[118,97,114])=D\/(((first t).toList==[118,97,114])=W/\((first t).toList==[97,114,114,97,121])=D)\/(((first t).toList==[118,97,114])=W/\((first t).toList==[97,114,114,97,121])=W/\((first t).toList==[112,114,111,99])=D)))\/
  (Xl t=W/\((first t).toList==[118,97,114])=W/\((first t).toList==[97,114,114,97,121])=W/\((first t).toList==[112,114,111,99])=W):=by
 unfold Xl;cases ((first t).toList==[118,97,114]) <;> cases ((first t).toList==[97,114,114,97,121]) <;> cases ((first t).toList==[112,114,111,99]) <;> simp
theorem ir {x:Ia} (h:k < G ls):declFrom (k+1) (ls.drop k) x=if Kk ls[k] x=D then k+1 else declFrom (k+1+1) (ls.drop (k+1)) x:=by
 rw[zZ h,declFrom]
end Rf
theorem lR (l:Nat) (h:jA w S g cap ls) (f:l < G ls) (i:G ls<=100):Calls Tryz.prog 46 #[H (Q ⟨S,0,Z⟩),J U ((l:Int)+1)] w fun e w'=>e=T (A (kJ ls[l]))/\Below w.heap.size w w':=by
 have j:=zD h;go_enter func46,ntmps46;go_wp2_with fail;refine(xz l j.u f i).mono ?_;rintro e w1 ⟨rfl,d⟩;have o:=zD d;have k:=zD (show kJ ls[l]=(((Rf.first ls[l]).toList==[112,114,111,99])|| ((Rf.first ls[l]).toList==[105,102])|| ((Rf.first ls[l]).toList==[119,104,105,108,101]))from rfl);generalize Rf.first ls[l]=x at *;go_wp2_with fail
 all_goals
  go_ret;exact⟨by rw[k.u];exact yj (by simp_all),o.u⟩
theorem qg (x:Ia) (h:jA w S g cap ls) (R:Lawful ls):Calls Tryz.prog 84 #[H (Q ⟨S,0,Z⟩),O x] w fun e w'=>e=T (J U (Rf.decl ls x))/\Below w.heap.size w w':=by
 have f:=R.len;have HL:=zD R;have V:=h.top;go_enter func84,ntmps84;go_wp2;go_loopw [5] (fun i wr=>∃k:Nat,k<=G ls/\i=J U ((k:Int)+1)/\Rf.declFrom (k+1) (ls.drop k) x=Rf.decl ls x/\jA wr S g cap ls/\Below w.heap.size w wr) (fun i _=>G ls+1-(intOf i).toNat)
 case atStart=>exact⟨0,zo _,rfl,rfl,h,zI _ _⟩
 case round=>
  obtain⟨k,hk,rfl,F,M,A⟩:=hrel;have V:=M.top;have I:=qG M A;by_cases hlt:k < G ls
  ·have d:(k:Int)+1<=(G ls:Int):=by omega
   rw[ir hlt]at F;have HT:=zD F;go_wp2_with fail;refine(xz k I.u.1 hlt f).mono ?_;rintro e w1 ⟨rfl,D⟩;have HS1:=qG (I.u.1.zP D) (I.u.2.trans (D.mono I.u.2.size));have V:=HS1.u.1.top;obtain⟨ad,c,cR,hv⟩:=HS1.u.1.row k hlt;rcases wM ls[k]with⟨ht,hc⟩| ⟨ht,c1,c2,c3⟩
   ·have h2:=HL.u.top _ (zj hlt) ht;obtain⟨b,o,cap',N,cx⟩:=hv.cell (j:=1) (by omega);simp at N;obtain⟨rfl,rfl⟩:=N;have L:=zD (show Kk ls[k] x=(ls[k][1].toList==x.toList) by rw[Kk,ht,qq (by omega)];rfl);rw[L.u]at HT;generalize ls[k][1]=y at *;generalize Rf.first ls[k]=z at *;generalize ls[k].length=n at *;cases hd:(y.toList==x.toList)with
    | true=>
     rw[hd,zE rfl]at HT;rcases hc with hc | ⟨hc1,hc⟩| ⟨hc1,hc2,hc⟩
     all_goals
      go_wp2;go_ret;exact⟨by rw[<-HT.u];rfl,HS1.u.2⟩
    | false=>
     rw[hd,zA (by decide)]at HT;rcases hc with hc | ⟨hc1,hc⟩| ⟨hc1,hc2,hc⟩
     all_goals
      go_wp2;go_roundw
      ·exact⟨k+1,by omega,by go_num,HT.u,HS1.u.1,HS1.u.2⟩
      ·simp[intOf];omega
   ·have L:=zD (show Kk ls[k] x=W by rw[Kk,ht];rfl);rw[L.u,zA (by decide)]at HT;generalize Rf.first ls[k]=z at *;go_wp2;go_roundw
    ·exact⟨k+1,by omega,by go_num,HT.u,HS1.u.1,HS1.u.2⟩
    ·simp[intOf];omega
  ·have d:¬(k:Int)+1<=(G ls:Int):=by omega
   rw[zp (by omega),Rf.declFrom]at F;have HT:=zD F;clear F;go_wp2;go_ret;exact⟨by rw[<-HT.u];rfl,A⟩
namespace Rf
def twiceFrom (l:Ib):Nat->Nat->Bool
 | 0,_=>false
 | f+1,k=>kp (l.take k) (ve l k)|| twiceFrom l f (k+1)
def VN (l:Ib):Bool:=twiceFrom l (G l) 0
theorem Xy:home ls (n+1)=if ((first (xU ls n)).toList==[112,114,111,99])=D then n+1 else home ls n:=rfl
theorem tN (ls:List Ib):∀n,home ls n<=n
 | 0=>zB _
 | n+1=>by
  have:=tN ls n;rw[Xy];split <;> omega
end Rf
theorem C8 (l:Nat) (h:jA w S g cap ls) (hl:l<=G ls) (f:G ls<=100):Calls Tryz.prog 179 #[H (Q ⟨S,0,Z⟩),J U l] w fun e w'=>e=T (J U (Rf.home ls l))/\Below w.heap.size w w':=by
 have HN:=zD h;go_enter func179,ntmps179;go_wp2;go_loopw [5] (fun i wr=>∃k:Nat,k<=G ls/\i=J U k/\Rf.home ls k=Rf.home ls l/\jA wr S g cap ls/\Below w.heap.size w wr) (fun i _=>(intOf i).toNat)
 case atStart=>exact⟨l,hl,rfl,rfl,HN.u,zI _ _⟩
 case round=>
  obtain⟨k,D,rfl,A,y,x⟩:=hrel;have o:=qG y x;have HT:=zD A;cases k with
  | zero=>
   go_wp2;go_ret;exact⟨by rw[<-HT.u];rfl,o.u.2⟩
  | succ k=>
   have d:k < G ls:=by omega
   rw[Xy,yq d]at HT;rw[show ((k+1:Nat):Int)=(k:Int)+1 by omega];go_wp2_with fail;refine(xz k o.u.1 d f).mono ?_;rintro e w1 ⟨rfl,j⟩;have HS1:=qG (o.u.1.zP j) (o.u.2.trans (j.mono o.u.2.size));generalize Rf.first ls[k]=z at *;cases hz:(z.toList==[112,114,111,99])with
   | true=>
    rw[hz,zE rfl]at HT;go_wp2;go_ret;exact⟨by rw[<-HT.u];rfl,HS1.u.2⟩
   | false=>
    rw[hz,zA (by decide)]at HT;go_wp2;go_roundw
    ·exact⟨k,by omega,by go_num,HT.u,HS1.u.1,HS1.u.2⟩
    ·simp[intOf]
theorem Jd (l:Nat) (h:jA w S g cap ls) (x:l < G ls) (f:G ls<=100) (k:2<=ls[l].length) (A:ls[l].length<=1000):Calls Tryz.prog 117 #[H (Q ⟨S,0,Z⟩),J U ((l:Int)+1)] w fun e w'=>∃v,e=T v/\xA w' v (ls[l].drop 2)/\Below w.heap.size w w':=by
 have D:=h.top;obtain⟨L,c,F,d⟩:=h.row l x;obtain⟨b,o,rfl⟩:=d.qZ (by intro e;rw[e]at k;simp at k);obtain⟨y,I,i,j⟩:=d.form;simp at i;obtain⟨rfl,rfl⟩:=i;have z:=zD d;generalize ls[l]=t at *;go_enter func117,ntmps117;go_wp2_with fail
 all_goals
  go_ret;exact⟨_,rfl,by first | exact xA.gone (by omega) rfl | exact z.u.drop 2 _ _ rfl (by omega),zI _ _⟩
theorem wL (y:xA w v t) (M:G t<=1000):Calls Tryz.prog 140 #[v] w fun e w'=>e=T (A (VN t))/\Below w.heap.size w w':=by
 obtain⟨L,cap,rfl,F⟩:=y.form;have HN:=zD y;go_enter func140,ntmps140;go_wp2;go_loopw [3] (fun i wr=>∃k f:Nat,k+f=G t/\i=J U k/\Rf.twiceFrom t f k=VN t/\xA wr (I L (G t) cap) t/\Below w.heap.size w wr) (fun i _=>G t-(intOf i).toNat)
 case atStart=>exact⟨0,G t,by omega,rfl,rfl,HN.u,zI _ _⟩
 case round=>
  obtain⟨k,f,N,rfl,H,z,j⟩:=hrel;have h:=qG z j;have HT:=zD H;cases f with
  | zero=>
   have d:¬(k:Int) < (G t:Int):=by omega
   go_wp2;go_ret;exact⟨by rw[<-HT.u];rfl,h.u.2⟩
  | succ f=>
   have d:k < G t:=by omega
   obtain⟨b,o,cap',D,O⟩:=z.cell d;simp at D;obtain⟨rfl,rfl⟩:=D;rw[Rf.twiceFrom,qq d]at HT;generalize t[k]=x at *;go_wp2_with fail;go_region_with
    ((go_at_call 132;refine(cr x ((h.u.1.take k cap (by omega) (by omega)).zP (zh _)) (by simp;omega)).mono ?_;rintro e w1 ⟨rfl,rfl⟩))
   all_goals
    have HS1:=qG (h.u.1.zP (zh _)) (h.u.2.trans ((zh _).mono h.u.2.size));cases hz:kp (t.take k) x with
    | true=>
     rw[hz]at HT;go_wp2;go_ret;exact⟨by rw[<-HT.u];rfl,HS1.u.2⟩
    | false=>
     rw[hz,Ve]at HT;go_wp2;go_roundw
     ·exact⟨k+1,f,by omega,by go_num,HT.u,HS1.u.1,HS1.u.2⟩
     ·simp[intOf];omega
namespace Rf
def cellAt (t:Ib) (i:Nat):Bool:=(ve t (i+1)).toList==[91]
def Vp (ls:List Ib) (l:Nat):Ib:=(xU ls (home ls (l+1)-1)).drop 2
def QK (ls:List Ib) (l:Nat) (x:Ia) (cell:Bool):Bool:=
 if yg x=W then D
 else if kp (Vp ls l) x=D then !cell
 else if decl ls x=0 then W
 else if cell=D then ((first (xU ls (decl ls x-1))).toList==[97,114,114,97,121])else ((first (xU ls (decl ls x-1))).toList==[118,97,114])
theorem nN (ls:List Ib):∀n,0 < home ls n->((first (xU ls (home ls n-1))).toList==[112,114,111,99])=D
 | 0,h=>by simp[home]at h
 | n+1,h=>by
  rw[Xy]at h ⊢;split
  ·rename_i hc;exact hc
  ·rename_i hc;rw[zA hc]at h;exact nN ls n h
end Rf
theorem A2 (l:Nat) (h:jA w S g cap ls) (f:l < G ls) (d:G ls<=100):Calls Tryz.prog 179 #[H (Q ⟨S,0,Z⟩),J U ((l:Int)+1)] w fun e w'=>e=T (J U (Rf.home ls (l+1)))/\Below w.heap.size w w':=by
 have h:=C8 (l+1) h f d;rw[show ((l+1:Nat):Int)=(l:Int)+1 by omega]at h;exact h
theorem Aa (l i:Nat) (h:jA w S g cap ls) (hL:Lawful ls) (hl:l < G ls) (hi:i < ls[l].length) (hh:Rf.yg ls[l][i]=D->0 < Rf.home ls (l+1)):Calls Tryz.prog 142 #[H (Q ⟨S,0,Z⟩),J U ((l:Int)+1),J U i] w fun e w'=>e=T (A (QK ls l ls[l][i] (Rf.cellAt ls[l] i)))/\Below w.heap.size w w':=by
 have M:=hL.len;have HL:=zD hL;have HH:=zD h;have hf:=hL.XO hl;have d2:=hf.1;have cT:=h.top;obtain⟨ad,c,cR,hv⟩:=h.row l hl;obtain⟨b,o,rfl⟩:=hv.qZ (by intro e;rw[e]at hi;simp at hi);obtain⟨b',o',cap',he,cx⟩:=hv.cell hi;simp at he;obtain⟨⟨rfl,rfl⟩,rfl⟩:=he;have HV:=zD hv;have b4:ls[l][i].size<=maxLen:=by have:=hf.2 _ (zj hi);unfold maxLen;omega
 have HC:Hd (∀w',xA w' (I (Q ⟨b,o,Z⟩) ls[l].length c) ls[l]->w'.cell? ⟨b,o+i,Z⟩=Q (O ls[l][i])):=zD (by
  intro w' h;obtain⟨b',o',cap',he,c0⟩:=h.cell hi;simp at he;obtain⟨⟨rfl,rfl⟩,rfl⟩:=he;exact c0)
 have a9:Hd (∀(hj:i+1 < ls[l].length) w',xA w' (I (Q ⟨b,o,Z⟩) ls[l].length c) ls[l]->w'.cell? ⟨b,o+(i+1),Z⟩=Q (O ls[l][i+1])):=zD (by
  intro hj w' h;obtain⟨b',o',cap',he,c0⟩:=h.cell hj;simp at he;obtain⟨⟨rfl,rfl⟩,rfl⟩:=he;exact c0)
 have HA:=zD (show ∀hj:i+1 < ls[l].length,Rf.cellAt ls[l] i=(ls[l][i+1].toList==[91])from fun hj=>by rw[Rf.cellAt,qq hj]);have HZ:=zD (show ¬i+1 < ls[l].length->Rf.cellAt ls[l] i=W from fun hj=>by
  have e:ve ls[l] (i+1)=⟨#[]⟩:=by simp[ve,xt (show ls[l].length<=i+1 by omega)]
  rw[Rf.cellAt,e];simp)
 have d0:=zD hh;generalize ls[l][i]=x at *;generalize ls[l]=t at *;generalize hR:QK ls l x (Rf.cellAt t i)=R;have HR:=zD hR;go_enter func142,ntmps142;go_wp2_with fail;refine(XJ x b4).mono ?_;rintro e w1 ⟨rfl,a5⟩;have a1:=qG (HH.u.zP a5) a5;have b9:=zD (HV.u.zP a5);cases hnm:Rf.yg x with
 | false=>
  have L:=zD (show R=D by rw[<-HR.u,QK,zE hnm]);go_wp2;go_ret;exact⟨by rw[L.u];rfl,a1.u.2⟩
 | true=>
  have L:=zD (show R=if kp (Vp ls l) x=D then !(Rf.cellAt t i)else if Rf.decl ls x=0 then W else if Rf.cellAt t i=D then ((Rf.first (xU ls (Rf.decl ls x-1))).toList==[97,114,114,97,121])else ((Rf.first (xU ls (Rf.decl ls x-1))).toList==[118,97,114]) by
   rw[<-HR.u,QK,zA (by rw[hnm];simp)])
  have b0:=d0.u hnm;have d1:=tN ls (l+1);have b2:=nN ls (l+1) b0;obtain⟨p,hp⟩:∃p,Rf.home ls (l+1)=p+1:=⟨Rf.home ls (l+1)-1,by omega⟩;have F:p < G ls:=by omega
  rw[hp,zu,yq F]at b2;have b7:2<=ls[p].length:=HL.u.top _ (zj F) (by unfold Xl;rw[b2];simp);have b6:=HL.u.XO F;have HP:=zD (show Vp ls l=ls[p].drop 2 by rw[Vp,hp,zu,yq F]);have b1:=b6.1;have b8:=zD hp;go_wp2_with (go_at_call 179;refine(A2 l a1.u.1 hl M).mono ?_;rintro e w2 ⟨rfl,a4⟩;rw[b8.u]);have a2:=qG (a1.u.1.zP a4) (a1.u.2.trans (a4.mono a1.u.2.size));have a7:=zD (b9.u.zP a4);have cx:=HC.u _ a7.u;go_region_held3 (fun w'=>w'.cell? ⟨b,o+i,Z⟩=Q (O x)) (first | go_keep | exact HC.u _ (a7.u.zP (yh hb3))) (first | (go_at_call 117;refine(Jd p (a2.u.1.zP (zh _)) F M b7 b1).mono ?_;rintro e w3 ⟨v3,rfl,b5,hb3⟩)| (go_at_call 132;refine(cr x b5 (by simp;omega)).mono ?_;rintro e w4 ⟨rfl,rfl⟩));have a0:=yh hb3;have f:=qG (a2.u.1.zP a0) (a2.u.2.trans (a0.mono a2.u.2.size));have a6:=zD (a7.u.zP a0);rw[HP.u]at L;generalize kp (ls[p].drop 2) x=pb at *;cases pb with
  | true=>
   rw[zE rfl]at L;by_cases hj:i+1 < G t
   ·have N:(i:Int)+1 < (G t:Int):=by omega
    have cy:=a9.u hj _ a6.u;rw[HA.u hj]at L;generalize t[i+1]=y at *;go_wp2_with fail
    all_goals
     go_ret;exact⟨by rw[L.u];exact yj (by simp_all),f.u.2⟩
   ·have N:¬(i:Int)+1 < (G t:Int):=by omega
    rw[HZ.u hj]at L;go_wp2_with fail
    all_goals
     go_ret;exact⟨by rw[L.u];exact yj (by simp_all),f.u.2⟩
  | false=>
   rw[zA (by decide)]at L;have d3:=Qb ls x;cases hd:Rf.decl ls x with
   | zero=>
    rw[hd,zE rfl]at L;by_cases hj:i+1 < G t
    ·have N:(i:Int)+1 < (G t:Int):=by omega
     have cy:=a9.u hj _ a6.u;generalize t[i+1]=y at *;go_wp2_with (go_at_call 84;refine(qg x f.u.1 HL.u).mono ?_;rintro e w5 ⟨rfl,j⟩;rw[hd];have k:=zD (f.u.2.trans (j.mono f.u.2.size));clear j)
     all_goals
      go_ret;exact⟨by rw[L.u];rfl,k.u⟩
    ·have N:¬(i:Int)+1 < (G t:Int):=by omega
     go_wp2_with (go_at_call 84;refine(qg x f.u.1 HL.u).mono ?_;rintro e w5 ⟨rfl,j⟩;rw[hd];have k:=zD (f.u.2.trans (j.mono f.u.2.size));clear j)
     all_goals
      go_ret;exact⟨by rw[L.u];rfl,k.u⟩
   | succ d=>
    have a3:d < G ls:=by omega
    rw[hd,zA (by omega),zu,yq a3]at L;have b3:((d+1:Nat):Int)=(d:Int)+1:=by omega
    by_cases hj:i+1 < G t
    ·have N:(i:Int)+1 < (G t:Int):=by omega
     have cy:=a9.u hj _ a6.u;rw[HA.u hj]at L;generalize t[i+1]=y at *;go_wp2_with (first | (go_at_call 84;refine(qg x f.u.1 HL.u).mono ?_;rintro e w5 ⟨rfl,j⟩;rw[hd,b3];have k:=qG (f.u.1.zP j) (f.u.2.trans (j.mono f.u.2.size));clear j)| (go_at_call 45;refine(xz d k.u.1 a3 M).mono ?_;rintro e w6 ⟨rfl,V⟩;have a8:=zD (k.u.2.trans (V.mono k.u.2.size));clear V;generalize Rf.first ls[d]=z at *))
     all_goals
      go_ret;exact⟨by rw[L.u];exact yj (by simp_all),a8.u⟩
    ·have N:¬(i:Int)+1 < (G t:Int):=by omega
     rw[HZ.u hj]at L;go_wp2_with (first | (go_at_call 84;refine(qg x f.u.1 HL.u).mono ?_;rintro e w5 ⟨rfl,j⟩;rw[hd,b3];have k:=qG (f.u.1.zP j) (f.u.2.trans (j.mono f.u.2.size));clear j)| (go_at_call 45;refine(xz d k.u.1 a3 M).mono ?_;rintro e w6 ⟨rfl,V⟩;have a8:=zD (k.u.2.trans (V.mono k.u.2.size));clear V;generalize Rf.first ls[d]=z at *))
     all_goals
      go_ret;exact⟨by rw[L.u];exact yj (by simp_all),a8.u⟩
namespace Rf
def Xr (ls:List Ib) (t:Ib):Bool:=
 if decl ls (ve t 1)=0 then W
 else if ((first (xU ls (decl ls (ve t 1)-1))).toList==[112,114,111,99])=W then W
 else decide ((parts (t.drop 2)).length=((xU ls (decl ls (ve t 1)-1)).drop 2).length)
end Rf
theorem tj (l:Nat) (h:jA w S g cap ls) (hL:Lawful ls) (hl:l < G ls) (h2:2<=ls[l].length):Calls Tryz.prog 141 #[H (Q ⟨S,0,Z⟩),J U ((l:Int)+1)] w fun e w'=>e=T (A (Xr ls ls[l]))/\Below w.heap.size w w':=by
 have k:=hL.len;have HL:=zD hL;have HH:=zD h;have hf:=hL.XO hl;have HF:=zD hf;have cT:=h.top;obtain⟨ad,c,cR,hv⟩:=h.row l hl;obtain⟨b,o,rfl⟩:=hv.qZ (by intro e;rw[e]at h2;simp at h2);have h1:1 < ls[l].length:=by omega
 obtain⟨b',o',cap',O,cx⟩:=hv.cell h1;simp at O;obtain⟨⟨rfl,rfl⟩,rfl⟩:=O;obtain⟨b3,c',O,a8⟩:=hv.form;simp at O;obtain⟨rfl,rfl⟩:=O;have HV:=zD hv;have HA:=zD (qq h1);generalize hR:Xr ls ls[l]=R;rw[Xr,HA.u]at hR;have M:=zD hR;generalize ls[l][1]=x at *;generalize ls[l]=t at *;go_enter func141,ntmps141;go_wp2_with fail;refine(qg x HH.u HL.u).mono ?_;rintro e w1 ⟨rfl,I⟩;have i:=qG (HH.u.zP I) I;have a6:=zD (HV.u.zP I);have b0:=Qb ls x;cases hd:Rf.decl ls x with
 | zero=>
  rw[hd,zE rfl]at M;go_wp2;go_ret;exact⟨by rw[<-M.u];rfl,i.u.2⟩
 | succ d=>
  have f:d < G ls:=by omega
  rw[hd,zA (by omega),zu,yq f]at M;have a2:(((d+1:Nat):Int)==0)=W:=by rw[zV];omega
  have a3:((d+1:Nat):Int)=(d:Int)+1:=by omega
  rw[a3]at a2 ⊢;have HZ:=zD (show ((Rf.first ls[d]).toList==[112,114,111,99])=D->2<=ls[d].length from fun hz=>HL.u.top _ (zj f) (by unfold Xl;rw[hz];simp));have N:=(HL.u.XO f).1;go_wp2_with fail;refine(xz d i.u.1 f k).mono ?_;rintro e w2 ⟨rfl,F⟩;have j:=qG (i.u.1.zP F) (i.u.2.trans (F.mono i.u.2.size));have a5:=zD (a6.u.zP F);generalize Rf.first ls[d]=z at *;cases hz:(z.toList==[112,114,111,99])with
  | false=>
   rw[hz,zE rfl]at M;go_wp2;go_ret;exact⟨by rw[<-M.u];rfl,j.u.2⟩
  | true=>
   rw[hz,zA (by decide)]at M;have a1:=HZ.u hz;go_wp2_with fail
   all_goals
    refine(cY (by first | exact xA.gone (by omega) (by omega)| exact a5.u.drop 2 _ _ rfl (by omega)) (HF.u.drop 2)).mono ?_;rintro e w3 ⟨V,v3,a9,rfl,y,_⟩;have L:=qG (j.u.1.zP V) (j.u.2.trans (V.mono j.u.2.size));obtain⟨b2,c3,rfl⟩:=zK y;go_wp2_with fail;refine(Jd d L.u.1 f k a1 N).mono ?_;rintro e w4 ⟨v4,rfl,a0,a4⟩;have a7:=zD (L.u.2.trans (a4.mono L.u.2.size));obtain⟨b1,c4,rfl,_⟩:=a0.form;go_wp2;go_ret;exact⟨by rw[<-M.u];exact yj (by rw[xO];simp;omega),a7.u⟩
namespace Rf
def namesFrom (ls:List Ib) (l:Nat) (t:Ib):Nat->Nat->Bool
 | 0,_=>true
 | f+1,k=>QK ls l (ve t k) (cellAt t k) && namesFrom ls l t f (k+1)
def uT (ls:List Ib) (l:Nat) (t:Ib):Bool:=
 decide (decl ls (ve t 1)=l+1) && !VN (t.drop 2) && (!((ve t 1).toList==[109,97,105,110])|| decide (G t=2))
def jZ (ls:List Ib) (l:Nat) (t:Ib):Bool:=
 if ((first t).toList==[118,97,114])=D then decide (decl ls (ve t 1)=l+1)
 else if ((first t).toList==[97,114,114,97,121])=D then decide (decl ls (ve t 1)=l+1)
 else if ((first t).toList==[112,114,111,99])=D then uT ls l t
 else if ((first t).toList==[99,97,108,108])=D then Xr ls t && namesFrom ls l t (G t-2) 2
 else namesFrom ls l t (G t-1) 1
end Rf
structure nh (ls:List Ib) (l:Nat) (hl:l < ls.length):Prop where
 home:Xl ls[l]=false->∀i (h:i < ls[l].length),Rf.yg ls[l][i]=true->0 < Rf.home ls (l+1)
 call:((Rf.first ls[l]).toList==[99,97,108,108])=true->2<=ls[l].length
theorem fQ (l:Nat) (h:jA w S g cap ls) (y:Lawful ls) (k:l < G ls) (hz:((Rf.first ls[l]).toList==[118,97,114])=D\/(((Rf.first ls[l]).toList==[118,97,114])=W/\((Rf.first ls[l]).toList==[97,114,114,97,121])=D)):Calls Tryz.prog 83 #[H (Q ⟨S,0,Z⟩),J U ((l:Int)+1)] w fun e w'=>e=T (A (jZ ls l ls[l]))/\Below w.heap.size w w':=by
 have i:=y.len;have HL:=zD y;have HH:=zD h;have cT:=h.top;obtain⟨ad,c,cR,L⟩:=h.row l k;have N:2<=ls[l].length:=y.top _ (zj k) (by unfold Xl;rcases hz with hz | ⟨_,hz⟩ <;> rw[hz] <;> simp);obtain⟨b,o,rfl⟩:=L.qZ (by intro e;rw[e]at N;simp at N);have V:1 < ls[l].length:=by omega
 have HC:Hd (∀w',xA w' (I (Q ⟨b,o,Z⟩) ls[l].length c) ls[l]->w'.cell? ⟨b,o+1,Z⟩=Q (O ls[l][1])):=zD (by
  intro w' h;obtain⟨b',o',cap',M,c0⟩:=h.cell V;simp at M;obtain⟨⟨rfl,rfl⟩,rfl⟩:=M;exact c0)
 have HV:=zD L;have HA:=zD (qq V);have hR:jZ ls l ls[l]=decide (Rf.decl ls ls[l][1]=l+1):=by
  rw[<-HA.u];rcases hz with hz | ⟨hz1,hz⟩
  ·rw[jZ,zE hz]
  ·rw[jZ,zA (by rw[hz1];simp),zE hz]
 have HR:=zD hR;generalize jZ ls l ls[l]=R at *;go_enter func83,ntmps83;go_wp2_with fail;refine(xz l HH.u k i).mono ?_;rintro e w1 ⟨rfl,d⟩;have f:=qG (HH.u.zP d) d;have cx:=HC.u _ (HV.u.zP d);generalize ls[l][1]=x at *;generalize Rf.first ls[l]=z at *;rcases hz with hz | ⟨hz1,hz⟩
 all_goals
  go_wp2_with (go_at_call 84;refine(qg x f.u.1 HL.u).mono ?_;rintro e w2 ⟨rfl,j⟩;have F:=zD (f.u.2.trans (j.mono f.u.2.size));clear j);go_ret;exact⟨by rw[HR.u];exact yj (by rw[xO];simp;omega),F.u⟩
theorem rp (l:Nat) (h:jA w S g cap ls) (hL:Lawful ls) (hl:l < G ls) (q1:((Rf.first ls[l]).toList==[118,97,114])=W) (q2:((Rf.first ls[l]).toList==[97,114,114,97,121])=W) (q3:((Rf.first ls[l]).toList==[112,114,111,99])=D):Calls Tryz.prog 83 #[H (Q ⟨S,0,Z⟩),J U ((l:Int)+1)] w fun e w'=>e=T (A (jZ ls l ls[l]))/\Below w.heap.size w w':=by
 have y:=hL.len;have HL:=zD hL;have HH:=zD h;have cT:=h.top;have hf:=hL.XO hl;have a2:=hf.1;obtain⟨ad,c,cR,hv⟩:=h.row l hl;have h2:2<=ls[l].length:=hL.top _ (zj hl) (by unfold Xl;rw[q3];simp);obtain⟨b,o,rfl⟩:=hv.qZ (by intro e;rw[e]at h2;simp at h2);obtain⟨a3,c',F,a1⟩:=hv.form;simp at F;obtain⟨rfl,rfl⟩:=F;have h1:1 < ls[l].length:=by omega
 have HC:Hd (∀w',xA w' (I (Q ⟨b,o,Z⟩) ls[l].length c) ls[l]->w'.cell? ⟨b,o+1,Z⟩=Q (O ls[l][1])):=zD (by
  intro w' h;obtain⟨b',o',cap',F,c0⟩:=h.cell h1;simp at F;obtain⟨⟨rfl,rfl⟩,rfl⟩:=F;exact c0)
 have HV:=zD hv;have HA:=zD (qq h1);have hR:jZ ls l ls[l]=(decide (Rf.decl ls ls[l][1]=l+1) && !VN (ls[l].drop 2) && (!(ls[l][1].toList==[109,97,105,110])|| decide (ls[l].length=2))):=by
  rw[<-HA.u];rw[jZ,zA (by rw[q1];simp),zA (by rw[q2];simp),zE q3,uT]
 have f:=zD hR;generalize jZ ls l ls[l]=R at *;go_enter func83,ntmps83;go_wp2_with fail;refine(xz (S:=S) (g:=g) (cap:=cap) (ls:=ls) l HH.u hl y).mono ?_;rintro e w1 ⟨rfl,j⟩;have k:=qG (HH.u.zP j) j;have N:=zD (HV.u.zP j);have cx:=HC.u _ N.u;generalize ls[l][1]=x at *;generalize Rf.first ls[l]=z at *;generalize ls[l]=t at *;go_wp2_with (go_at_call 84;refine(qg (S:=S) (g:=g) (cap:=cap) (ls:=ls) x k.u.1 HL.u).mono ?_;rintro e w2 ⟨rfl,i⟩;have M:=zD (N.u.zP i);have V:=zD (k.u.2.trans (i.mono k.u.2.size));clear i)
 all_goals
  refine(wL (t:=(t.drop 2)) (by first | exact xA.gone (by omega) (by omega)| exact M.u.drop 2 _ _ rfl (by omega)) (by simp;omega)).mono ?_;rintro e w3 ⟨rfl,L⟩;have d:=zD (V.u.trans (L.mono V.u.size));have cy:=HC.u _ (M.u.zP L);generalize VN (t.drop 2)=tw at *;by_cases hd:Rf.decl ls x=l+1
  ·have a0:((Rf.decl ls x:Int)==(l:Int)+1)=D:=by rw[xw];omega
   rw[qA hd]at f;cases tw with
   | true=>
    go_wp2;go_ret;exact⟨by rw[f.u];rfl,d.u⟩
   | false=>
    cases hm:(x.toList==[109,97,105,110])with
    | true=>
     rw[hm]at f;go_wp2_with fail
     all_goals
      go_ret;exact⟨by rw[f.u];exact yj (by rw[xO];simp;omega),d.u⟩
    | false=>
     rw[hm]at f;go_wp2_with fail
     all_goals
      go_ret;exact⟨by rw[f.u];rfl,d.u⟩
  ·have a0:((Rf.decl ls x:Int)==(l:Int)+1)=W:=by rw[zV];omega
   rw[qP hd]at f;go_wp2_with fail
   all_goals
    go_ret;exact⟨by rw[f.u];rfl,d.u⟩
theorem fw (l i:Nat) (t:Ib) (h:jA w S g cap ls) (o:Lawful ls) (f:l < G ls) (d:ls[l]=t) (j:i < G t) (k:Rf.yg t[i]=D->0 < Rf.home ls (l+1)):Calls Tryz.prog 142 #[H (Q ⟨S,0,Z⟩),J U ((l:Int)+1),J U i] w fun e w'=>e=T (A (QK ls l t[i] (Rf.cellAt t i)))/\Below w.heap.size w w':=by
 subst d;exact Aa l i h o f j k
theorem oC (h:jA w S g cap ls) (L:Lawful ls) (y:l < G ls) (o:nh ls l y) (q1:((Rf.first ls[l]).toList==[118,97,114])=W) (q2:((Rf.first ls[l]).toList==[97,114,114,97,121])=W) (q3:((Rf.first ls[l]).toList==[112,114,111,99])=W) (q4:((Rf.first ls[l]).toList==[99,97,108,108])=W):Calls Tryz.prog 83 #[H (Q ⟨S,0,Z⟩),J U ((l:Int)+1)] w fun e w'=>e=T (A (jZ ls l ls[l]))/\Below w.heap.size w w':=by
 have x:=L.len;have HL:=zD L;have HH:=zD h;have cT:=h.top;have hf:=L.XO y;have a1:=hf.1;obtain⟨ad,c,cR,hv⟩:=h.row l y;have d:=o.home (by unfold Xl;rw[q1,q2,q3];rfl);have V:=zD d;have hR:jZ ls l ls[l]=Rf.namesFrom ls l ls[l] (ls[l].length-1) 1:=by
  rw[jZ,zA (by rw[q1];simp),zA (by rw[q2];simp),zA (by rw[q3];simp),zA (by rw[q4];simp)]
 have HR:=zD hR;have a0:=zD (show ∀k (hk:k < ls[l].length),ve ls[l] k=ls[l][k]from fun k hk=>qq hk);clear h L hv hR d o;generalize jZ ls l ls[l]=R at *;go_enter func83,ntmps83;go_wp2_with fail;refine(xz l HH.u y x).mono ?_;rintro e w1 ⟨rfl,F⟩;have HS1:=qG (HH.u.zP F) F;generalize Rf.first ls[l]=z at *;go_wp2_with fail;generalize N:ls[l]=t at *;have O:=zD N;go_loopw [10] (fun i wr=>∃k f:Nat,1<=k/\(k+f=G t\/(f=0/\G t<=k))/\k<=1000/\i=J U k/\Rf.namesFrom ls l t f k=R/\jA wr S g cap ls/\Below w.heap.size w wr) (fun i _=>G t-(intOf i).toNat)
 case atStart=>exact⟨1,G t-1,zB _,by omega,by omega,rfl,HR.u.symm,HS1.u.1,HS1.u.2⟩
 case round=>
  obtain⟨k,f,a3,hk,a2,rfl,hT,hs,M⟩:=hrel;have I:=qG hs M;have HT:=zD hT;cases f with
  | zero=>
   have j:¬(k:Int) < (G t:Int):=by omega
   go_wp2;go_ret;exact⟨by rw[<-HT.u];rfl,I.u.2⟩
  | succ f=>
   have j:k < G t:=by omega
   rw[Rf.namesFrom,a0.u k j]at HT;go_wp2_with fail;refine(fw l k t I.u.1 HL.u y O.u j (V.u k j)).mono ?_;rintro e w2 ⟨rfl,D⟩;have HS2:=qG (I.u.1.zP D) (I.u.2.trans (D.mono I.u.2.size));cases hz:QK ls l t[k] (Rf.cellAt t k)with
   | false=>
    rw[hz]at HT;go_wp2;go_ret;exact⟨by rw[<-HT.u];rfl,HS2.u.2⟩
   | true=>
    rw[hz,Vd]at HT;go_wp2;go_roundw
    ·exact⟨k+1,f,by omega,by omega,by omega,by go_num,HT.u,HS2.u.1,HS2.u.2⟩
    ·simp[intOf];omega
theorem rq (h:jA w S g cap ls) (O:Lawful ls) (y:l < G ls) (x:nh ls l y) (q1:((Rf.first ls[l]).toList==[118,97,114])=W) (q2:((Rf.first ls[l]).toList==[97,114,114,97,121])=W) (q3:((Rf.first ls[l]).toList==[112,114,111,99])=W) (q4:((Rf.first ls[l]).toList==[99,97,108,108])=D):Calls Tryz.prog 83 #[H (Q ⟨S,0,Z⟩),J U ((l:Int)+1)] w fun e w'=>e=T (A (jZ ls l ls[l]))/\Below w.heap.size w w':=by
 have F:=O.len;have HL:=zD O;have HH:=zD h;have cT:=h.top;have hf:=O.XO y;have a5:=hf.1;obtain⟨ad,c,cR,hv⟩:=h.row l y;have h2:=x.call q4;have d:=x.home (by unfold Xl;rw[q1,q2,q3];rfl);have a2:=zD d;have hR:jZ ls l ls[l]=(Xr ls ls[l] && Rf.namesFrom ls l ls[l] (ls[l].length-2) 2):=by
  rw[jZ,zA (by rw[q1];simp),zA (by rw[q2];simp),zA (by rw[q3];simp),zE q4]
 have HR:=zD hR;have a4:=zD (show ∀k (hk:k < ls[l].length),ve ls[l] k=ls[l][k]from fun k hk=>qq hk);clear h O hv hR d x;generalize jZ ls l ls[l]=R at *;go_enter func83,ntmps83;go_wp2_with fail;refine(xz l HH.u y F).mono ?_;rintro e w1 ⟨rfl,M⟩;have o:=qG (HH.u.zP M) M;generalize Rf.first ls[l]=z at *;have a3:=zD h2;go_wp2_with fail;refine(tj l o.u.1 HL.u y a3.u).mono ?_;rintro e w2 ⟨rfl,L⟩;have HS2:=qG (o.u.1.zP L) (o.u.2.trans (L.mono o.u.2.size));cases hc:Xr ls ls[l]with
 | false=>
 rw[hc]at HR;go_wp2;go_ret;exact⟨by rw[HR.u];rfl,HS2.u.2⟩
 | true=>
 rw[hc,Vd]at HR;go_wp2_with fail;generalize a0:ls[l]=t at *;have a1:=zD a0;go_loopw [10] (fun i wr=>∃k f:Nat,2<=k/\(k+f=G t\/(f=0/\G t<=k))/\k<=1000/\i=J U k/\Rf.namesFrom ls l t f k=R/\jA wr S g cap ls/\Below w.heap.size w wr) (fun i _=>G t-(intOf i).toNat)
 case atStart=>exact⟨2,G t-2,zB _,by omega,by omega,rfl,HR.u.symm,HS2.u.1,HS2.u.2⟩
 case round=>
  obtain⟨k,f,a7,hk,a6,rfl,hT,hs,V⟩:=hrel;have N:=qG hs V;have HT:=zD hT;cases f with
  | zero=>
   have j:¬(k:Int) < (G t:Int):=by omega
   go_wp2;go_ret;exact⟨by rw[<-HT.u];rfl,N.u.2⟩
  | succ f=>
   have j:k < G t:=by omega
   rw[Rf.namesFrom,a4.u k j]at HT;go_wp2_with fail;refine(fw l k t N.u.1 HL.u y a1.u j (a2.u k j)).mono ?_;rintro e w3 ⟨rfl,I⟩;have HS3:=qG (N.u.1.zP I) (N.u.2.trans (I.mono N.u.2.size));cases hz:QK ls l t[k] (Rf.cellAt t k)with
   | false=>
    rw[hz]at HT;go_wp2;go_ret;exact⟨by rw[<-HT.u];rfl,HS3.u.2⟩
   | true=>
    rw[hz,Vd]at HT;go_wp2;go_roundw
    ·exact⟨k+1,f,by omega,by omega,by omega,by go_num,HT.u,HS3.u.1,HS3.u.2⟩
    ·simp[intOf];omega
theorem wi (h:jA w S g cap ls) (i:Lawful ls) (d:l < G ls) (f:nh ls l d):Calls Tryz.prog 83 #[H (Q ⟨S,0,Z⟩),J U ((l:Int)+1)] w fun e w'=>e=T (A (jZ ls l ls[l]))/\Below w.heap.size w w':=by
 by_cases q1:((Rf.first ls[l]).toList==[118,97,114])=D
 ·exact fQ l h i d (Or.inl q1)
 replace q1:=yL.mpr q1
 by_cases q2:((Rf.first ls[l]).toList==[97,114,114,97,121])=D
 ·exact fQ l h i d (Or.inr ⟨q1,q2⟩)
 replace q2:=yL.mpr q2
 by_cases q3:((Rf.first ls[l]).toList==[112,114,111,99])=D
 ·exact rp l h i d q1 q2 q3
 replace q3:=yL.mpr q3
 by_cases q4:((Rf.first ls[l]).toList==[99,97,108,108])=D
 ·exact rq h i d f q1 q2 q3 q4
 exact oC h i d f q1 q2 q3 (yL.mpr q4)
namespace Rf
def vQ (l:List Nat):Nat:=l.getLastD 0
def nestFrom (ls:List Ib):List Ib->Nat->List Nat->List Nat->Nat
 | [],n,op,_=>if op.length=0 then 0 else n
 | t::r,n,op,sp=>
  if ((first t).toList==[])=true then nestFrom ls r (n+1) op sp
  else if Xl t=!decide (op.length=0)then n+1
  else if kJ t=true then nestFrom ls r (n+1) (op++[n+1]) sp
  else if ((first t).toList==[101,108,115,101])=true then
   (if ((first (xU ls (vQ op-1))).toList==[105,102])=false\/(0 < sp.length/\vQ sp=vQ op)then n+1 else nestFrom ls r (n+1) op (sp++[vQ op]))
  else if ((first t).toList==[101,110,100])=true then nestFrom ls r (n+1) op.dropLast (if 0 < sp.length/\vQ sp=vQ op then sp.dropLast else sp)
  else nestFrom ls r (n+1) op sp
def nested (ls:List Ib):Nat:=nestFrom ls ls 0 [] []
end Rf
theorem eU:(Tryz.prog.info? 3).map (fun i=>(i.zero,i.size,i.bytes))=Q (Q (J U 0),1,8):=by kernel_rfl
def iv (n:Nat):Value:=J U n
theorem eI (m:Nat) (h:m<=1000):IntKind.i64.wrap ((m:Int)+1-1)=(m:Int):=by
 rw[show (m:Int)+1-1=(m:Int) by omega];exact zl _ ⟨by omega,by omega⟩
theorem eJ (m:Nat) (h:m<=1000):IntKind.i64.wrap (m:Int)=(m:Int):=zl _ ⟨by omega,by omega⟩
theorem lP {o:Obj} {e:TypeId} {size:Nat} {xs:List Value} {row:Option Nat} (h:w.ownsRow B e size v n xs) (i:(w.alloc o).grownBy w1 row) (d:∀g,v.ownBlock=Q g->¬row=Q g):w1.ownsRow B e size v n xs:=by
 obtain⟨j,h2⟩:=h;refine⟨j,?_⟩;rcases h2 with h2 | ⟨g,cap,cur,hv,hgB,hh,r⟩
 ·exact Or.inl h2
 ·refine Or.inr ⟨g,cap,cur,hv,hgB,?_,r⟩;have f:=zQ hh;rw[i.block g (by simp;omega) (fun e=>d g (by rw[hv];rfl) e.symm)];rw[<-hh];exact((zI w.heap.size w).alloc (zB _) o).block g f
structure Zo (w wr:World) (k:Nat) (op sp:List Nat) (ov sv:Value):Prop where
 Fu:op.length<=k
 GS:sp.length<=k
 ops:∀o∈op,1<=o/\o<=k
 oown:wr.ownsRow w.heap.size 3 1 ov op.length (op.map iv)
 dx:wr.ownsRow w.heap.size 3 1 sv sp.length (sp.map iv)
 ne:∀g,ov.ownBlock=some g->¬sv.ownBlock=some g
 below:Below w.heap.size w wr
theorem Zo.step (h:Zo w wr k op sp ov sv):Zo w wr (k+1) op sp ov sv:=
 ⟨by have:=h.Fu;omega,by have:=h.GS;omega,fun o ho=>by have:=h.ops o ho;omega,h.oown,h.dx,h.ne,h.below⟩
theorem Zo.zP {w2:World} (h:Zo w wr k op sp ov sv) (d:Below wr.heap.size wr w2):Zo w w2 k op sp ov sv:=
 ⟨h.Fu,h.GS,h.ops,yG h.oown d,yG h.dx d,h.ne,h.below.trans (d.mono h.below.size)⟩
theorem Zo.CE {o:Obj} (h:Zo w wr k op sp ov sv) (f:w1.ownsRow w.heap.size 3 1 (I (Q ⟨g',0,Z⟩) (G op+1) cap') (G op+1) (op.map iv++[iv (k+1)])) (d:(wr.alloc o).grownBy w1 ov.ownBlock) (hat:ov.ownBlock=Q g'\/g'=wr.heap.size+1):Zo w w1 (k+1) (op++[k+1]) sp (I (Q ⟨g',0,Z⟩) (G op+1) cap') sv:=by
 refine⟨by have:=h.Fu;simp;omega,by have:=h.GS;omega,fun x hx=>?_,by rw[yB,ze];exact f,lP h.dx d (fun g hgg e=>h.ne g e hgg),fun g hgg e=>?_,qY h.below h.below.size h.oown d⟩
 ·simp at hx;rcases hx with hx | rfl
  ·have:=h.ops x hx;omega
  ·omega
 ·simp[Value.ownBlock]at hgg;subst hgg;rcases hat with hat | hat
  ·exact h.ne _ hat e
  ·have:=(h.dx.lt _ e).2;omega
theorem Zo.FQ {o:Obj} {q:Nat} (h:Zo w wr k op sp ov sv) (i:G sp+1<=k+1) (f:w1.ownsRow w.heap.size 3 1 (I (Q ⟨g',0,Z⟩) (G sp+1) cap') (G sp+1) (sp.map iv++[iv q])) (d:(wr.alloc o).grownBy w1 sv.ownBlock) (hat:sv.ownBlock=Q g'\/g'=wr.heap.size+1):Zo w w1 (k+1) op (sp++[q]) ov (I (Q ⟨g',0,Z⟩) (G sp+1) cap'):=by
 refine⟨by have:=h.Fu;omega,by simp;omega,fun x hx=>by have:=h.ops x hx;omega,lP h.oown d h.ne,by rw[yB,ze];exact f,fun g hgg e=>?_,qY h.below h.below.size h.dx d⟩;simp[Value.ownBlock]at e;subst e;rcases hat with hat | hat
 ·exact h.ne _ hgg hat
 ·have:=(h.oown.lt _ hgg).2;omega
theorem Zo.Fs (h:Zo w wr k (pre++[o]) sp (I (Q ⟨g,0,Z⟩) (G pre+1) cap) sv):Zo w wr k pre sp (I (Q ⟨g,0,Z⟩) (G pre) cap) sv:=by
 refine⟨by have:=h.Fu;simp at this;omega,h.GS,fun x hx=>h.ops x (by simp[hx]),?_,h.dx,fun g' hg'=>h.ne g' hg',h.below⟩;have:=h.oown;rw[yB,ze]at this;exact ownsRow_pop (by simp) this
theorem Zo.popS (h:Zo w wr k op (pre++[o]) ov (I (Q ⟨g,0,Z⟩) (G pre+1) cap)):Zo w wr k op pre ov (I (Q ⟨g,0,Z⟩) (G pre) cap):=by
 refine⟨h.Fu,by have:=h.GS;simp at this;omega,h.ops,h.oown,?_,fun g' hg'=>h.ne g' hg',h.below⟩;have:=h.dx;rw[yB,ze]at this;exact ownsRow_pop (by simp) this
theorem XI (l:List Nat):l=[]\/∃pre o,l=pre++[o]:=by
 rcases ZC l with h | ⟨a,b,h⟩
 ·exact Or.inl h
 ·exact Or.inr ⟨a,b,by simpa using h⟩
theorem Jn:vQ (pre++[o])=o:=by simp[vQ]
theorem K6 (h:w.ownsRow B 3 1 v (pre++[o]).length ((pre++[o]).map iv)):∃g cap,v=I (Q ⟨g,0,Z⟩) (G pre+1) cap/\G pre+1<=cap/\w.cell? ⟨g,G pre,Z⟩=Q (iv o):=by
 obtain⟨g,cap,f,_,_,i⟩:=yD h (j:=G pre) (u:=iv o) (by simp);refine⟨g,cap,by simpa using f,?_,i⟩;rcases h.2 with⟨d,_⟩| ⟨g',cap',cur,d,_,_,hn,_⟩
 ·rw[f]at d;cases d
 ·rw[f]at d;simp at d;simp at hn;omega
def HF (x:Ia) (i:Nat):Prop:=(x.toList==[])=decide (i=0)/\(x.toList==[118,97,114])=decide (i=1)/\(x.toList==[97,114,114,97,121])=decide (i=2)/\(x.toList==[112,114,111,99])=decide (i=3)/\
 (x.toList==[105,102])=decide (i=4)/\(x.toList==[119,104,105,108,101])=decide (i=5)/\(x.toList==[101,108,115,101])=decide (i=6)/\(x.toList==[101,110,100])=decide (i=7)
theorem YG (x:Ia):∃i,i<=8/\HF x i:=by
 by_cases h0:x.toList=[]
 ·exact⟨0,by omega,by unfold HF;rw[h0];decide⟩
 by_cases h1:x.toList=[118,97,114]
 ·exact⟨1,by omega,by unfold HF;rw[h1];decide⟩
 by_cases h2:x.toList=[97,114,114,97,121]
 ·exact⟨2,by omega,by unfold HF;rw[h2];decide⟩
 by_cases h3:x.toList=[112,114,111,99]
 ·exact⟨3,by omega,by unfold HF;rw[h3];decide⟩
 by_cases h4:x.toList=[105,102]
 ·exact⟨4,by omega,by unfold HF;rw[h4];decide⟩
 by_cases h5:x.toList=[119,104,105,108,101]
 ·exact⟨5,by omega,by unfold HF;rw[h5];decide⟩
 by_cases h6:x.toList=[101,108,115,101]
 ·exact⟨6,by omega,by unfold HF;rw[h6];decide⟩
 by_cases h7:x.toList=[101,110,100]
 ·exact⟨7,by omega,by unfold HF;rw[h7];decide⟩
 ·refine⟨8,by omega,?_⟩;unfold HF;simp[h0,h1,h2,h3,h4,h5,h6,h7]
namespace Rf
theorem Vt (h:k < G ls) (o:HF (first ls[k]) i):nestFrom ls (ls.drop k) k op sp =
  if i=0 then nestFrom ls (ls.drop (k+1)) (k+1) op sp
  else if decide (i=1\/i=2\/i=3)=!decide (G op=0)then k+1
  else if i=3\/i=4\/i=5 then nestFrom ls (ls.drop (k+1)) (k+1) (op++[k+1]) sp
  else if i=6 then (if ((first (xU ls (vQ op-1))).toList==[105,102])=W\/(0 < G sp/\vQ sp=vQ op)then k+1 else nestFrom ls (ls.drop (k+1)) (k+1) op (sp++[vQ op]))
  else if i=7 then nestFrom ls (ls.drop (k+1)) (k+1) op.dropLast (if 0 < G sp/\vQ sp=vQ op then sp.dropLast else sp)
  else nestFrom ls (ls.drop (k+1)) (k+1) op sp:=by
 obtain⟨I,H,F,d,A,z,y,x⟩:=o;rw[zZ h,nestFrom];have f:Xl ls[k]=decide (i=1\/i=2\/i=3):=by
  unfold Xl;rw[H,F,d,xO];simp[KV]
 have j:(kJ ls[k]=D)↔(i=3\/i=4\/i=5):=by
  unfold kJ;rw[d,A,z];simp[KV]
 rw[I,y,x,f];simp only[j,yS]
end Rf
theorem si (h:jA w S g cap ls) (hL:G ls<=100):Calls Tryz.prog 82 #[H (Q ⟨S,0,Z⟩)] w fun e w'=>e=T (J U (Rf.nested ls))/\Below w.heap.size w w':=by
  obtain⟨i0,a5,a4,a3,a2⟩:=yi eU;have HH:=zD h;clear h;go_enter func82,ntmps82;go_wp2;go_loopw [3,4,5] (fun ov sv i wr=>∃(k:Nat) (op sp:List Nat),k<=G ls/\i=J U ((k:Int)+1)/\Rf.nestFrom ls (ls.drop k) k op sp=Rf.nested ls/\Zo w wr k op sp ov sv)
    (fun _ _ i _=>G ls+1-(intOf i).toNat)
  case atStart=>exact⟨0,[],[],zo _,rfl,rfl,⟨by simp,by simp,by simp,zW _ _ _ _,zW _ _ _ _,by simp[Value.ownBlock],zI _ _⟩⟩
  case round=>
    obtain⟨k,op,sp,hk,rfl,hT,hn⟩:=hrel;have hs:=HH.u.zP hn.below;have cT:=hs.top;obtain⟨d8,a7,rfl⟩:=zK hn.oown;obtain⟨b6,F,rfl⟩:=zK hn.dx;have HN:=zD hn;have HS:=zD hs;by_cases hlt:k < G ls
    · have b2:(k:Int)+1<=(G ls:Int):=by omega
      obtain⟨i,d4,hf⟩:=YG (Rf.first ls[k]);rw[Vt hlt hf]at hT;have HT:=zD hT;clear hT hs hn;go_wp2_with fail;refine(xz k HS.u hlt hL).mono ?_;rintro e w2 ⟨rfl,b5⟩;have R:=HN.u.zP b5;have HN2:=zD R;have a9:=R.Fu;have L:=R.GS;have d6:=R.below.size;clear b5 cT R;generalize Rf.first ls[k]=x at *;have hi9:i=0\/i=1\/i=2\/i=3\/i=4\/i=5\/i=6\/i=7\/i=8:=by omega
      clear d4;rcases hi9 with rfl | rfl | rfl | rfl | rfl | rfl | rfl | rfl | rfl
      all_goals
        simp only[HF,Nat.reduceEqDiff,decide_true,decide_false]at hf;obtain⟨f0,f1,f2,f3,f4,f5,f6,f7⟩:=hf
      · rw[zE rfl]at HT;go_wp2;go_roundw
        ·exact⟨k+1,op,sp,by omega,by go_num,HT.u,HN2.u.step⟩
        ·simp[intOf];omega
      all_goals
        by_cases ho:G op=0
        all_goals
          first
          | (have O:((G op:Int)==0)=D:=by rw[xw];omega)
          | (have O:((G op:Int)==0)=W:=by rw[zV];omega)
          rw[zA (by omega)]at HT
          first
          | (rw[zE (by simp[ho])]at HT
             clear ho;go_wp2;go_ret;exact⟨by rw[<-HT.u];exact km (by omega),HN2.u.below⟩)
          | (rw[zA (by simp[ho])]at HT
             clear ho)
      all_goals try
        rw[zE (by omega)]at HT;go_wp2_with (at_builtin;refine wpList_append_lies _ rfl (.tmp 46) (.tmp 48) 24 rfl w.heap.size 3 i0 _ 1 8 underlying24 a5 a4 a3 a2 rfl (by decide) _ _ _ rfl (HN2.u.oown.alloc _) ⟨_,0,Z⟩ 1 1 [J U ((k:Int)+1)] rfl rfl (cell_one_new _ _ _) (by simp[Value.oneCell']) (by omega) (by unfold maxLen;omega) (by omega) (by simp;omega) _ rfl ?_);intro g' cap' w3 N d hat b1;have HN3:=zD (HN2.u.CE (by exact N) d (by rcases hat with h | h;exact Or.inl h;exact Or.inr (by first | omega | (simp at h;omega))));clear N d hat b1;go_wp2;go_roundw
        ·exact⟨k+1,_,sp,by omega,by go_num,HT.u,HN3.u⟩
        ·simp[intOf];omega
      all_goals try
        rw[zA (by omega),zA (by omega),zA (by omega)]at HT;go_wp2;go_roundw
        ·exact⟨k+1,op,sp,by omega,by go_num,HT.u,HN2.u.step⟩
        ·simp[intOf];omega
      all_goals
        first
        | (rw[zA (by omega),zA (by omega),zE rfl]at HT)
        | (rw[zA (by omega),zE rfl]at HT)
        obtain⟨pre,o,rfl⟩:∃pre o,op=pre++[o]:=by
          rcases XI op with h | h
          · subst h;simp at O
          · exact h
        have d9:=HN2.u.ops o (by simp);obtain⟨z,rfl⟩:∃z,o=z+1:=⟨o-1,by omega⟩;have b0:z < G ls:=by omega
        obtain⟨g0,d7,b3,d5,cO⟩:=K6 HN2.u.oown;simp only[xJ]at b3;obtain⟨rfl,a8,rfl⟩:=b3;rw[Jn]at HT;rw[a8]at a9 O HN2 ⊢;clear a8
        replace cO:w2.cell? ⟨g0,G pre,Z⟩=Q (J U ((z:Int)+1)):=cO
        have HP:=zD (show ∀x:Nat,(pre++[x]).length=G pre+1 by intro x;simp);have g3:=eI (G pre) (by omega);have g4:=eJ (G pre) (by omega);have g2:(G pre:Int) < (G pre:Int)+1:=by omega
        have f9:(0:Int)<=(G pre:Int):=by omega
        have f8:(G pre:Int)<=(a7:Int):=by omega
      · go_wp2_with fail;refine(xz z (HH.u.zP HN2.u.below) b0 hL).mono ?_;rintro e w3 ⟨rfl,b4⟩;have HN3:=zD (HN2.u.zP b4);have d2:=HN3.u.below.size;rw[zu,yq b0]at HT;clear b4 cO;generalize Rf.first ls[z]=y at *;cases hy:(y.toList==[105,102])with
        | false=>
          rw[hy,zE (Or.inl rfl)]at HT;go_wp2;go_ret;exact⟨by rw[<-HT.u];exact km (by omega),HN3.u.below⟩
        | true=>
          rcases XI sp with rfl | ⟨ps,q,rfl⟩
          · rw[hy,zA (by simp)]at HT;simp only[qQ]at L HN3 ⊢;have f:w3.ownsRow w.heap.size 3 1 (I b6 0 F) 0 []:=HN3.u.dx;go_wp2_with (at_builtin;refine wpList_append_lies _ rfl (.tmp 79) (.tmp 81) 24 rfl w.heap.size 3 i0 _ 1 8 underlying24 a5 a4 a3 a2 rfl (by decide) _ _ _ rfl (f.alloc _) ⟨_,0,Z⟩ 1 1 [J U ((z:Int)+1)] rfl rfl (cell_one_new _ _ _) (by simp[Value.oneCell']) (by omega) (by unfold maxLen;omega) (by omega) (by simp;omega) _ rfl ?_);intro g' cap' w4 j d hat V;have HN4:=zD (HN3.u.FQ (q:=z+1) (g':=g') (cap':=cap') (by simp) (by exact j) d (by rcases hat with h | h;exact Or.inl h;exact Or.inr (by first | omega | (simp at h;omega))));clear j d hat V f;go_wp2;go_roundw
            ·exact⟨k+1,_,_,by omega,by go_num,HT.u,by first | exact HN4.u | simpa using HN4.u⟩
            ·simp[intOf];omega
          · obtain⟨g1,cap1,a0,a6,cS⟩:=K6 HN3.u.dx;simp only[xJ]at a0;obtain⟨rfl,A,rfl⟩:=a0;rw[Jn]at HT;rw[A]at L HN3 ⊢;have a1:=zD A;clear A
            replace cS:w3.cell? ⟨g1,G ps,Z⟩=Q (J U (q:Int)):=cS
            have d0:=eI (G ps) (by omega);have d1:=eJ (G ps) (by omega);have c0:(G ps:Int) < (G ps:Int)+1:=by omega
            have b9:(0:Int)<=(G ps:Int):=by omega
            have b8:(G ps:Int)<=(F:Int):=by omega
            have b7:(0:Int) < (G ps:Int)+1:=by omega
            by_cases hqo:q=z+1
            · have M:((q:Int)==(z:Int)+1)=D:=by rw[xw];omega
              rw[zE (Or.inr ⟨by simp,hqo⟩)]at HT;clear hqo;go_wp2;go_ret;exact⟨by rw[<-HT.u];exact km (by omega),HN3.u.below⟩
            · have M:((q:Int)==(z:Int)+1)=W:=by rw[zV];omega
              rw[hy,zA (by simp[hqo])]at HT;clear hqo;have f:w3.ownsRow w.heap.size 3 1 (I (Q ⟨g1,0,Z⟩) (G ps+1) F) (G ps+1) ((ps++[q]).map iv):=by
                have:=HN3.u.dx;rw[a1.u]at this;exact this
              go_wp2_with (at_builtin;refine wpList_append_lies _ rfl (.tmp 79) (.tmp 81) 24 rfl w.heap.size 3 i0 _ 1 8 underlying24 a5 a4 a3 a2 rfl (by decide) _ _ _ rfl (f.alloc _) ⟨_,0,Z⟩ 1 1 [J U ((z:Int)+1)] rfl rfl (cell_one_new _ _ _) (by simp[Value.oneCell']) (by omega) (by unfold maxLen;omega) (by omega) (by simp;omega) _ rfl ?_);intro g' cap' w4 j d hat V;have HN4:=zD (HN3.u.FQ (q:=z+1) (g':=g') (cap':=cap') (by rw[a1.u];omega) (by rw[a1.u,yB,yK];exact j) d (by rcases hat with h | h;exact Or.inl h;exact Or.inr (by first | omega | (simp at h;omega))));rw[a1.u]at HN4;clear j d hat V f;go_wp2;go_roundw
              ·exact⟨k+1,_,_,by omega,by go_num,HT.u,by first | exact HN4.u | simpa using HN4.u⟩
              ·simp[intOf];omega
      · rw[xo]at HT;rcases XI sp with rfl | ⟨ps,q,rfl⟩
        · rw[zA (by simp)]at HT;simp only[qQ]at L HN2 ⊢;have HNP:=zD (HN2.u.step.Fs);go_wp2;go_roundw
          ·exact⟨k+1,pre,[],by omega,by go_num,HT.u,HNP.u⟩
          ·simp[intOf];omega
        · obtain⟨g1,cap1,a0,a6,cS⟩:=K6 HN2.u.dx;simp only[xJ]at a0;obtain⟨rfl,A,rfl⟩:=a0;rw[Jn]at HT;rw[A]at L HN2 ⊢;have a1:=zD A;clear A
          replace cS:w2.cell? ⟨g1,G ps,Z⟩=Q (J U (q:Int)):=cS
          have d0:=eI (G ps) (by omega);have d1:=eJ (G ps) (by omega);have c0:(G ps:Int) < (G ps:Int)+1:=by omega
          have b9:(0:Int)<=(G ps:Int):=by omega
          have b8:(G ps:Int)<=(F:Int):=by omega
          have b7:(0:Int) < (G ps:Int)+1:=by omega
          by_cases hqo:q=z+1
          · have M:((q:Int)==(z:Int)+1)=D:=by rw[xw];omega
            rw[zE ⟨by simp,hqo⟩,xo]at HT;clear hqo;have HNP:=zD (HN2.u.step.Fs.popS);go_wp2;go_roundw
            ·exact⟨k+1,pre,ps,by omega,by go_num,HT.u,HNP.u⟩
            ·simp[intOf];omega
          · have M:((q:Int)==(z:Int)+1)=W:=by rw[zV];omega
            rw[zA (by simp[hqo])]at HT;clear hqo;have HNP:=zD (HN2.u.step.Fs);go_wp2;go_roundw
            ·exact⟨k+1,pre,_,by omega,by go_num,HT.u,HNP.u⟩
            ·simp[intOf];omega
    · have b2:¬(k:Int)+1<=(G ls:Int):=by omega
      rw[zp (by omega),Rf.nestFrom]at hT;have HT:=zD hT;clear hT;have d3:k=G ls:=by omega
      by_cases ho:G op=0
      · have O:¬(0:Int) < (G op:Int):=by omega
        rw[zE ho]at HT;go_wp2;go_ret;exact⟨by rw[<-HT.u];rfl,HN.u.below⟩
      · have O:(0:Int) < (G op:Int):=by omega
        rw[zA ho]at HT;subst d3;go_wp2;go_ret;exact⟨by rw[<-HT.u];rfl,HN.u.below⟩
end
namespace Rf
theorem QT (h:0 < G t):xM t=isKind t (first t).toList:=by rw[xM,zA (by omega)]
theorem dr (h:G t=0):(first t).toList=[]:=by
 have:t=[]:=yu h;subst this;simp[first,ve]
theorem D3 (h:xM t=D) (ht:Xl t=D):2<=G t:=by
 have d:0 < G t:=by
  by_cases h0:0 < G t
  ·exact h0
  ·have:=dr (t:=t) (by omega);simp[Xl,this]at ht
 rw[QT d]at h;unfold Xl at ht;simp only[YC,xw]at ht;rcases ht with (ht | ht)| ht
 ·rw[ht]at h;simp[isKind]at h;omega
 ·rw[ht]at h;simp[isKind,Qn]at h;omega
 ·rw[ht]at h;simp[isKind]at h;omega
theorem Da (h:xM t=D) (ht:((first t).toList==[99,97,108,108])=D):2<=G t:=by
 rw[xw]at ht;have d:0 < G t:=by
  by_cases h0:0 < G t
  ·exact h0
  ·have:=dr (t:=t) (by omega);rw[this]at ht;cases ht
 rw[QT d,ht]at h;simp[isKind,QV]at h;exact h.1
end Rf
namespace Rt
open Go.RowKit
def valTo (s:Ia):Nat->Int
 | 0=>0
 | k+1=>wrap64 (wrap64 (valTo s k*10)+(qC s k-48) % 256)
def val (s:Ia):Int:=valTo s s.size
end Rt
section
open Go.RowKit
structure qM where
 code:Int
 number:Int
 name:Ia
namespace Rt
abbrev JX:=Option (List qM×List Tk)
def pLoop (pf:List Tk->JX) (lo hi:Int):Nat->List Tk->JX
 | 0,_=>none
 | _+1,[]=>some ([],[])
 | g+1,t::r=>
  if lo<=yI t.text/\yI t.text<=hi then
   match pf r with
   | none=>none
   | some (e,r')=>
    match pLoop pf lo hi g r' with
    | none=>none
    | some (e',r'')=>some (e++⟨yI t.text,0,⟨#[]⟩⟩::e',r'')
  else some ([],t::r)
def Yb (em:List qM):JX->JX
 | none=>none
 | some (e,r)=>some (em++e,r)
def Xa (pf:List Tk->JX) (lo hi:Int) (rem:List Tk):JX:=
 match pf rem with
 | none=>none
 | some (e,r)=>Yb e (pLoop pf lo hi 25 r)
def VQ (pf:List Tk->JX):List Tk->JX:=Xa pf 7 9
def VI (pf:List Tk->JX):List Tk->JX:=Xa (VQ pf) 5 6
def pComp (pf:List Tk->JX) (rem:List Tk):JX:=
 match VI pf rem with
 | none=>none
 | some (e,[])=>some (e,[])
 | some (e,t::r)=>
  if 10<=yI t.text/\yI t.text<=11 then
   match VI pf r with
   | none=>none
   | some (e',r')=>some (e++e'++[⟨yI t.text,0,⟨#[]⟩⟩],r')
  else some (e,t::r)
def closed (x:Ia) (last:List qM):JX->JX
 | none=>none
 | some (_,[])=>none
 | some (e,t::r)=>if t.text=x then some (e++last,r)else none
def pVar (pc:List Tk->JX) (name:Ia):List Tk->JX
 | []=>some ([⟨2,0,name⟩],[])
 | t::r=>if t.text=⟨#[91]⟩then closed ⟨#[93]⟩ [⟨3,0,name⟩] (pc r)else some ([⟨2,0,name⟩],t::r)
def yV:Nat->List Tk->JX
 | 0,_=>none
 | _+1,[]=>none
 | f+1,t::r=>
  if t.text=⟨#[45]⟩then
   match yV f r with
   | none=>none
   | some (e,r')=>some (e++[⟨4,0,⟨#[]⟩⟩],r')
  else if t.text=⟨#[40]⟩then closed ⟨#[41]⟩ [] (pComp (yV f) r)
  else if t.kind=2 then some ([⟨1,val t.text,⟨#[]⟩⟩],r)
  else if t.kind=1/\aL t.text=false then pVar (pComp (yV f)) t.text r
  else none
def Z1 (rem:List Tk):JX:=pComp (yV 24) rem
structure qS where
 kind:Int
 name:Ia
 cells:Int
 params:Ib
 index:List qM
 values:List (List qM)
def kE:List Tk->Option (Ia×List Tk)
 | []=>none
 | t::r=>if t.kind=1/\aL t.text=false then some (t.text,r)else none
abbrev eG:=Option (qS×List Tk)
def pNamed (kind:Int) (rem:List Tk):eG:=
 match kE rem with
 | none=>none
 | some (nm,r)=>some (⟨kind,nm,0,[],[],[]⟩,r)
def kn (kind:Int) (rem:List Tk):eG:=
 match Z1 rem with
 | none=>none
 | some (e,r)=>some (⟨kind,⟨#[]⟩,0,[],[],[e]⟩,r)
def XC:List Tk->Option (Int×List Tk)
 | []=>none
 | t::r=>if t.kind=2 then some (val t.text,r)else none
def pArray (rem:List Tk):eG:=
 match kE rem with
 | none=>none
 | some (nm,r)=>
  match XC r with
  | none=>none
  | some (v,r')=>if v < 1\/32 < v then none else some (⟨2,nm,v,[],[],[]⟩,r')
def jO (acc:Ib):List Tk->Option Ib
 | []=>some acc
 | t::r=>if (t.kind=1/\aL t.text=false)/\acc.length < 4 then jO (acc++[t.text]) r else none
def pProc (rem:List Tk):eG:=
 match kE rem with
 | none=>none
 | some (nm,r)=>
  match jO [] r with
  | none=>none
  | some ps=>some (⟨3,nm,0,ps,[],[]⟩,[])
def jb (x:Ia):List Tk->Option (List Tk)
 | []=>none
 | t::r=>if t.text=x then some r else none
def pTo (kind:Int) (nm:Ia) (ix:List qM) (rem:List Tk):eG:=
 match jb ⟨#[116,111]⟩ rem with
 | none=>none
 | some r=>
  match Z1 r with
  | none=>none
  | some (e,r')=>some (⟨kind,nm,0,[],ix,[e]⟩,r')
def J6 (rem:List Tk):eG:=
 match kE rem with
 | none=>none
 | some (nm,r)=>
  match jb ⟨#[91]⟩ r with
  | none=>pTo 8 nm [] r
  | some r1=>
   match Z1 r1 with
   | none=>none
   | some (ix,r2)=>
    match jb ⟨#[93]⟩ r2 with
    | none=>none
    | some r3=>pTo 9 nm ix r3
theorem uK {ix:List qM} {rem:List Tk} (h:jb ⟨#[116,111]⟩ rem=Z):pTo kind nm ix rem=Z:=by rw[pTo,h]
theorem FM {ix:List qM} {rem r:List Tk} (h:jb ⟨#[116,111]⟩ rem=Q r) (d:Z1 r=Z):pTo kind nm ix rem=Z:=by rw[pTo,h];simp only;rw[d]
theorem FK {ix e:List qM} {rem r r':List Tk} (h:jb ⟨#[116,111]⟩ rem=Q r) (d:Z1 r=Q (e,r')):pTo kind nm ix rem=Q (⟨kind,nm,0,[],ix,[e]⟩,r'):=by rw[pTo,h];simp only;rw[d]
theorem B4 {rem r:List Tk} {x:eG} (h:kE rem=Q (nm,r)) (f:jb ⟨#[91]⟩ r=Z) (d:pTo 8 nm [] r=x):J6 rem=x:=by rw[J6,h];simp only;rw[f];exact d
theorem B3 {rem r r1 r2 r3:List Tk} {ix:List qM} {x:eG} (h:kE rem=Q (nm,r)) (j:jb ⟨#[91]⟩ r=Q r1) (i:Z1 r1=Q (ix,r2)) (f:jb ⟨#[93]⟩ r2=Q r3) (d:pTo 9 nm ix r3=x):J6 rem=x:=by
 rw[J6,h];simp only;rw[j];simp only;rw[i];simp only;rw[f];exact d
theorem Ga {rem r r1 r2:List Tk} {ix:List qM} (h:kE rem=Q (nm,r)) (i:jb ⟨#[91]⟩ r=Q r1) (f:Z1 r1=Q (ix,r2)) (d:jb ⟨#[93]⟩ r2=Z):J6 rem=Z:=by
 rw[J6,h];simp only;rw[i];simp only;rw[f];simp only;rw[d]
theorem GZ {rem r r1:List Tk} (h:kE rem=Q (nm,r)) (f:jb ⟨#[91]⟩ r=Q r1) (d:Z1 r1=Z):J6 rem=Z:=by
 rw[J6,h];simp only;rw[f];simp only;rw[d]
def pArgs:Nat->List (List qM)->List Tk->Option (List (List qM)×List Tk)
 | 0,_,_=>none
 | f+1,acc,rem=>
  match Z1 rem with
  | none=>none
  | some (e,r)=>
   match jb ⟨#[44]⟩ r with
   | none=>some (acc++[e],r)
   | some r'=>pArgs f (acc++[e]) r'
def ZT (r:List Tk):Option (List (List qM)×List Tk):=if r=[]then Q ([],r)else pArgs 25 [] r
def pCall (rem:List Tk):eG:=
 match kE rem with
 | none=>none
 | some (nm,r)=>
  match ZT r with
  | none=>none
  | some (vs,r')=>some (⟨12,nm,0,[],[],vs⟩,r')
theorem BT {acc:List (List qM)} {rem:List Tk} (h:Z1 rem=Z):pArgs (f+1) acc rem=Z:=by rw[pArgs,h]
theorem BS {acc:List (List qM)} {rem r:List Tk} {e:List qM} (h:Z1 rem=Q (e,r)) (d:jb ⟨#[44]⟩ r=Z):pArgs (f+1) acc rem=Q (acc++[e],r):=by rw[pArgs,h];simp only;rw[d]
theorem BU {acc:List (List qM)} {rem r r':List Tk} {e:List qM} (h:Z1 rem=Q (e,r)) (d:jb ⟨#[44]⟩ r=Q r'):pArgs (f+1) acc rem=pArgs f (acc++[e]) r':=by rw[pArgs,h];simp only;rw[d]
theorem BO {rem r:List Tk} (h:kE rem=Q (nm,r)) (d:ZT r=Z):pCall rem=Z:=by rw[pCall,h];simp only;rw[d]
theorem BN {rem r r':List Tk} {vs:List (List qM)} (h:kE rem=Q (nm,r)) (d:ZT r=Q (vs,r')):pCall rem=Q (⟨12,nm,0,[],[],vs⟩,r'):=by rw[pCall,h];simp only;rw[d]
def xY (first:Ia) (rem:List Tk):eG:=
 if first.toList==[118,97,114]then pNamed 1 rem
 else if first.toList==[97,114,114,97,121]then pArray rem
 else if first.toList==[112,114,111,99]then pProc rem
 else if first.toList==[101,110,100]then Q (⟨4,⟨#[]⟩,0,[],[],[]⟩,rem)
 else if first.toList==[105,102]then kn 5 rem
 else if first.toList==[101,108,115,101]then Q (⟨6,⟨#[]⟩,0,[],[],[]⟩,rem)
 else if first.toList==[119,104,105,108,101]then kn 7 rem
 else if first.toList==[115,101,116]then J6 rem
 else if first.toList==[112,114,105,110,116]then kn 10 rem
 else if first.toList==[114,101,97,100]then pNamed 11 rem
 else if first.toList==[99,97,108,108]then pCall rem
 else if first.toList==[114,101,116,117,114,110]then Q (⟨13,⟨#[]⟩,0,[],[],[]⟩,rem)
 else Z
def pLineAll:List Tk->Option qS
 | []=>some ⟨0,⟨#[]⟩,0,[],[],[]⟩
 | t::r=>
  match xY t.text r with
  | none=>none
  | some (fm,r')=>if r'=[]then some fm else none
theorem Y9:∀(ts:List Tk) (i:Nat) (h:i < G ts),(qa ts)[i*2]?=Q (J U ts[i].kind)/\(qa ts)[i*2+1]?=Q (O ts[i].text)
 | [],i,h=>by simp at h
 | t::r,0,_=>by simp[qa,eK]
 | t::r,i+1,h=>by
  have d:=Y9 r i (by simpa using h);have e:qa (t::r)=[Value.int U t.kind,Value.string t.text]++qa r:=by simp[qa,eK]
  have f:(i+1)*2=i*2+2:=by omega
  rw[e,f];simpa using d
theorem X6 (s:Ia) (d:s.size<=40000):∀(f a:Nat) (acc ts:List Tk),G acc<=24->(∀t∈acc,t.text.size<=40000)->toksFrom s f a acc=Q ts->G ts<=24/\∀t∈ts,t.text.size<=40000
 | 0,_,_,_,_,_,h=>by simp[toksFrom]at h
 | f+1,a,acc,ts,h1,h2,h=>by
  rw[toksFrom]at h;split at h
  ·split at h
   ·exact X6 s d f _ _ _ h1 h2 h
   ·split at h
    ·cases h
    ·next hc=>
     refine X6 s d f _ _ _ (by simp;omega) ?_ h;intro t ht;simp at ht;rcases ht with ht | rfl
     ·exact h2 t ht
     ·simp[kV];omega
  ·simp at h;subst h;exact⟨h1,h2⟩
theorem JY {ts:List Tk} (d:s.size<=40000) (h:yY s=Q ts):G ts<=24/\∀t∈ts,t.text.size<=40000:=
 X6 s d _ _ _ _ (by simp) (by simp) h
theorem Xc (s:Ia) (d:s.size<=40000):∀(f a i:Nat) (acc:Ib),(∀t∈acc,t.size<=40000)->(∀t∈linesFrom s f a i acc,t.size<=40000)
 | 0,_,_,acc,h=>by simpa[linesFrom] using h
 | f+1,a,i,acc,h=>by
  rw[linesFrom];split
  ·split
   ·refine Xc s d f _ _ _ ?_;intro t ht;simp at ht;rcases ht with ht | rfl
    ·exact h t ht
    ·simp[kV];omega
   ·exact Xc s d f _ _ _ h
  ·intro t ht;simp at ht;rcases ht with ht | rfl
   ·exact h t ht
   ·simp[kV];omega
theorem YM (d:s.size<=40000):∀t∈lines s,t.size<=40000:=Xc s d _ _ _ _ (by simp)
theorem Q4 (s:Ia):∀(f a i:Nat) (acc:Ib),i<=s.size->s.size < f+i->(linesFrom s f a i acc).length+nls s i=G acc+1+nls s s.size
 | 0,_,_,_,h,h2=>by omega
 | f+1,a,i,acc,h,h2=>by
  rw[linesFrom];split
  ·next hlt=>
   have d:nls s (i+1)=nls s i+(if qC s i=10 then 1 else 0):=rfl;split
   ·next hb=>
    have:=Q4 s f (i+1) (i+1) (acc++[s.extract a i]) (by omega) (by omega);rw[zE hb]at d;simp at this;omega
   ·next hb=>
    have:=Q4 s f a (i+1) acc (by omega) (by omega);rw[zA hb]at d;omega
  ·have:i=s.size:=by omega
   subst this;simp
theorem ch (s:Ia):(lines s).length=1+nls s s.size:=by
 have:=Q4 s (s.size+1) 0 0 [] (by omega) (by omega);simp[nls]at this;rw[lines];omega
end Rt
end
end Go.Proofs.YthleadfkfnnadaaGreat
