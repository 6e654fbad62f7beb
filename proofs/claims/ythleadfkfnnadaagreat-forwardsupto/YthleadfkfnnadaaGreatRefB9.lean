/- The document's answer: what a line may be. -/
import Derived.Test.YthleadfkfnnadaaGreatRefA
set_option maxHeartbeats 4000000
set_option maxRecDepth 100000
set_option linter.unusedSimpArgs false
namespace Go.Proofs.YthleadfkfnnadaaGreat
open Go.RowKit
variable {t:List ByteArray}
theorem C0 (y:Y8 t) (d:0 < t.length) (L:(t[0].toList==[101,110,100])=true):kv 81 Rf.xM t:=by
 intro w v k
 have U:=y.1
 have N:=zD y
 obtain⟨W,cap,rfl,G⟩:=k.form
 obtain⟨b,o,rfl⟩:=k.qZ (by intro h;rw[h]at d;simp at d)
 have J:¬t.length=0:=by omega
 have f:Rf.xM t=Rf.isKind t t[0].toList:=by rw[Rf.xM,zA J,Rf.first,Rf.qq d]
 unfold Rf.isKind at f
 rw[L,zE rfl]at f
 have O:=zD f
 clear f
 have R:Hd (∀w' j (hj:j < t.length),xA w' (.slice (some ⟨b,o,none⟩) t.length cap) t->w'.cell? ⟨b,o+j,none⟩=some (.string t[j])):=zD (by
  intro w' j hj h
  obtain⟨b',T,cap',F,M⟩:=h.cell hj
  simp at F
  obtain⟨⟨rfl,rfl⟩,rfl⟩:=F
  exact M)
 have A:Hd (∀w',xA w' (.slice (some ⟨b,o,none⟩) t.length cap) t->w'.cell? ⟨b,o,none⟩=some (.string t[0])):=zD (fun w' h=>R.u w' 0 d h)
 have H:=zD k
 have I:((t.length:Int)==0)=false:=by rw[zV];omega
 clear k y
 generalize t[0]=x at *
 go_enter Tryz.func81,Tryz.ntmps81
 go_wp2_with fail
 all_goals
  refine(qv (by first | exact xA.gone (by omega) rfl | exact H.u.drop 1 _ _ rfl (by omega)) (N.u.drop 1)).mono ?_
  rintro e w1 ⟨rfl,i⟩
  have z:=zD (H.u.zP i)
  have D:=zD i
  have V:=A.u _ z.u
  clear i
  go_wp2_with fail
  go_ret
  exact⟨by rw[O.u];exact yj (by rw[xO];simp;omega),D.u⟩
theorem Cz (y:Y8 t) (d:0 < t.length) (M:(t[0].toList==[101,110,100])=false) (L:(t[0].toList==[101,108,115,101])=true):kv 81 Rf.xM t:=by
 intro w v k
 have V:=y.1
 have O:=zD y
 obtain⟨Z,cap,rfl,G⟩:=k.form
 obtain⟨b,o,rfl⟩:=k.qZ (by intro h;rw[h]at d;simp at d)
 have J:¬t.length=0:=by omega
 have f:Rf.xM t=Rf.isKind t t[0].toList:=by rw[Rf.xM,zA J,Rf.first,Rf.qq d]
 unfold Rf.isKind at f
 rw[M,zA (by decide),L,zE rfl]at f
 have R:=zD f
 clear f
 have T:Hd (∀w' j (hj:j < t.length),xA w' (.slice (some ⟨b,o,none⟩) t.length cap) t->w'.cell? ⟨b,o+j,none⟩=some (.string t[j])):=zD (by
  intro w' j hj h
  obtain⟨b',U,cap',F,N⟩:=h.cell hj
  simp at F
  obtain⟨⟨rfl,rfl⟩,rfl⟩:=F
  exact N)
 have A:Hd (∀w',xA w' (.slice (some ⟨b,o,none⟩) t.length cap) t->w'.cell? ⟨b,o,none⟩=some (.string t[0])):=zD (fun w' h=>T.u w' 0 d h)
 have H:=zD k
 have I:((t.length:Int)==0)=false:=by rw[zV];omega
 clear k y
 generalize t[0]=x at *
 go_enter Tryz.func81,Tryz.ntmps81
 go_wp2_with fail
 all_goals
  refine(qv (by first | exact xA.gone (by omega) rfl | exact H.u.drop 1 _ _ rfl (by omega)) (O.u.drop 1)).mono ?_
  rintro e w1 ⟨rfl,i⟩
  have z:=zD (H.u.zP i)
  have D:=zD i
  have W:=A.u _ z.u
  clear i
  go_wp2_with fail
  go_ret
  exact⟨by rw[R.u];exact yj (by rw[xO];simp;omega),D.u⟩
theorem Cy (y:Y8 t) (d:0 < t.length) (N:(t[0].toList==[101,110,100])=false) (M:(t[0].toList==[101,108,115,101])=false) (L:(t[0].toList==[114,101,116,117,114,110])=true):kv 81 Rf.xM t:=by
 intro w v k
 have W:=y.1
 have R:=zD y
 obtain⟨ad,cap,rfl,G⟩:=k.form
 obtain⟨b,o,rfl⟩:=k.qZ (by intro h;rw[h]at d;simp at d)
 have J:¬t.length=0:=by omega
 have f:Rf.xM t=Rf.isKind t t[0].toList:=by rw[Rf.xM,zA J,Rf.first,Rf.qq d]
 unfold Rf.isKind at f
 rw[N,zA (by decide),M,zA (by decide),L,zE rfl]at f
 have T:=zD f
 clear f
 have U:Hd (∀w' j (hj:j < t.length),xA w' (.slice (some ⟨b,o,none⟩) t.length cap) t->w'.cell? ⟨b,o+j,none⟩=some (.string t[j])):=zD (by
  intro w' j hj h
  obtain⟨b',V,cap',F,O⟩:=h.cell hj
  simp at F
  obtain⟨⟨rfl,rfl⟩,rfl⟩:=F
  exact O)
 have A:Hd (∀w',xA w' (.slice (some ⟨b,o,none⟩) t.length cap) t->w'.cell? ⟨b,o,none⟩=some (.string t[0])):=zD (fun w' h=>U.u w' 0 d h)
 have H:=zD k
 have I:((t.length:Int)==0)=false:=by rw[zV];omega
 clear k y
 generalize t[0]=x at *
 go_enter Tryz.func81,Tryz.ntmps81
 go_wp2_with fail
 all_goals
  refine(qv (by first | exact xA.gone (by omega) rfl | exact H.u.drop 1 _ _ rfl (by omega)) (R.u.drop 1)).mono ?_
  rintro e w1 ⟨rfl,i⟩
  have z:=zD (H.u.zP i)
  have D:=zD i
  have Z:=A.u _ z.u
  clear i
  go_wp2_with fail
  go_ret
  exact⟨by rw[T.u];exact yj (by rw[xO];simp;omega),D.u⟩
theorem Cx (D:Y8 t) (d:0 < t.length) (T:(t[0].toList==[101,110,100])=false) (R:(t[0].toList==[101,108,115,101])=false) (O:(t[0].toList==[114,101,116,117,114,110])=false) (N:(t[0].toList==[118,97,114])=true):kv 81 Rf.xM t:=by
 intro w v y
 have hl:=D.1
 have V:=zD D
 obtain⟨ad,cap,rfl,I⟩:=y.form
 obtain⟨b,o,rfl⟩:=y.qZ (by intro h;rw[h]at d;simp at d)
 have M:¬t.length=0:=by omega
 have f:Rf.xM t=Rf.isKind t t[0].toList:=by rw[Rf.xM,zA M,Rf.first,Rf.qq d]
 unfold Rf.isKind at f
 rw[T,zA (by decide),R,zA (by decide),O,zA (by decide),N,zE rfl]at f
 have z:=zD f
 clear f
 have W:Hd (∀w' j (hj:j < t.length),xA w' (.slice (some ⟨b,o,none⟩) t.length cap) t->w'.cell? ⟨b,o+j,none⟩=some (.string t[j])):=zD (by
  intro w' j hj h
  obtain⟨b',Z,cap',H,U⟩:=h.cell hj
  simp at H
  obtain⟨⟨rfl,rfl⟩,rfl⟩:=H
  exact U)
 have G:Hd (∀w',xA w' (.slice (some ⟨b,o,none⟩) t.length cap) t->w'.cell? ⟨b,o,none⟩=some (.string t[0])):=zD (fun w' h=>W.u w' 0 d h)
 have J:=zD y
 have L:((t.length:Int)==0)=false:=by rw[zV];omega
 clear y D
 generalize t[0]=x at *
 go_enter Tryz.func81,Tryz.ntmps81
 go_wp2_with fail
 all_goals
  refine(qv (by first | exact xA.gone (by omega) rfl | exact J.u.drop 1 _ _ rfl (by omega)) (V.u.drop 1)).mono ?_
  rintro e w1 ⟨rfl,i⟩
  have F:=zD (J.u.zP i)
  have k:=zD i
  have cx:=G.u _ F.u
  clear i
  by_cases hn:t.length=2
  ·have A:((t.length:Int)==2)=true:=by rw[xw];omega
   rw[qA hn]at z
   go_wp2_with fail
   all_goals
    go_ret
    exact⟨by rw[z.u];exact yj (by simp_all),k.u⟩
  ·have A:((t.length:Int)==2)=false:=by rw[zV];omega
   rw[qP hn]at z
   go_wp2_with fail
   all_goals
    go_ret
    exact⟨by rw[z.u];exact yj (by simp),k.u⟩
theorem Cu (D:Y8 t) (d:0 < t.length) (Z:(t[0].toList==[101,110,100])=false) (W:(t[0].toList==[101,108,115,101])=false) (V:(t[0].toList==[114,101,116,117,114,110])=false) (U:(t[0].toList==[118,97,114])=false) (T:(t[0].toList==[114,101,97,100])=false) (R:(t[0].toList==[112,114,111,99])=false) (O:(t[0].toList==[105,102])=true):kv 81 Rf.xM t:=by
 intro w v A
 have hl:=D.1
 have L:=zD D
 obtain⟨ad,cap,rfl,I⟩:=A.form
 obtain⟨b,o,rfl⟩:=A.qZ (by intro h;rw[h]at d;simp at d)
 have N:¬t.length=0:=by omega
 have f:Rf.xM t=Rf.isKind t t[0].toList:=by rw[Rf.xM,zA N,Rf.first,Rf.qq d]
 unfold Rf.isKind at f
 rw[Z,zA (by decide),W,zA (by decide),V,zA (by decide),U,zA (by decide),T,zA (by decide),R,zA (by decide),O,zE rfl]at f
 have HE:=zD f
 clear f
 have HC:Hd (∀w' j (hj:j < t.length),xA w' (.slice (some ⟨b,o,none⟩) t.length cap) t->w'.cell? ⟨b,o+j,none⟩=some (.string t[j])):=zD (by
  intro w' j hj h
  obtain⟨b',o',cap',H,c0⟩:=h.cell hj
  simp at H
  obtain⟨⟨rfl,rfl⟩,rfl⟩:=H
  exact c0)
 have F:Hd (∀w',xA w' (.slice (some ⟨b,o,none⟩) t.length cap) t->w'.cell? ⟨b,o,none⟩=some (.string t[0])):=zD (fun w' h=>HC.u w' 0 d h)
 have J:=zD A
 have M:((t.length:Int)==0)=false:=by rw[zV];omega
 clear A D
 generalize t[0]=x at *
 go_enter Tryz.func81,Tryz.ntmps81
 go_wp2_with fail
 all_goals
  refine(qv (by first | exact xA.gone (by omega) rfl | exact J.u.drop 1 _ _ rfl (by omega)) (L.u.drop 1)).mono ?_
  rintro e w1 ⟨rfl,i⟩
  have y:=zD (J.u.zP i)
  have z:=zD i
  have cx:=F.u _ y.u
  clear i
  go_wp2_with fail
  all_goals
   refine(QU (L.u.drop 1) _ _ (by first | exact xA.gone (by omega) rfl | exact y.u.drop 1 _ _ rfl (by omega))).mono ?_
   rintro e w2 ⟨rfl,k⟩
   have G:=zD (z.u.trans (k.mono (B':=w.heap.size) z.u.size))
   clear k
   go_wp2_with fail
   go_ret
   exact⟨by rw[HE.u];first | rfl | exact yj (by simp),G.u⟩
theorem Cw (D:Y8 t) (d:0 < t.length) (U:(t[0].toList==[101,110,100])=false) (T:(t[0].toList==[101,108,115,101])=false) (R:(t[0].toList==[114,101,116,117,114,110])=false) (O:(t[0].toList==[118,97,114])=false) (N:(t[0].toList==[114,101,97,100])=true):kv 81 Rf.xM t:=by
 intro w v y
 have hl:=D.1
 have W:=zD D
 obtain⟨ad,cap,rfl,I⟩:=y.form
 obtain⟨b,o,rfl⟩:=y.qZ (by intro h;rw[h]at d;simp at d)
 have M:¬t.length=0:=by omega
 have f:Rf.xM t=Rf.isKind t t[0].toList:=by rw[Rf.xM,zA M,Rf.first,Rf.qq d]
 unfold Rf.isKind at f
 rw[U,zA (by decide),T,zA (by decide),R,zA (by decide),O,zA (by decide),N,zE rfl]at f
 have z:=zD f
 clear f
 have Z:Hd (∀w' j (hj:j < t.length),xA w' (.slice (some ⟨b,o,none⟩) t.length cap) t->w'.cell? ⟨b,o+j,none⟩=some (.string t[j])):=zD (by
  intro w' j hj h
  obtain⟨b',o',cap',H,V⟩:=h.cell hj
  simp at H
  obtain⟨⟨rfl,rfl⟩,rfl⟩:=H
  exact V)
 have G:Hd (∀w',xA w' (.slice (some ⟨b,o,none⟩) t.length cap) t->w'.cell? ⟨b,o,none⟩=some (.string t[0])):=zD (fun w' h=>Z.u w' 0 d h)
 have J:=zD y
 have L:((t.length:Int)==0)=false:=by rw[zV];omega
 clear y D
 generalize t[0]=x at *
 go_enter Tryz.func81,Tryz.ntmps81
 go_wp2_with fail
 all_goals
  refine(qv (by first | exact xA.gone (by omega) rfl | exact J.u.drop 1 _ _ rfl (by omega)) (W.u.drop 1)).mono ?_
  rintro e w1 ⟨rfl,i⟩
  have F:=zD (J.u.zP i)
  have k:=zD i
  have cx:=G.u _ F.u
  clear i
  by_cases hn:t.length=2
  ·have A:((t.length:Int)==2)=true:=by rw[xw];omega
   rw[qA hn]at z
   go_wp2_with fail
   all_goals
    go_ret
    exact⟨by rw[z.u];exact yj (by simp_all),k.u⟩
  ·have A:((t.length:Int)==2)=false:=by rw[zV];omega
   rw[qP hn]at z
   go_wp2_with fail
   all_goals
    go_ret
    exact⟨by rw[z.u];exact yj (by simp),k.u⟩
theorem Cv (A:Y8 t) (d:0 < t.length) (U:(t[0].toList==[101,110,100])=false) (T:(t[0].toList==[101,108,115,101])=false) (R:(t[0].toList==[114,101,116,117,114,110])=false) (O:(t[0].toList==[118,97,114])=false) (N:(t[0].toList==[114,101,97,100])=false) (M:(t[0].toList==[112,114,111,99])=true):kv 81 Rf.xM t:=by
 intro w v z
 have hl:=A.1
 have W:=zD A
 obtain⟨ad,cap,rfl,H⟩:=z.form
 obtain⟨b,o,rfl⟩:=z.qZ (by intro h;rw[h]at d;simp at d)
 have L:¬t.length=0:=by omega
 have f:Rf.xM t=Rf.isKind t t[0].toList:=by rw[Rf.xM,zA L,Rf.first,Rf.qq d]
 unfold Rf.isKind at f
 rw[U,zA (by decide),T,zA (by decide),R,zA (by decide),O,zA (by decide),N,zA (by decide),M,zE rfl]at f
 have y:=zD f
 clear f
 have Z:Hd (∀w' j (hj:j < t.length),xA w' (.slice (some ⟨b,o,none⟩) t.length cap) t->w'.cell? ⟨b,o+j,none⟩=some (.string t[j])):=zD (by
  intro w' j hj h
  obtain⟨b',o',cap',G,V⟩:=h.cell hj
  simp at G
  obtain⟨⟨rfl,rfl⟩,rfl⟩:=G
  exact V)
 have F:Hd (∀w',xA w' (.slice (some ⟨b,o,none⟩) t.length cap) t->w'.cell? ⟨b,o,none⟩=some (.string t[0])):=zD (fun w' h=>Z.u w' 0 d h)
 have I:=zD z
 have J:((t.length:Int)==0)=false:=by rw[zV];omega
 clear z A
 generalize t[0]=x at *
 go_enter Tryz.func81,Tryz.ntmps81
 go_wp2_with fail
 all_goals
  refine(qv (by first | exact xA.gone (by omega) rfl | exact I.u.drop 1 _ _ rfl (by omega)) (W.u.drop 1)).mono ?_
  rintro e w1 ⟨rfl,i⟩
  have D:=zD (I.u.zP i)
  have k:=zD i
  have cx:=F.u _ D.u
  clear i
  by_cases hn:2<=t.length/\t.length<=6
  ·obtain⟨n1,n2⟩:=hn
   rw[qA (show 2<=t.length/\t.length<=6 from⟨n1,n2⟩)]at y
   go_wp2_with fail
   all_goals
    go_ret
    exact⟨by rw[y.u];exact yj (by simp_all),k.u⟩
  ·rw[qP hn]at y
   by_cases n1:2<=t.length
   ·have n2:¬t.length<=6:=fun h=>hn ⟨n1,h⟩
    go_wp2_with fail
    all_goals
     go_ret
     exact⟨by rw[y.u];exact yj (by simp_all),k.u⟩
   ·go_wp2_with fail
    all_goals
     go_ret
     exact⟨by rw[y.u];exact yj (by simp_all),k.u⟩
theorem Ct (D:Y8 t) (d:0 < t.length) (e0:(t[0].toList==[101,110,100])=false) (Z:(t[0].toList==[101,108,115,101])=false) (W:(t[0].toList==[114,101,116,117,114,110])=false) (V:(t[0].toList==[118,97,114])=false) (U:(t[0].toList==[114,101,97,100])=false) (T:(t[0].toList==[112,114,111,99])=false) (R:(t[0].toList==[105,102])=false) (O:(t[0].toList==[119,104,105,108,101])=true):kv 81 Rf.xM t:=by
 intro w v A
 have hl:=D.1
 have L:=zD D
 obtain⟨ad,cap,rfl,I⟩:=A.form
 obtain⟨b,o,rfl⟩:=A.qZ (by intro h;rw[h]at d;simp at d)
 have N:¬t.length=0:=by omega
 have f:Rf.xM t=Rf.isKind t t[0].toList:=by rw[Rf.xM,zA N,Rf.first,Rf.qq d]
 unfold Rf.isKind at f
 rw[e0,zA (by decide),Z,zA (by decide),W,zA (by decide),V,zA (by decide),U,zA (by decide),T,zA (by decide),R,zA (by decide),O,zE rfl]at f
 have HE:=zD f
 clear f
 have HC:Hd (∀w' j (hj:j < t.length),xA w' (.slice (some ⟨b,o,none⟩) t.length cap) t->w'.cell? ⟨b,o+j,none⟩=some (.string t[j])):=zD (by
  intro w' j hj h
  obtain⟨b',o',cap',H,c0⟩:=h.cell hj
  simp at H
  obtain⟨⟨rfl,rfl⟩,rfl⟩:=H
  exact c0)
 have F:Hd (∀w',xA w' (.slice (some ⟨b,o,none⟩) t.length cap) t->w'.cell? ⟨b,o,none⟩=some (.string t[0])):=zD (fun w' h=>HC.u w' 0 d h)
 have J:=zD A
 have M:((t.length:Int)==0)=false:=by rw[zV];omega
 clear A D
 generalize t[0]=x at *
 go_enter Tryz.func81,Tryz.ntmps81
 go_wp2_with fail
 all_goals
  refine(qv (by first | exact xA.gone (by omega) rfl | exact J.u.drop 1 _ _ rfl (by omega)) (L.u.drop 1)).mono ?_
  rintro e w1 ⟨rfl,i⟩
  have y:=zD (J.u.zP i)
  have z:=zD i
  have cx:=F.u _ y.u
  clear i
  go_wp2_with fail
  all_goals
   refine(QU (L.u.drop 1) _ _ (by first | exact xA.gone (by omega) rfl | exact y.u.drop 1 _ _ rfl (by omega))).mono ?_
   rintro e w2 ⟨rfl,k⟩
   have G:=zD (z.u.trans (k.mono (B':=w.heap.size) z.u.size))
   clear k
   go_wp2_with fail
   go_ret
   exact⟨by rw[HE.u];first | rfl | exact yj (by simp),G.u⟩
theorem Cs (D:Y8 t) (d:0 < t.length) (e0:(t[0].toList==[101,110,100])=false) (e1:(t[0].toList==[101,108,115,101])=false) (Z:(t[0].toList==[114,101,116,117,114,110])=false) (W:(t[0].toList==[118,97,114])=false) (V:(t[0].toList==[114,101,97,100])=false) (U:(t[0].toList==[112,114,111,99])=false) (T:(t[0].toList==[105,102])=false) (R:(t[0].toList==[119,104,105,108,101])=false) (O:(t[0].toList==[112,114,105,110,116])=true):kv 81 Rf.xM t:=by
 intro w v A
 have hl:=D.1
 have L:=zD D
 obtain⟨ad,cap,rfl,I⟩:=A.form
 obtain⟨b,o,rfl⟩:=A.qZ (by intro h;rw[h]at d;simp at d)
 have N:¬t.length=0:=by omega
 have f:Rf.xM t=Rf.isKind t t[0].toList:=by rw[Rf.xM,zA N,Rf.first,Rf.qq d]
 unfold Rf.isKind at f
 rw[e0,zA (by decide),e1,zA (by decide),Z,zA (by decide),W,zA (by decide),V,zA (by decide),U,zA (by decide),T,zA (by decide),R,zA (by decide),O,zE rfl]at f
 have HE:=zD f
 clear f
 have HC:Hd (∀w' j (hj:j < t.length),xA w' (.slice (some ⟨b,o,none⟩) t.length cap) t->w'.cell? ⟨b,o+j,none⟩=some (.string t[j])):=zD (by
  intro w' j hj h
  obtain⟨b',o',cap',H,c0⟩:=h.cell hj
  simp at H
  obtain⟨⟨rfl,rfl⟩,rfl⟩:=H
  exact c0)
 have F:Hd (∀w',xA w' (.slice (some ⟨b,o,none⟩) t.length cap) t->w'.cell? ⟨b,o,none⟩=some (.string t[0])):=zD (fun w' h=>HC.u w' 0 d h)
 have J:=zD A
 have M:((t.length:Int)==0)=false:=by rw[zV];omega
 clear A D
 generalize t[0]=x at *
 go_enter Tryz.func81,Tryz.ntmps81
 go_wp2_with fail
 all_goals
  refine(qv (by first | exact xA.gone (by omega) rfl | exact J.u.drop 1 _ _ rfl (by omega)) (L.u.drop 1)).mono ?_
  rintro e w1 ⟨rfl,i⟩
  have y:=zD (J.u.zP i)
  have z:=zD i
  have cx:=F.u _ y.u
  clear i
  go_wp2_with fail
  all_goals
   refine(QU (L.u.drop 1) _ _ (by first | exact xA.gone (by omega) rfl | exact y.u.drop 1 _ _ rfl (by omega))).mono ?_
   rintro e w2 ⟨rfl,k⟩
   have G:=zD (z.u.trans (k.mono (B':=w.heap.size) z.u.size))
   clear k
   go_wp2_with fail
   go_ret
   exact⟨by rw[HE.u];first | rfl | exact yj (by simp),G.u⟩
theorem Cr (D:Y8 t) (d:0 < t.length) (e0:(t[0].toList==[101,110,100])=false) (e1:(t[0].toList==[101,108,115,101])=false) (e2:(t[0].toList==[114,101,116,117,114,110])=false) (Z:(t[0].toList==[118,97,114])=false) (W:(t[0].toList==[114,101,97,100])=false) (V:(t[0].toList==[112,114,111,99])=false) (U:(t[0].toList==[105,102])=false) (T:(t[0].toList==[119,104,105,108,101])=false) (R:(t[0].toList==[112,114,105,110,116])=false) (O:(t[0].toList==[115,101,116])=true):kv 81 Rf.xM t:=by
 intro w v A
 have hl:=D.1
 have L:=zD D
 obtain⟨ad,cap,rfl,I⟩:=A.form
 obtain⟨b,o,rfl⟩:=A.qZ (by intro h;rw[h]at d;simp at d)
 have N:¬t.length=0:=by omega
 have f:Rf.xM t=Rf.isKind t t[0].toList:=by rw[Rf.xM,zA N,Rf.first,Rf.qq d]
 unfold Rf.isKind at f
 rw[e0,zA (by decide),e1,zA (by decide),e2,zA (by decide),Z,zA (by decide),W,zA (by decide),V,zA (by decide),U,zA (by decide),T,zA (by decide),R,zA (by decide),O,zE rfl]at f
 have HE:=zD f
 clear f
 have HC:Hd (∀w' j (hj:j < t.length),xA w' (.slice (some ⟨b,o,none⟩) t.length cap) t->w'.cell? ⟨b,o+j,none⟩=some (.string t[j])):=zD (by
  intro w' j hj h
  obtain⟨b',o',cap',H,c0⟩:=h.cell hj
  simp at H
  obtain⟨⟨rfl,rfl⟩,rfl⟩:=H
  exact c0)
 have F:Hd (∀w',xA w' (.slice (some ⟨b,o,none⟩) t.length cap) t->w'.cell? ⟨b,o,none⟩=some (.string t[0])):=zD (fun w' h=>HC.u w' 0 d h)
 have J:=zD A
 have M:((t.length:Int)==0)=false:=by rw[zV];omega
 clear A D
 generalize t[0]=x at *
 go_enter Tryz.func81,Tryz.ntmps81
 go_wp2_with fail
 all_goals
  refine(qv (by first | exact xA.gone (by omega) rfl | exact J.u.drop 1 _ _ rfl (by omega)) (L.u.drop 1)).mono ?_
  rintro e w1 ⟨rfl,i⟩
  have k:=zD (J.u.zP i)
  have z:=zD i
  have cx:=F.u _ k.u
  clear i
  go_wp2_with fail
  all_goals
   refine(Av L.u _ _ (by first | exact k.u | (subst h;exact k.u))).mono ?_
   rintro e w2 ⟨rfl,y⟩
   have G:=zD (z.u.trans (y.mono (B':=w.heap.size) z.u.size))
   clear y
   go_wp2_with fail
   go_ret
   exact⟨by rw[HE.u];first | rfl | exact yj (by simp),G.u⟩
theorem Ay (D:Y8 t) (d:0 < t.length) (e0:(t[0].toList==[101,110,100])=false) (e1:(t[0].toList==[101,108,115,101])=false) (e2:(t[0].toList==[114,101,116,117,114,110])=false) (e3:(t[0].toList==[118,97,114])=false) (Z:(t[0].toList==[114,101,97,100])=false) (W:(t[0].toList==[112,114,111,99])=false) (V:(t[0].toList==[105,102])=false) (U:(t[0].toList==[119,104,105,108,101])=false) (T:(t[0].toList==[112,114,105,110,116])=false) (R:(t[0].toList==[115,101,116])=false) (F:(t[0].toList==[99,97,108,108])=true):kv 81 Rf.xM t:=by
 intro w v A
 have hl:=D.1
 have M:=zD D
 obtain⟨ad,cap,rfl,J⟩:=A.form
 obtain⟨b,o,rfl⟩:=A.qZ (by intro h;rw[h]at d;simp at d)
 have O:¬t.length=0:=by omega
 have f:Rf.xM t=Rf.isKind t t[0].toList:=by rw[Rf.xM,zA O,Rf.first,Rf.qq d]
 unfold Rf.isKind at f
 rw[e0,zA (by decide),e1,zA (by decide),e2,zA (by decide),e3,zA (by decide),Z,zA (by decide),W,zA (by decide),V,zA (by decide),U,zA (by decide),T,zA (by decide),R,zA (by decide),F,zE rfl]at f
 have HE:=zD f
 clear f
 have HC:Hd (∀w' j (hj:j < t.length),xA w' (.slice (some ⟨b,o,none⟩) t.length cap) t->w'.cell? ⟨b,o+j,none⟩=some (.string t[j])):=zD (by
  intro w' j hj h
  obtain⟨b',o',cap',I,c0⟩:=h.cell hj
  simp at I
  obtain⟨⟨rfl,rfl⟩,rfl⟩:=I
  exact c0)
 have G:Hd (∀w',xA w' (.slice (some ⟨b,o,none⟩) t.length cap) t->w'.cell? ⟨b,o,none⟩=some (.string t[0])):=zD (fun w' h=>HC.u w' 0 d h)
 have L:=zD A
 have N:((t.length:Int)==0)=false:=by rw[zV];omega
 clear A D
 generalize t[0]=x at *
 go_enter Tryz.func81,Tryz.ntmps81
 go_wp2_with fail
 all_goals
  refine(qv (by first | exact xA.gone (by omega) rfl | exact L.u.drop 1 _ _ rfl (by omega)) (M.u.drop 1)).mono ?_
  rintro e w1 ⟨rfl,i⟩
  have k:=zD (L.u.zP i)
  have z:=zD i
  have cx:=G.u _ k.u
  clear i
  go_wp2_with fail
  all_goals
   refine(tM M.u _ _ (by first | exact k.u | (subst h;exact k.u))).mono ?_
   rintro e w2 ⟨rfl,y⟩
   have H:=zD (z.u.trans (y.mono (B':=w.heap.size) z.u.size))
   clear y
   go_wp2_with fail
   go_ret
   exact⟨by rw[HE.u];first | rfl | exact yj (by simp),H.u⟩
theorem Ax (R:Y8 t) (d:0 < t.length) (e0:(t[0].toList==[101,110,100])=false) (e1:(t[0].toList==[101,108,115,101])=false) (e2:(t[0].toList==[114,101,116,117,114,110])=false) (e3:(t[0].toList==[118,97,114])=false) (e4:(t[0].toList==[114,101,97,100])=false) (e5:(t[0].toList==[112,114,111,99])=false) (e6:(t[0].toList==[105,102])=false) (e7:(t[0].toList==[119,104,105,108,101])=false) (e8:(t[0].toList==[112,114,105,110,116])=false) (e9:(t[0].toList==[115,101,116])=false) (U:(t[0].toList==[99,97,108,108])=false) (T:(t[0].toList==[97,114,114,97,121])=true):kv 81 Rf.xM t:=by
 intro w v H
 have hl:=R.1
 have V:=zD R
 obtain⟨ad,cap,rfl,a0⟩:=H.form
 obtain⟨b,o,rfl⟩:=H.qZ (by intro h;rw[h]at d;simp at d)
 have hz:¬t.length=0:=by omega
 have f:Rf.xM t=Rf.isKind t t[0].toList:=by rw[Rf.xM,zA hz,Rf.first,Rf.qq d]
 unfold Rf.isKind at f
 rw[e0,zA (by decide),e1,zA (by decide),e2,zA (by decide),e3,zA (by decide),e4,zA (by decide),e5,zA (by decide),e6,zA (by decide),e7,zA (by decide),e8,zA (by decide),e9,zA (by decide),U,zA (by decide),T,zE rfl]at f
 have I:=zD f
 clear f
 have J:Hd (∀w' j (hj:j < t.length),xA w' (.slice (some ⟨b,o,none⟩) t.length cap) t->w'.cell? ⟨b,o+j,none⟩=some (.string t[j])):=zD (by
  intro w' j hj h
  obtain⟨b',o',cap',he,c0⟩:=h.cell hj
  simp at he
  obtain⟨⟨rfl,rfl⟩,rfl⟩:=he
  exact c0)
 have Z:Hd (∀w',xA w' (.slice (some ⟨b,o,none⟩) t.length cap) t->w'.cell? ⟨b,o,none⟩=some (.string t[0])):=zD (fun w' h=>J.u w' 0 d h)
 have HV:=zD H
 have a1:((t.length:Int)==0)=false:=by rw[zV];omega
 clear H R
 generalize t[0]=x at *
 go_enter Tryz.func81,Tryz.ntmps81
 go_wp2_with fail
 all_goals
  refine(qv (by first | exact xA.gone (by omega) rfl | exact HV.u.drop 1 _ _ rfl (by omega)) (V.u.drop 1)).mono ?_
  rintro e w1 ⟨rfl,k⟩
  have A:=zD (HV.u.zP k)
  have F:=zD k
  have cx:=Z.u _ A.u
  clear k
  by_cases hn:t.length=3
  ·have O:((t.length:Int)==3)=true:=by rw[xw];omega
   have N:1 < t.length:=by omega
   have M:2 < t.length:=by omega
   have G:=zD (show Rf.xM t=(Rf.yg t[1] && Rf.xi t[2] && decide ((1:Int)<=Rf.worth t[2]) && decide (Rf.worth t[2]<=(32:Int))) by rw[I.u,Rf.Qn,zE hn,Rf.qq N,Rf.qq M])
   have c1:=J.u _ 1 N A.u
   have W:=zD (fun w' h=>J.u w' 2 M h)
   have s1:t[1].size<=maxLen:=by have:=V.u.2 _ (zj N);unfold maxLen;omega
   have L:t[2].size<=maxLen:=by have:=V.u.2 _ (zj M);unfold maxLen;omega
   clear I J
   generalize t[1]=y at *
   generalize t[2]=z at *
   go_wp2_with fail
   refine(XJ y _ s1).mono ?_
   rintro e w2 ⟨rfl,i⟩
   have D:=zD (F.u.trans (i.mono (B':=w.heap.size) F.u.size))
   have c2:=W.u _ (A.u.zP i)
   clear i
   cases hy:Rf.yg y with
   | false=>
    go_wp2_with fail
    all_goals
     go_ret
     exact⟨by rw[G.u,hy];rfl,D.u⟩
   | true=>
    cases hq:Rf.xi z with
    | false=>
     go_wp2_with (first | (go_at_call 139;refine(Yv z _ L).mono ?_;rintro e w' ⟨rfl,rfl⟩;rw[hq]))
     all_goals
      go_ret
      exact⟨by rw[G.u,hy,hq];rfl,D.u⟩
    | true=>
     go_wp2_with (first | (go_at_call 139;refine(Yv z _ L).mono ?_;rintro e w' ⟨rfl,rfl⟩;rw[hq])| (go_at_call 93;refine(bx z _ L).mono ?_;rintro e w' ⟨rfl,rfl⟩))
     all_goals
      go_ret
      exact⟨by rw[G.u,hy,hq];exact yj (by simp_all <;> omega),D.u⟩
  ·have O:((t.length:Int)==3)=false:=by rw[zV];omega
   have G:=zD (show Rf.xM t=false by rw[I.u,Rf.Qn,zA hn])
   clear I
   go_wp2_with fail
   go_ret
   exact⟨by rw[G.u];rfl,F.u⟩
theorem Aw (y:Y8 t) (d:0 < t.length) (e0:(t[0].toList==[101,110,100])=false) (e1:(t[0].toList==[101,108,115,101])=false) (Z:(t[0].toList==[114,101,116,117,114,110])=false) (W:(t[0].toList==[118,97,114])=false) (V:(t[0].toList==[114,101,97,100])=false) (U:(t[0].toList==[112,114,111,99])=false) (T:(t[0].toList==[105,102])=false) (R:(t[0].toList==[119,104,105,108,101])=false) (O:(t[0].toList==[112,114,105,110,116])=false) (N:(t[0].toList==[115,101,116])=false) (A:(t[0].toList==[99,97,108,108])=false) (z:(t[0].toList==[97,114,114,97,121])=false):kv 81 Rf.xM t:=by
 intro w v k
 have hl:=y.1
 have HF:=zD y
 obtain⟨ad,cap,rfl,I⟩:=k.form
 obtain⟨b,o,rfl⟩:=k.qZ (by intro h;rw[h]at d;simp at d)
 have M:¬t.length=0:=by omega
 have f:Rf.xM t=Rf.isKind t t[0].toList:=by rw[Rf.xM,zA M,Rf.first,Rf.qq d]
 unfold Rf.isKind at f
 rw[e0,zA (by decide),e1,zA (by decide),Z,zA (by decide),W,zA (by decide),V,zA (by decide),U,zA (by decide),T,zA (by decide),R,zA (by decide),O,zA (by decide),N,zA (by decide),A,zA (by decide),z,zA (by decide)]at f
 have HE:=zD f
 clear f
 have HC:Hd (∀w' j (hj:j < t.length),xA w' (.slice (some ⟨b,o,none⟩) t.length cap) t->w'.cell? ⟨b,o+j,none⟩=some (.string t[j])):=zD (by
  intro w' j hj h
  obtain⟨b',o',cap',H,c0⟩:=h.cell hj
  simp at H
  obtain⟨⟨rfl,rfl⟩,rfl⟩:=H
  exact c0)
 have F:Hd (∀w',xA w' (.slice (some ⟨b,o,none⟩) t.length cap) t->w'.cell? ⟨b,o,none⟩=some (.string t[0])):=zD (fun w' h=>HC.u w' 0 d h)
 have J:=zD k
 have L:((t.length:Int)==0)=false:=by rw[zV];omega
 clear k y
 generalize t[0]=x at *
 go_enter Tryz.func81,Tryz.ntmps81
 go_wp2_with fail
 all_goals
  refine(qv (by first | exact xA.gone (by omega) rfl | exact J.u.drop 1 _ _ rfl (by omega)) (HF.u.drop 1)).mono ?_
  rintro e w1 ⟨rfl,i⟩
  have D:=zD (J.u.zP i)
  have G:=zD i
  have cx:=F.u _ D.u
  clear i
  go_wp2_with fail
  go_ret
  exact⟨by rw[HE.u];rfl,G.u⟩
theorem tK (d:Y8 t):kv 81 Rf.xM t:=by
 by_cases h0:0 < t.length
 ·by_cases e0:(t[0].toList==[101,110,100])=true
  ·exact C0 d h0  e0
  replace e0:=yL.mpr e0
  by_cases e1:(t[0].toList==[101,108,115,101])=true
  ·exact Cz d h0 e0 e1
  replace e1:=yL.mpr e1
  by_cases e2:(t[0].toList==[114,101,116,117,114,110])=true
  ·exact Cy d h0 e0 e1 e2
  replace e2:=yL.mpr e2
  by_cases e3:(t[0].toList==[118,97,114])=true
  ·exact Cx d h0 e0 e1 e2 e3
  replace e3:=yL.mpr e3
  by_cases e4:(t[0].toList==[114,101,97,100])=true
  ·exact Cw d h0 e0 e1 e2 e3 e4
  replace e4:=yL.mpr e4
  by_cases e5:(t[0].toList==[112,114,111,99])=true
  ·exact Cv d h0 e0 e1 e2 e3 e4 e5
  replace e5:=yL.mpr e5
  by_cases e6:(t[0].toList==[105,102])=true
  ·exact Cu d h0 e0 e1 e2 e3 e4 e5 e6
  replace e6:=yL.mpr e6
  by_cases e7:(t[0].toList==[119,104,105,108,101])=true
  ·exact Ct d h0 e0 e1 e2 e3 e4 e5 e6 e7
  replace e7:=yL.mpr e7
  by_cases e8:(t[0].toList==[112,114,105,110,116])=true
  ·exact Cs d h0 e0 e1 e2 e3 e4 e5 e6 e7 e8
  replace e8:=yL.mpr e8
  by_cases e9:(t[0].toList==[115,101,116])=true
  ·exact Cr d h0 e0 e1 e2 e3 e4 e5 e6 e7 e8 e9
  replace e9:=yL.mpr e9
  by_cases e10:(t[0].toList==[99,97,108,108])=true
  ·exact Ay d h0 e0 e1 e2 e3 e4 e5 e6 e7 e8 e9 e10
  replace e10:=yL.mpr e10
  by_cases e11:(t[0].toList==[97,114,114,97,121])=true
  ·exact Ax d h0 e0 e1 e2 e3 e4 e5 e6 e7 e8 e9 e10 e11
  replace e11:=yL.mpr e11
  exact Aw d h0 e0 e1 e2 e3 e4 e5 e6 e7 e8 e9 e10 e11
 ·intro w v j
  have o:=d.1
  obtain⟨x,cap,rfl,f⟩:=j.form
  have i:t.length=0:=by omega
  have k:=zD (show Rf.xM t=true by rw[Rf.xM,zE i])
  have h:((t.length:Int)==0)=true:=by rw[xw];omega
  go_enter Tryz.func81,Tryz.ntmps81
  go_wp2_with fail
  go_ret
  exact⟨by rw[k.u];rfl,zI _ _⟩
end Go.Proofs.YthleadfkfnnadaaGreat
