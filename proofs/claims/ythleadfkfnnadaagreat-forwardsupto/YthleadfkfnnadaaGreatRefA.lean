/- The document's answer: lines that call. -/
import Derived.Test.YthleadfkfnnadaaGreatRef5
set_option maxHeartbeats 4000000
set_option maxRecDepth 100000
set_option linter.unusedSimpArgs false
namespace Go.Proofs.YthleadfkfnnadaaGreat
open Go.RowKit
variable {us:List (List ByteArray)} {t:List ByteArray} {vs:List Value} {tv:Value} {w:World}
theorem xA.Ad {b o cap:Nat} (h:xA w (.slice (some ⟨b,o,none⟩) t.length cap) t) (i j n c:Nat) (d:j<=t.length) (f:n=j-i) (k:n<=c):xA w (.slice (some ⟨b,o+i,none⟩) n c) ((t.take j).drop i):=by
 have y:=h.take j j d (zB _)
 have x:xA w (.slice (some ⟨b,o,none⟩) (t.take j).length j) (t.take j):=by rw[jw,vD d];exact y
 exact x.drop i n c (by rw[jw,vD d];exact f) k
theorem il (T:Y8 t) (F E C:List ByteArray->Bool) (Z:2<=t.length->kv 217 F (t.drop 1))
  (h1:2<=t.length->kv 135 E ((t.take (t.length-1)).drop 1)) (W:kv 177 C t):kv 217 (Rf.kR F E C) t:=by
 intro w v G
 have hl:=T.1
 have J:=XX Z h1 W
 clear Z h1 W
 obtain⟨ad,cap,rfl,V⟩:=G.form
 by_cases hz:t.length=0
 ·have k:=zD (show Rf.kR F E C t=false by rw[Rf.kR,zE hz])
  have L:(t.length:Int)=0:=by omega
  go_enter Tryz.func217,Tryz.ntmps217
  go_wp2_with fail
  go_ret
  exact⟨by rw[k.u];rfl,zI _ _⟩
 ·obtain⟨b,o,rfl⟩:=G.qZ (by intro h;rw[h]at hz;simp at hz)
  have D:0 < t.length:=by omega
  have I:t.length-1 < t.length:=by omega
  have M:=T.2 _ (zj D)
  have HV:=zD G
  have cells:∀w',xA w' (.slice (some ⟨b,o,none⟩) t.length cap) t->w'.cell? ⟨b,o,none⟩=some (.string t[0])/\w'.cell? ⟨b,o+(t.length-1),none⟩=some (.string t[t.length-1]):=by
   intro w' h
   obtain⟨b',o',cap',U,R⟩:=h.cell D
   obtain⟨b2,o2,a0,H,O⟩:=h.cell I
   simp at U H
   obtain⟨⟨rfl,rfl⟩,rfl⟩:=U
   obtain⟨⟨rfl,rfl⟩,rfl⟩:=H
   exact⟨R,O⟩
  obtain⟨R,O⟩:=cells _ G
  have HC:=zD cells
  clear cells G
  have F0:=zD (Rf.qq D)
  have F1:=zD (Rf.qq I)
  have z:t[0].size<=maxLen:=by unfold maxLen;omega
  have k:=zD (show Rf.kR F E C t=if t.length=1 then Rf.yg t[0] || Rf.xi t[0]else if (t[0].toList==[45])=true then F (t.drop 1)else if (t[0].toList==[40])=true/\(t[t.length-1].toList==[41])=true then E ((t.take (t.length-1)).drop 1)else C t by
   rw[Rf.kR,zA hz,Rf.first,Rf.final,F0.u,F1.u])
  clear M
  generalize t[0]=x at *
  generalize t[t.length-1]=y at *
  have L:¬(t.length:Int)=0:=by omega
  go_enter Tryz.func217,Tryz.ntmps217
  go_wp2_with fail
  refine(XJ x _ z).mono ?_
  rintro e w1 ⟨rfl,A⟩
  have j:=zD (HV.u.zP A)
  have f:=zD A
  obtain⟨d0,d1⟩:=HC.u _ j.u
  clear A R O
  by_cases h1:t.length=1
  ·have N:(t.length:Int)=1:=by omega
   rw[zE h1]at k
   go_wp2_with (go_at_call 139;refine(Yv x _ z).mono ?_;rintro e w' ⟨rfl,rfl⟩)
   all_goals
    go_ret
    exact⟨by rw[k.u];exact yj (by simp_all),f.u⟩
  ·have N:¬(t.length:Int)=1:=by omega
   rw[zA h1]at k
   cases hm:(x.toList==[45])with
   | true=>
    rw[zE hm]at k
    go_wp2_with fail
    all_goals
     refine(J.u.1 (by omega) _ _ (by first | exact xA.gone (by omega) rfl | exact j.u.drop 1 _ _ rfl (by omega))).mono ?_
     rintro e w2 ⟨rfl,d⟩
     have i:=zD (f.u.trans (d.mono (B':=w.heap.size) f.u.size))
     clear d
     go_wp2_with fail
     go_ret
     exact⟨by rw[k.u];first | rfl | exact yj (by simp),i.u⟩
   | false=>
    rw[zA (by rw[hm];decide)]at k
    by_cases hp:(x.toList==[40])=true/\(y.toList==[41])=true
    ·rw[zE hp]at k
     obtain⟨p1,p2⟩:=hp
     go_wp2_with fail
     all_goals
      refine(J.u.2.1 (by omega) _ _ (by first | exact j.u.Ad 1 (t.length-1) _ _ (by omega) rfl (by omega)| exact j.u.Ad 1 (t.length-1) _ _ (by omega) (by omega) (by omega))).mono ?_
      rintro e w2 ⟨rfl,d⟩
      have i:=zD (f.u.trans (d.mono (B':=w.heap.size) f.u.size))
      clear d
      go_wp2_with fail
      go_ret
      exact⟨by rw[k.u];first | rfl | exact yj (by simp),i.u⟩
    ·rw[zA hp]at k
     cases p1:(x.toList==[40])
     ·go_wp2_with fail
      refine(J.u.2.2 _ _ j.u).mono ?_
      rintro e w2 ⟨rfl,d⟩
      have i:=zD (f.u.trans (d.mono (B':=w.heap.size) f.u.size))
      clear d
      go_wp2_with fail
      go_ret
      exact⟨by rw[k.u];first | rfl | exact yj (by simp),i.u⟩
     ·have p2:(y.toList==[41])=false:=by cases h:(y.toList==[41])with | false=>rfl | true=>exact absurd ⟨p1,h⟩ hp
      go_wp2_with fail
      refine(J.u.2.2 _ _ j.u).mono ?_
      rintro e w2 ⟨rfl,d⟩
      have i:=zD (f.u.trans (d.mono (B':=w.heap.size) f.u.size))
      clear d
      go_wp2_with fail
      go_ret
      exact⟨by rw[k.u];first | rfl | exact yj (by simp),i.u⟩
theorem pU (V:Y8 t) (E:List ByteArray->Bool) (h1:4<=t.length->kv 135 E ((t.take (t.length-1)).drop 2)):kv 177 (Rf.kX E) t:=by
 intro w v k
 have hl:=V.1
 have HA:=zD h1
 clear h1
 obtain⟨ad,cap,rfl,Z⟩:=k.form
 by_cases hz:t.length < 4
 ·have d:=zD (show Rf.kX E t=false by rw[Rf.kX,zE (Or.inl hz)])
  have L:(t.length:Int) < 4:=by omega
  go_enter Tryz.func177,Tryz.ntmps177
  go_wp2_with fail
  go_ret
  exact⟨by rw[d.u];rfl,zI _ _⟩
 ·obtain⟨b,o,rfl⟩:=k.qZ (by intro h;rw[h]at hz;simp at hz)
  have i:0 < t.length:=by omega
  have H:1 < t.length:=by omega
  have G:t.length-1 < t.length:=by omega
  have M:=V.2 _ (zj i)
  have HV:=zD k
  have cells:∀w',xA w' (.slice (some ⟨b,o,none⟩) t.length cap) t->w'.cell? ⟨b,o,none⟩=some (.string t[0])/\w'.cell? ⟨b,o+1,none⟩=some (.string t[1])/\w'.cell? ⟨b,o+(t.length-1),none⟩=some (.string t[t.length-1]):=by
   intro w' h
   obtain⟨b',o',cap',W,T⟩:=h.cell i
   obtain⟨b2,o2,a1,D,R⟩:=h.cell H
   obtain⟨b3,o3,a0,A,O⟩:=h.cell G
   simp at W D A
   obtain⟨⟨rfl,rfl⟩,rfl⟩:=W
   obtain⟨⟨rfl,rfl⟩,rfl⟩:=D
   obtain⟨⟨rfl,rfl⟩,rfl⟩:=A
   exact⟨T,R,O⟩
  obtain⟨T,R,O⟩:=cells _ k
  clear cells k
  have F0:=zD (Rf.qq i)
  have F1:=zD (Rf.qq H)
  have F2:=zD (Rf.qq G)
  have j:t[0].size<=maxLen:=by unfold maxLen;omega
  have d:=zD (show Rf.kX E t=if (t[1].toList==[91])=false\/(t[t.length-1].toList==[93])=false then false else Rf.yg t[0] && E ((t.take (t.length-1)).drop 2) by
   rw[Rf.kX,Rf.first,Rf.final,F0.u,F1.u,F2.u]
   by_cases h:(t[1].toList==[91])=false\/(t[t.length-1].toList==[93])=false
   ·rw[zE h,zE (Or.inr h)]
   ·rw[zA h,zA (by rintro (N | N);exact hz N;exact h N)])
  clear M
  generalize t[0]=x at *
  generalize t[1]=z at *
  generalize t[t.length-1]=y at *
  have L:¬(t.length:Int) < 4:=by omega
  cases q1:(z.toList==[91])with
  | false=>
   rw[zE (Or.inl q1)]at d
   go_enter Tryz.func177,Tryz.ntmps177
   go_wp2_with fail
   go_ret
   exact⟨by rw[d.u];rfl,zI _ _⟩
  | true=>
   cases q2:(y.toList==[93])with
   | false=>
    rw[zE (Or.inr q2)]at d
    go_enter Tryz.func177,Tryz.ntmps177
    go_wp2_with fail
    go_ret
    exact⟨by rw[d.u];rfl,zI _ _⟩
   | true=>
    rw[zA (by simp[q1,q2])]at d
    go_enter Tryz.func177,Tryz.ntmps177
    go_wp2_with fail
    refine(XJ x _ j).mono ?_
    rintro e w1 ⟨rfl,f⟩
    have I:=zD (HV.u.zP f)
    have J:=zD f
    clear f T R O
    go_wp2_with fail
    refine(HA.u (by omega) _ _ (by first | exact I.u.Ad 2 (t.length-1) _ _ (by omega) rfl (by omega)| exact I.u.Ad 2 (t.length-1) _ _ (by omega) (by omega) (by omega))).mono ?_
    rintro e w2 ⟨rfl,F⟩
    have U:=zD (J.u.trans (F.mono (B':=w.heap.size) J.u.size))
    clear F
    go_wp2_with fail
    all_goals
     go_ret
     exact⟨by rw[d.u];exact yj (by simp_all),U.u⟩
theorem jn:∀(f:Nat) (t:List ByteArray),Y8 t->
  (5*t.length+5<=f->kv 135 (Rf.gr f 0) t)/\(5*t.length+4<=f->kv 176 (Rf.gr f 1) t)/\(5*t.length+3<=f->kv 205 (Rf.gr f 2) t)/\
  (5*t.length+2<=f->kv 217 (Rf.gr f 3) t)/\(5*t.length+1<=f->kv 177 (Rf.gr f 4) t)
 | 0,t,_=>⟨by omega,by omega,by omega,by omega,by omega⟩
 | f+1,t,hf=>by
  refine⟨fun h=>?_,fun h=>?_,fun h=>?_,fun h=>?_,fun h=>?_⟩
  ·refine pT hf (Rf.gr f 1) (fun _=>(jn f t hf).2.1 (by omega)) (fun k hk=>?_)
   have d:=Rf.XK Rf.kF t t.length
   have i:Rf.kQ Rf.kF t t.length=k:=hk
   exact⟨(jn f _ (hf.take k)).2.1 (by simp;omega),(jn f _ (hf.drop (k+1))).2.1 (by simp;omega)⟩
  ·refine tI hf (Rf.gr f 1) (Rf.gr f 2) (fun _=>(jn f t hf).2.2.1 (by omega)) (fun k hk=>?_)
   have d:=Rf.XK Rf.kL t t.length
   have i:Rf.kQ Rf.kL t t.length=k:=hk
   exact⟨(jn f _ (hf.take k)).2.1 (by simp;omega),(jn f _ (hf.drop (k+1))).2.2.1 (by simp;omega)⟩
  ·refine pP hf (Rf.gr f 2) (Rf.gr f 3) (fun _=>(jn f t hf).2.2.2.1 (by omega)) (fun k hk=>?_)
   have d:=Rf.XK Rf.vJ t t.length
   have i:Rf.kQ Rf.vJ t t.length=k:=hk
   exact⟨(jn f _ (hf.take k)).2.2.1 (by simp;omega),(jn f _ (hf.drop (k+1))).2.2.2.1 (by simp;omega)⟩
  ·exact il hf (Rf.gr f 3) (Rf.gr f 0) (Rf.gr f 4) (fun _=>(jn f _ (hf.drop 1)).2.2.2.1 (by simp;omega)) (fun _=>(jn f _ ((hf.take _).drop 1)).1 (by simp;omega)) ((jn f t hf).2.2.2.2 (by omega))
  ·exact pU hf (Rf.gr f 0) (fun _=>(jn f _ ((hf.take _).drop 2)).1 (by simp;omega))
theorem kv.of {fn:Nat} {F G:List ByteArray->Bool} (h:kv fn F t) (e:G t=F t):kv fn G t:=by
 unfold kv at h ⊢;rw[e];exact h
theorem QU (d:Y8 t):kv 135 Rf.qX t:=((jn (5*t.length+5) t d).1 (zB _)).of (by unfold Rf.qX;rfl)
theorem tL (d:Y8 t):kv 177 Rf.Jp t:=((jn (5*t.length+1) t d).2.2.2.2 (zB _)).of (by unfold Rf.Jp;rfl)
theorem qv (ht:xA w tv t) (G:Y8 t) :
  Calls Tryz.prog 134 #[tv] w fun e w'=>e=.returned (.bool (Rf.kl t))/\Below w.heap.size w w':=by
 have M:=G.1
 obtain⟨L,cap,rfl,I⟩:=ht.form
 go_enter Tryz.func134,Tryz.ntmps134
 go_wp2
 go_loopw [3] (fun i wr=>∃k:Nat,k<=t.length/\i=.int .i64 k/\(t.drop k).all Rf.yg=Rf.kl t/\xA wr (.slice L t.length cap) t/\Below w.heap.size w wr) (fun i _=>t.length-(intOf i).toNat)
 case atStart=>exact⟨0,zo _,rfl,rfl,ht,zI _ _⟩
 case round=>
  obtain⟨k,N,rfl,z,d,f⟩:=hrel
  by_cases hlt:k < t.length
  ·obtain⟨b,o,cap',H,O⟩:=d.cell hlt
   simp at H
   obtain⟨rfl,rfl⟩:=H
   have J:=G.2 _ (zj hlt)
   rw[zZ hlt,kY]at z
   have HT:=zD z
   have A:=qG d f
   have D:t[k].size<=maxLen:=by unfold maxLen;omega
   have j:(k:Int) < (t.length:Int):=by omega
   clear z J d f
   generalize t[k]=x at *
   go_wp2_with fail
   refine(XJ x _ D).mono ?_
   rintro e w1 ⟨rfl,y⟩
   have F:=zD y
   clear y
   cases hn:Rf.yg x with
   | true=>
    go_wp2_with fail
    go_roundw
    case rel=>exact⟨k+1,by omega,by go_num,by have h:=HT.u;rw[hn]at h;simpa using h,A.u.1.zP F.u,A.u.2.trans (F.u.mono A.u.2.size)⟩
    case measure=>simp[intOf];omega
   | false=>
    go_wp2_with fail
    go_ret
    exact⟨by rw[<-HT.u,hn];rfl,A.u.2.trans (F.u.mono A.u.2.size)⟩
  ·have j:¬(k:Int) < (t.length:Int):=by omega
   rw[zp (by omega)]at z
   go_wp2_with fail
   go_ret
   exact⟨by rw[<-z];rfl,f⟩
theorem Jw (h:xA w tv t) (z:Y8 t) :
  Calls Tryz.prog 153 #[tv] w fun e w'=>e=.returned (.int .i64 (Rf.behind t))/\w'=w:=by
 have D:=z.1
 obtain⟨H,cap,rfl,y⟩:=h.form
 have A:=zD h
 clear h
 go_enter Tryz.func153,Tryz.ntmps153
 go_wp2
 go_loop [3] (fun i=>∃k:Nat,k<=t.length/\i=.int .i64 k/\Rf.behindFrom (t.drop k) k=Rf.behind t) (fun i=>t.length-(intOf i).toNat)
 case atStart=>exact⟨0,zo _,rfl,rfl⟩
 case round=>
  obtain⟨k,F,rfl,f⟩:=hrel
  by_cases hlt:k < t.length
  ·obtain⟨b,o,cap',j,G⟩:=A.u.cell hlt
   simp at j
   obtain⟨rfl,rfl⟩:=j
   rw[Rf.rJ hlt]at f
   have HT:=zD f
   have d:(k:Int) < (t.length:Int):=by omega
   clear f
   generalize t[k]=x at *
   cases hn:(x.toList==[116,111])with
   | true=>
    rw[hn,zE rfl]at HT
    go_wp2_with fail
    go_ret
    exact⟨by rw[<-HT.u];rfl,rfl⟩
   | false=>
    rw[hn,zA (by decide)]at HT
    go_wp2_with fail
    go_round
    case rel=>exact⟨k+1,by omega,by go_num,HT.u⟩
    case measure=>simp[intOf];omega
  ·have d:¬(k:Int) < (t.length:Int):=by omega
   rw[zp (by omega)]at f
   go_wp2_with fail
   go_ret
   exact⟨by rw[<-f];rfl,rfl⟩
theorem Av (L:Y8 t):kv 136 Rf.isSet t:=by
 intro w v F
 have V:=L.1
 have H:=zD L
 obtain⟨ad,cap,rfl,N⟩:=F.form
 have I:=zD F
 have j:=Rf.Dh t
 have i:=zD (show Rf.isSet t=if Rf.behind t < 2 then false else if Rf.behind t=2 then Rf.yg (Rf.ve t 1) && Rf.qX (t.drop 3)else Rf.Jp ((t.take (Rf.behind t)).drop 1) && Rf.qX (t.drop (Rf.behind t+1))from rfl)
 clear L
 by_cases h2:Rf.behind t < 2
 ·rw[zE h2]at i
  clear F
  go_enter Tryz.func136,Tryz.ntmps136
  go_wp2_with (go_at_call 153;refine(Jw I.u H.u).mono ?_;rintro e w' ⟨rfl,rfl⟩)
  go_ret
  exact⟨by rw[i.u];rfl,zI _ _⟩
 ·rw[zA h2]at i
  obtain⟨b,o,rfl⟩:=F.qZ (by intro h;rw[h]at j;simp at j;rw[h]at h2;omega)
  have y:1 < t.length:=by omega
  have J:=H.u.2 _ (zj y)
  have D:t[1].size<=maxLen:=by unfold maxLen;omega
  have T:=zD (Rf.qq y)
  rw[T.u]at i
  have R:Hd (∀w',xA w' (.slice (some ⟨b,o,none⟩) t.length cap) t->w'.cell? ⟨b,o+1,none⟩=some (.string t[1])):=zD (by
   intro w' h
   obtain⟨b',U,cap',M,O⟩:=h.cell y
   simp at M
   obtain⟨⟨rfl,rfl⟩,rfl⟩:=M
   exact O)
  clear J F
  generalize t[1]=x at *
  have W:Rf.behind t < t.length:=by omega
  clear j
  go_enter Tryz.func136,Tryz.ntmps136
  go_wp2_with (go_at_call 153;refine(Jw I.u H.u).mono ?_;rintro e w' ⟨rfl,rfl⟩)
  all_goals
   refine(QU (H.u.drop (Rf.behind t+1)) _ _ (by first | exact xA.gone (by omega) rfl | exact I.u.drop (Rf.behind t+1) _ _ rfl (by omega))).mono ?_
   rintro e w1 ⟨rfl,k⟩
   have z:=zD (I.u.zP k)
   have f:=zD k
   have Z:=R.u _ z.u
   clear k
   by_cases hk2:Rf.behind t=2
   ·have G:(Rf.behind t:Int)=2:=by omega
    rw[zE hk2]at i
    go_wp2_with (go_at_call 138;refine(XJ x _ D).mono ?_;rintro e w2 ⟨rfl,d⟩;have A:=zD (f.u.trans (d.mono (B':=w'.heap.size) f.u.size));clear d)
    all_goals
     go_ret
     exact⟨by rw[i.u];exact yj (by simp_all),A.u⟩
   ·have G:¬(Rf.behind t:Int)=2:=by omega
    rw[zA hk2]at i
    go_wp2_with fail
    all_goals
     refine(tL ((H.u.take (Rf.behind t)).drop 1) _ _ (by first | exact z.u.Ad 1 (Rf.behind t) _ _ (by omega) rfl (by omega)| exact z.u.Ad 1 (Rf.behind t) _ _ (by omega) (by omega) (by omega))).mono ?_
     rintro e w2 ⟨rfl,d⟩
     have A:=zD (f.u.trans (d.mono (B':=w'.heap.size) f.u.size))
     clear d
     go_wp2_with fail
     all_goals
      go_ret
      exact⟨by rw[i.u];exact yj (by simp_all),A.u⟩
theorem Tryz.pV:(Tryz.prog.info? 87).map (fun i=>(i.zero,i.size,i.bytes))=some (some (.slice none 0 0),1,24):=by kernel_rfl
def Jy (w:World) (vs:List Value) (us:List (List ByteArray)):Prop:=vs.length=us.length/\∀j (h:j < us.length),∃v,vs[j]?=some v/\xA w v us[j]
theorem Jy.zP {w w':World} {vs:List Value} {us:List (List ByteArray)} (h:Jy w vs us) (d:Below w.heap.size w w'):Jy w' vs us:=
 ⟨h.1,fun j hj=>let ⟨v,h1,h2⟩:=h.2 j hj;⟨v,h1,h2.zP d⟩⟩
theorem Jy.snoc (h:Jy w vs us) {v:Value} {u:List ByteArray} (k:xA w v u):Jy w (vs++[v]) (us++[u]):=by
 refine⟨by simp[h.1],fun j hj=>?_⟩
 by_cases d:j < us.length
 ·obtain⟨i,x,o⟩:=h.2 j d
  exact⟨i,by rw[yp (by rw[h.1];exact d)];exact x,by rw[xI d];exact o⟩
 ·have f:j=us.length:=by simp at hj;omega
  subst f
  exact⟨v,by rw[yU (by rw[h.1];exact zB _),h.1];simp,by simpa using k⟩
theorem cY (W:xA w tv t) (hf:Y8 t) :
  Calls Tryz.prog 156 #[tv] w fun e w'=>Below w.heap.size w w'/\∃v vs,e=.returned v/\w'.ownsRow w.heap.size 87 1 v (Rf.parts t).length vs/\Jy w' vs (Rf.parts t):=by
 have hl:=hf.1
 obtain⟨i0,hi,I,H,G⟩:=yi Tryz.pV
 obtain⟨ad,cap,rfl,a3⟩:=W.form
 by_cases hz:t.length=0
 ·have a0:(t.length:Int)=0:=by omega
  have N:=zD (show Rf.parts t=[] by rw[Rf.parts,zE hz])
  go_enter Tryz.func156,Tryz.ntmps156
  go_wp2_with fail
  go_ret
  exact⟨zI _ _,_,[],rfl,by rw[N.u];exact zW _ _ _ _,by rw[N.u];exact⟨rfl,fun j h=>by simp at h⟩⟩
 ·have a0:((t.length:Int)==0)=false:=by rw[zV];omega
  obtain⟨b,o,rfl⟩:=W.qZ (by intro h;rw[h]at hz;simp at hz)
  have N:=zD (show Rf.parts t=(Rf.yd t t.length).1++[t.drop (Rf.yd t t.length).2] by rw[Rf.parts,zA hz])
  go_enter Tryz.func156,Tryz.ntmps156
  go_wp2_with fail
  have HV:=zD W
  clear W
  go_loopw [3,4,5,6] (fun v d fr i wr=>∃(k:Nat) (vs:List Value),k<=t.length/\i=.int .i64 k/\fr=.int .i64 (Rf.yd t k).2/\d=.int .i64 (Rf.depth t k)/\wr.ownsRow w.heap.size 87 1 v (Rf.yd t k).1.length vs/\Jy w vs (Rf.yd t k).1/\Below w.heap.size w wr)
   (fun _ _ _ i _=>t.length-(intOf i).toNat)
  case atStart=>exact⟨0,[],zo _,rfl,rfl,rfl,zW _ _ _ _,⟨rfl,fun j h=>by simp[Rf.yd]at h⟩,zI _ _⟩
  case round=>
   obtain⟨k,vs,hk,rfl,rfl,rfl,f,F,A⟩:=hrel
   obtain⟨ad,cp,rfl⟩:=zK f
   obtain⟨a5,a4⟩:=Rf.K1 t k
   have J:=A.size
   have a6:=F.1
   by_cases hlt:k < t.length
   ·obtain⟨b',O,cap',he,cx⟩:=(HV.u.zP A).cell hlt
    simp at he
    obtain⟨⟨rfl,rfl⟩,rfl⟩:=he
    have a7:=Rf.nX t k
    have HD:=zD (show Rf.depth t (k+1)=Rf.depth t k+Rf.J9 t[k] by rw[Rf.depth,Rf.qq hlt])
    have HP:=zD (show Rf.yd t (k+1)=if (t[k].toList==[44])=true/\Rf.depth t k=0 then ((Rf.yd t k).1++[(t.take k).drop (Rf.yd t k).2],k+1)else Rf.yd t k by rw[Rf.yd,Rf.qq hlt])
    have R:(k:Int) < (t.length:Int):=by omega
    have HX:=zD F
    clear F
    generalize t[k]=x at *
    generalize Rf.depth t k=d at *
    rcases Rf.dF x with⟨h1,hd⟩| ⟨h1,h2,hd⟩| ⟨h1,h2,h3,hd⟩| ⟨h1,h2,h3,h4,hd⟩| ⟨h1,h2,h3,h4,hd⟩
    case inr.inr.inr.inr=>
     rw[hd]at HD
     clear hd
     by_cases h5:(x.toList==[44])=true/\d=0
     ·rw[zE h5]at HP
      obtain⟨h5,rfl⟩:=h5
      have Z:=HV.u.Ad (Rf.yd t k).2 k (k-(Rf.yd t k).2) (cap-(Rf.yd t k).2) (by omega) rfl (by omega)
      have V:=zD (HX.u.snoc Z)
      clear Z
      generalize (Rf.yd t k).2=fr at *
      generalize (Rf.yd t k).1=ps at *
      go_wp2_with (at_builtin;refine xQ _ rfl _ _ 83 rfl w.heap.size 87 i0 _ 1 24 Tryz.underlying83 hi I H G rfl (by decide) _ _ _ rfl (f.alloc _) ⟨_,0,none⟩ 1 1 [.slice (some ⟨b,o+fr,none⟩) (k-fr) (cap-fr)] rfl rfl (cell_one_new _ _ _) ?c2 ?c3 ?c4 ?c5 ?_)
      case c2=>first | rfl | (intro u hu;simp at hu;rcases hu with rfl;rfl)
      case c3=>unfold maxLen;omega
      case c4=>omega
      case c5=>first | omega | (simp;omega)
      intro v' w1 z y _
      have D:=qY A J f y
      clear y f A
      go_wp2_with fail
      go_roundw
      case rel=>exact⟨k+1,_,by omega,by go_num,by rw[HP.u];go_num,by rw[HD.u];rfl,by rw[HP.u];simpa using z,by rw[HP.u];exact V.u,D⟩
      case measure=>simp[intOf];omega
     ·rw[zA h5]at HP
      cases h6:(x.toList==[44])with
      | true=>
       have a8:¬d=0:=fun h=>h5 ⟨h6,h⟩
       go_wp2_with fail
       go_roundw
       case rel=>exact⟨k+1,_,by omega,by go_num,by rw[HP.u],by rw[HD.u] <;> go_num,by rw[HP.u];exact f,by rw[HP.u];exact HX.u,A⟩
       case measure=>simp[intOf];omega
      | false=>
       go_wp2_with fail
       go_roundw
       case rel=>exact⟨k+1,_,by omega,by go_num,by rw[HP.u],by rw[HD.u] <;> go_num,by rw[HP.u];exact f,by rw[HP.u];exact HX.u,A⟩
       case measure=>simp[intOf];omega
    all_goals
     have h6:(x.toList==[44])=false:=by simp_all
     rw[hd]at HD
     rw[zA (by rw[h6];simp)]at HP
     clear hd h6
     go_wp2_with fail
     go_roundw
     case rel=>exact⟨k+1,_,by omega,by go_num,by rw[HP.u],by rw[HD.u] <;> go_num,by rw[HP.u];exact f,by rw[HP.u];exact HX.u,A⟩
     case measure=>simp[intOf];omega
   ·have R:¬(k:Int) < (t.length:Int):=by omega
    have a1:k=t.length:=by omega
    subst a1
    have Z:∃O c',xA w (.slice (some ⟨b,O,none⟩) (t.length-(Rf.yd t t.length).2) c') (t.drop (Rf.yd t t.length).2)/\(cap=(Rf.yd t t.length).2->O=o/\c'=0)/\(¬cap=(Rf.yd t t.length).2->O=o+(Rf.yd t t.length).2/\c'=cap-(Rf.yd t t.length).2):=by
     by_cases hc:cap=(Rf.yd t t.length).2
     ·exact⟨o,0,xA.gone (by omega) rfl,fun _=>⟨rfl,rfl⟩,fun h=>absurd hc h⟩
     ·exact⟨_,_,HV.u.drop _ _ (cap-(Rf.yd t t.length).2) rfl (by omega),fun h=>absurd h hc,fun _=>⟨rfl,rfl⟩⟩
    obtain⟨O,c',U,M,L⟩:=Z
    have V:=zD (F.snoc U)
    clear U F
    generalize (Rf.yd t t.length).2=fr at *
    generalize (Rf.yd t t.length).1=ps at *
    by_cases hc:cap=fr
    ·obtain⟨rfl,rfl⟩:=M hc
     clear M L
     have a2:fr=t.length:=by omega
     have T:cap=t.length:=by omega
     subst a2
     rw[jC]at V
     clear hc
     rw[T]
     clear T
     go_wp2_with (at_builtin;refine xQ _ rfl _ _ 83 rfl w.heap.size 87 i0 _ 1 24 Tryz.underlying83 hi I H G rfl (by decide) _ _ _ rfl (f.alloc _) ⟨_,0,none⟩ 1 1 [.slice (some ⟨b,O,none⟩) 0 0] rfl rfl (cell_one_new _ _ _) ?c2 ?c3 ?c4 ?c5 ?_)
     case c2=>first | rfl | (intro u hu;simp at hu;rcases hu with rfl;rfl)
     case c3=>unfold maxLen;omega
     case c4=>omega
     case c5=>first | omega | (simp;omega)
     intro v' w1 z y _
     have D:=qY A J f y
     clear y f A
     go_wp2
     go_ret
     exact⟨D,_,_,rfl,by rw[N.u];simpa using z,by rw[N.u];exact V.u.zP D⟩
    ·obtain⟨rfl,rfl⟩:=L hc
     clear M L
     have b1:¬cap-fr=0:=by omega
     have b0:¬fr=cap:=by omega
     have a9:¬cap<=fr:=by omega
     go_wp2_with (at_builtin;refine xQ _ rfl _ _ 83 rfl w.heap.size 87 i0 _ 1 24 Tryz.underlying83 hi I H G rfl (by decide) _ _ _ rfl (f.alloc _) ⟨_,0,none⟩ 1 1 [.slice (some ⟨b,o+fr,none⟩) (t.length-fr) (cap-fr)] rfl rfl (cell_one_new _ _ _) ?c2 ?c3 ?c4 ?c5 ?_)
     case c2=>first | rfl | (intro u hu;simp at hu;rcases hu with rfl;rfl)
     case c3=>unfold maxLen;omega
     case c4=>omega
     case c5=>first | omega | (simp;omega)
     intro v' w1 z y _
     have D:=qY A J f y
     clear y f A
     go_wp2
     go_ret
     exact⟨D,_,_,rfl,by rw[N.u];simpa using z,by rw[N.u];exact V.u.zP D⟩
theorem KQ {t:List ByteArray} (h:Y8 t):∀i,∀u∈(Rf.yd t i).1,Y8 u
 | 0,u,hu=>by simp[Rf.yd]at hu
 | i+1,u,hu=>by
  rw[Rf.yd]at hu
  split at hu
  ·simp at hu
   rcases hu with hu | rfl
   ·exact KQ h i u hu
   ·exact(h.take _).drop _
  ·exact KQ h i u hu
theorem AN (h:Y8 t):∀u∈Rf.parts t,Y8 u:=by
 intro u hu
 rw[Rf.parts]at hu
 split at hu
 ·simp at hu
 ·simp at hu
  rcases hu with hu | rfl
  ·exact KQ h _ u hu
  ·exact h.drop _
theorem aQ (t:List ByteArray):(Rf.parts t).length<=t.length+1:=by
 have:=(Rf.K1 t t.length).2
 rw[Rf.parts];split <;> simp;omega
theorem tM (O:Y8 t):kv 137 Rf.QV t:=by
 intro w v H
 have hl:=O.1
 have HF:=zD O
 obtain⟨ad,cap,rfl,a5⟩:=H.form
 by_cases h2:t.length < 2
 ·have W:=zD (show Rf.QV t=false by rw[Rf.QV,zE h2])
  have a0:(t.length:Int) < 2:=by omega
  go_enter Tryz.func137,Tryz.ntmps137
  go_wp2_with fail
  go_ret
  exact⟨by rw[W.u];rfl,zI _ _⟩
 ·obtain⟨b,o,rfl⟩:=H.qZ (by intro h;rw[h]at h2;simp at h2)
  have D:1 < t.length:=by omega
  have W:=zD (show Rf.QV t=((Rf.parts (t.drop 2)).all Rf.qX && Rf.yg t[1]) by rw[Rf.QV,zA h2,Rf.qq D])
  have Z:=O.2 _ (zj D)
  have G:t[1].size<=maxLen:=by unfold maxLen;omega
  have HV:=zD H
  obtain⟨b',o',cap',he,cx⟩:=H.cell D
  simp at he
  obtain⟨⟨rfl,rfl⟩,rfl⟩:=he
  clear Z H
  generalize t[1]=x at *
  have a0:¬(t.length:Int) < 2:=by omega
  have HP:=qG (AN (O.drop 2)) (aQ (t.drop 2))
  clear O
  go_enter Tryz.func137,Tryz.ntmps137
  go_wp2_with fail
  refine(XJ x _ G).mono ?_
  rintro e w1 ⟨rfl,A⟩
  have a3:=zD (HV.u.zP A)
  have V:=zD A
  clear A cx
  go_wp2_with fail
  all_goals
   refine(cY (by first | exact xA.gone (by omega) rfl | exact a3.u.drop 2 _ _ rfl (by omega)) (HF.u.drop 2)).mono ?_
   rintro e w2 ⟨T,v2,vs,rfl,hown,hvs⟩
   have a6:(Rf.parts (t.drop 2)).length<=1001:=by have:=HP.u.2;simp at this;omega
   obtain⟨a2,a1,rfl⟩:=zK hown
   have HB2:=zD (V.u.trans (T.mono (B':=w.heap.size) V.u.size))
   clear T
   go_wp2_with fail
   have L:=HP.u.1
   generalize Rf.parts (t.drop 2)=ps at *
   have a4:=zD L
   clear L HP
   go_loopw [5] (fun i wr=>∃k:Nat,k<=ps.length/\i=.int .i64 k/\(ps.drop k).all Rf.qX=ps.all Rf.qX/\wr.ownsRow w1.heap.size 87 1 (.slice a2 ps.length a1) ps.length vs/\Jy wr vs ps/\Below w.heap.size w wr) (fun i _=>ps.length-(intOf i).toNat)
   case atStart=>exact⟨0,zo _,rfl,rfl,hown,hvs,HB2.u⟩
   case round=>
    obtain⟨k,hk,rfl,U,d,f,j⟩:=hrel
    by_cases hlt:k < ps.length
    ·obtain⟨u,J,I⟩:=f.2 k hlt
     obtain⟨g,cap',hg,_,_,cx⟩:=yD d J
     simp at hg
     obtain⟨rfl,rfl⟩:=hg
     rw[zZ hlt,kY]at U
     have N:=a4.u _ (zj hlt)
     have HT:=zD U
     have HU:=zD I
     have F:=XX d f j
     have HK:=zD N
     have M:(k:Int) < (ps.length:Int):=by omega
     clear U I d f j N J
     generalize ps[k]=y at *
     go_wp2_with fail
     refine(QU HK.u _ _ HU.u).mono ?_
     rintro e w4 ⟨rfl,R⟩
     have z:=zD R
     clear R
     cases hn:Rf.qX y with
     | true=>
      go_wp2_with fail
      go_roundw
      case rel=>exact⟨k+1,by omega,by go_num,by have h:=HT.u;rw[hn]at h;simpa using h,yG F.u.1 z.u,F.u.2.1.zP z.u,F.u.2.2.trans (z.u.mono F.u.2.2.size)⟩
      case measure=>simp[intOf];omega
     | false=>
      go_wp2_with fail
      go_ret
      exact⟨by rw[W.u,<-HT.u,hn];rfl,F.u.2.2.trans (z.u.mono F.u.2.2.size)⟩
    ·have M:¬(k:Int) < (ps.length:Int):=by omega
     rw[zp (by omega)]at U
     go_wp2_with fail
     go_ret
     exact⟨by rw[W.u,<-U];exact yj (by simp),j⟩
end Go.Proofs.YthleadfkfnnadaaGreat
