/- The document's answer: what a line may be, by its first word. -/
import Derived.Test.YthleadfkfnnadaaGreatRef6
set_option maxHeartbeats 4000000
set_option maxRecDepth 100000
set_option linter.unusedSimpArgs false
namespace Go.Proofs.YthleadfkfnnadaaGreat
open Rf Go.Proofs.Tryz
open Go.RowKit
variable {us:List (List ByteArray)} {t:List ByteArray} {vs:List Value} {tv:Value} {w:World}
theorem jn:∀(f:Nat) (t:List ByteArray),Y8 t->
  (5*t.length+5<=f->kv 135 (Rf.gr f 0) t)/\(5*t.length+4<=f->kv 176 (Rf.gr f 1) t)/\(5*t.length+3<=f->kv 205 (Rf.gr f 2) t)/\
  (5*t.length+2<=f->kv 217 (Rf.gr f 3) t)/\(5*t.length+1<=f->kv 177 (Rf.gr f 4) t)
 | 0,t,_=>⟨by omega,by omega,by omega,by omega,by omega⟩
 | f+1,t,hf=>by
  refine⟨fun h=>?_,fun h=>?_,fun h=>?_,fun h=>?_,fun h=>?_⟩
  ·refine pT hf (Rf.gr f 1) (fun _=>(jn f t hf).2.1 (by omega)) (fun k hk=>?_);have d:=XK kF t t.length;have i:kQ kF t t.length=k:=hk;exact⟨(jn f _ (hf.take k)).2.1 (by simp;omega),(jn f _ (hf.drop (k+1))).2.1 (by simp;omega)⟩
  ·refine tI hf (Rf.gr f 1) (Rf.gr f 2) (fun _=>(jn f t hf).2.2.1 (by omega)) (fun k hk=>?_);have d:=XK kL t t.length;have i:kQ kL t t.length=k:=hk;exact⟨(jn f _ (hf.take k)).2.1 (by simp;omega),(jn f _ (hf.drop (k+1))).2.2.1 (by simp;omega)⟩
  ·refine pP hf (Rf.gr f 2) (Rf.gr f 3) (fun _=>(jn f t hf).2.2.2.1 (by omega)) (fun k hk=>?_);have d:=XK vJ t t.length;have i:kQ vJ t t.length=k:=hk;exact⟨(jn f _ (hf.take k)).2.2.1 (by simp;omega),(jn f _ (hf.drop (k+1))).2.2.2.1 (by simp;omega)⟩
  ·exact il hf (Rf.gr f 3) (Rf.gr f 0) (Rf.gr f 4) (fun _=>(jn f _ (hf.drop 1)).2.2.2.1 (by simp;omega)) (fun _=>(jn f _ ((hf.take _).drop 1)).1 (by simp;omega)) ((jn f t hf).2.2.2.2 (by omega))
  ·exact pU hf (Rf.gr f 0) (fun _=>(jn f _ ((hf.take _).drop 2)).1 (by simp;omega))
theorem kv.of {fn:Nat} {F G:List ByteArray->Bool} (h:kv fn F t) (e:G t=F t):kv fn G t:=by
 unfold kv at h ⊢;rw[e];exact h
theorem QU (d:Y8 t):kv 135 qX t:=((jn (5*t.length+5) t d).1 (zB _)).of (by unfold qX;rfl)
theorem tL (d:Y8 t):kv 177 Jp t:=((jn (5*t.length+1) t d).2.2.2.2 (zB _)).of (by unfold Jp;rfl)
theorem qv (ht:xA w tv t) (G:Y8 t):Calls Tryz.prog 134 #[tv] w fun e w'=>e=.returned (.bool (kl t))/\Below w.heap.size w w':=by
 have M:=G.1;obtain⟨L,cap,rfl,I⟩:=ht.form;go_enter func134,ntmps134;go_wp2;go_loopw [3] (fun i wr=>∃k:Nat,k<=t.length/\i=.int .i64 k/\(t.drop k).all Rf.yg=kl t/\xA wr (.slice L t.length cap) t/\Below w.heap.size w wr) (fun i _=>t.length-(intOf i).toNat)
 case atStart=>exact⟨0,zo _,rfl,rfl,ht,zI _ _⟩
 case round=>
  obtain⟨k,N,rfl,z,d,f⟩:=hrel;by_cases hlt:k < t.length
  ·obtain⟨b,o,cap',H,O⟩:=d.cell hlt;simp at H;obtain⟨rfl,rfl⟩:=H;have J:=G.2 _ (zj hlt);rw[zZ hlt,kY]at z;have HT:=zD z;have A:=qG d f;have D:t[k].size<=maxLen:=by unfold maxLen;omega
   have j:(k:Int) < (t.length:Int):=by omega
   clear z J d f;generalize t[k]=x at *;go_wp2_with fail;refine(XJ x D).mono ?_;rintro e w1 ⟨rfl,y⟩;have F:=zD y;clear y;cases hn:Rf.yg x with
   | true=>
    go_wp2_with fail;go_roundw
    case rel=>exact⟨k+1,by omega,by go_num,by have h:=HT.u;rw[hn]at h;simpa using h,A.u.1.zP F.u,A.u.2.trans (F.u.mono A.u.2.size)⟩
    case measure=>simp[intOf];omega
   | false=>
    go_wp2;go_ret;exact⟨by rw[<-HT.u,hn];rfl,A.u.2.trans (F.u.mono A.u.2.size)⟩
  ·have j:¬(k:Int) < (t.length:Int):=by omega
   rw[zp (by omega)]at z;go_wp2;go_ret;exact⟨by rw[<-z];rfl,f⟩
theorem Jw (h:xA w tv t) (z:Y8 t):Calls Tryz.prog 153 #[tv] w fun e w'=>e=.returned (.int .i64 (Rf.behind t))/\w'=w:=by
 have D:=z.1;obtain⟨H,cap,rfl,y⟩:=h.form;have A:=zD h;clear h;go_enter func153,ntmps153;go_wp2;go_loop [3] (fun i=>∃k:Nat,k<=t.length/\i=.int .i64 k/\Rf.behindFrom (t.drop k) k=Rf.behind t) (fun i=>t.length-(intOf i).toNat)
 case atStart=>exact⟨0,zo _,rfl,rfl⟩
 case round=>
  obtain⟨k,F,rfl,f⟩:=hrel;by_cases hlt:k < t.length
  ·obtain⟨b,o,cap',j,G⟩:=A.u.cell hlt;simp at j;obtain⟨rfl,rfl⟩:=j;rw[rJ hlt]at f;have HT:=zD f;have d:(k:Int) < (t.length:Int):=by omega
   clear f;generalize t[k]=x at *;cases hn:(x.toList==[116,111])with
   | true=>
    rw[hn,zE rfl]at HT;go_wp2;go_ret;exact⟨by rw[<-HT.u];rfl,rfl⟩
   | false=>
    rw[hn,zA (by decide)]at HT;go_wp2_with fail;go_round
    case rel=>exact⟨k+1,by omega,by go_num,HT.u⟩
    case measure=>simp[intOf];omega
  ·have d:¬(k:Int) < (t.length:Int):=by omega
   rw[zp (by omega)]at f;go_wp2;go_ret;exact⟨by rw[<-f];rfl,rfl⟩
theorem Av (L:Y8 t):kv 136 Rf.isSet t:=by
 intro w v F;have V:=L.1;have H:=zD L;obtain⟨ad,cap,rfl,N⟩:=F.form;have I:=zD F;have j:=Dh t;have i:=zD (show Rf.isSet t=if Rf.behind t < 2 then false else if Rf.behind t=2 then Rf.yg (ve t 1) && qX (t.drop 3)else Jp ((t.take (Rf.behind t)).drop 1) && qX (t.drop (Rf.behind t+1))from rfl);clear L;by_cases h2:Rf.behind t < 2
 ·rw[zE h2]at i;clear F;go_enter func136,ntmps136;go_wp2_with (go_at_call 153;refine(Jw I.u H.u).mono ?_;rintro e w' ⟨rfl,rfl⟩);go_ret;exact⟨by rw[i.u];rfl,zI _ _⟩
 ·rw[zA h2]at i;obtain⟨b,o,rfl⟩:=F.qZ (by intro h;rw[h]at j;simp at j;rw[h]at h2;omega);have y:1 < t.length:=by omega
  have J:=H.u.2 _ (zj y);have D:t[1].size<=maxLen:=by unfold maxLen;omega
  have T:=zD (qq y);rw[T.u]at i;have R:Hd (∀w',xA w' (.slice (some ⟨b,o,none⟩) t.length cap) t->w'.cell? ⟨b,o+1,none⟩=some (.string t[1])):=zD (by
   intro w' h;obtain⟨b',U,cap',M,O⟩:=h.cell y;simp at M;obtain⟨⟨rfl,rfl⟩,rfl⟩:=M;exact O)
  clear J F;generalize t[1]=x at *;have W:Rf.behind t < t.length:=by omega
  clear j;go_enter func136,ntmps136;go_wp2_with (go_at_call 153;refine(Jw I.u H.u).mono ?_;rintro e w' ⟨rfl,rfl⟩)
  all_goals
   refine(QU (H.u.drop (Rf.behind t+1)) _ _ (by first | exact xA.gone (by omega) rfl | exact I.u.drop (Rf.behind t+1) _ _ rfl (by omega))).mono ?_;rintro e w1 ⟨rfl,k⟩;have z:=zD (I.u.zP k);have f:=zD k;have Z:=R.u _ z.u;clear k;by_cases hk2:Rf.behind t=2
   ·have G:(Rf.behind t:Int)=2:=by omega
    rw[zE hk2]at i;go_wp2_with (go_at_call 138;refine(XJ x D).mono ?_;rintro e w2 ⟨rfl,d⟩;have A:=zD (f.u.trans (d.mono (B':=w'.heap.size) f.u.size));clear d)
    all_goals
     go_ret;exact⟨by rw[i.u];exact yj (by simp_all),A.u⟩
   ·have G:¬(Rf.behind t:Int)=2:=by omega
    rw[zA hk2]at i;go_wp2_with fail
    all_goals
     refine(tL ((H.u.take (Rf.behind t)).drop 1) _ _ (by first | exact z.u.Ad 1 (Rf.behind t) _ _ (by omega) rfl (by omega)| exact z.u.Ad 1 (Rf.behind t) _ _ (by omega) (by omega) (by omega))).mono ?_;rintro e w2 ⟨rfl,d⟩;have A:=zD (f.u.trans (d.mono (B':=w'.heap.size) f.u.size));clear d;go_wp2_with fail
     all_goals
      go_ret;exact⟨by rw[i.u];exact yj (by simp_all),A.u⟩
theorem pV:(Tryz.prog.info? 87).map (fun i=>(i.zero,i.size,i.bytes))=some (some (.slice none 0 0),1,24):=by kernel_rfl
def Jy (w:World) (vs:List Value) (us:List (List ByteArray)):Prop:=vs.length=us.length/\∀j (h:j < us.length),∃v,vs[j]?=some v/\xA w v us[j]
theorem Jy.zP {w w':World} {vs:List Value} {us:List (List ByteArray)} (h:Jy w vs us) (d:Below w.heap.size w w'):Jy w' vs us:=
 ⟨h.1,fun j hj=>let ⟨v,h1,h2⟩:=h.2 j hj;⟨v,h1,h2.zP d⟩⟩
theorem Jy.snoc (h:Jy w vs us) {v:Value} {u:List ByteArray} (k:xA w v u):Jy w (vs++[v]) (us++[u]):=by
 refine⟨by simp[h.1],fun j hj=>?_⟩;by_cases d:j < us.length
 ·obtain⟨i,x,o⟩:=h.2 j d;exact⟨i,by rw[yp (by rw[h.1];exact d)];exact x,by rw[xI d];exact o⟩
 ·have f:j=us.length:=by simp at hj;omega
  subst f;exact⟨v,by rw[yU (by rw[h.1];exact zB _),h.1];simp,by simpa using k⟩
theorem cY (W:xA w tv t) (hf:Y8 t):Calls Tryz.prog 156 #[tv] w fun e w'=>Below w.heap.size w w'/\∃v vs,e=.returned v/\w'.ownsRow w.heap.size 87 1 v (Rf.parts t).length vs/\Jy w' vs (Rf.parts t):=by
 have hl:=hf.1;obtain⟨i0,hi,I,H,G⟩:=yi pV;obtain⟨ad,cap,rfl,a3⟩:=W.form;by_cases hz:t.length=0
 ·have a0:(t.length:Int)=0:=by omega
  have N:=zD (show Rf.parts t=[] by rw[Rf.parts,zE hz]);go_enter func156,ntmps156;go_wp2;go_ret;exact⟨zI _ _,_,[],rfl,by rw[N.u];exact zW _ _ _ _,by rw[N.u];exact⟨rfl,fun j h=>by simp at h⟩⟩
 ·have a0:((t.length:Int)==0)=false:=by rw[zV];omega
  obtain⟨b,o,rfl⟩:=W.qZ (by intro h;rw[h]at hz;simp at hz);have N:=zD (show Rf.parts t=(yd t t.length).1++[t.drop (yd t t.length).2] by rw[Rf.parts,zA hz]);go_enter func156,ntmps156;go_wp2_with fail;have HV:=zD W;clear W;go_loopw [3,4,5,6] (fun v d fr i wr=>∃(k:Nat) (vs:List Value),k<=t.length/\i=.int .i64 k/\fr=.int .i64 (yd t k).2/\d=.int .i64 (Rf.depth t k)/\wr.ownsRow w.heap.size 87 1 v (yd t k).1.length vs/\Jy w vs (yd t k).1/\Below w.heap.size w wr)
   (fun _ _ _ i _=>t.length-(intOf i).toNat)
  case atStart=>exact⟨0,[],zo _,rfl,rfl,rfl,zW _ _ _ _,⟨rfl,fun j h=>by simp[yd]at h⟩,zI _ _⟩
  case round=>
   obtain⟨k,vs,hk,rfl,rfl,rfl,f,F,A⟩:=hrel;obtain⟨ad,cp,rfl⟩:=zK f;obtain⟨a5,a4⟩:=K1 t k;have J:=A.size;have a6:=F.1;by_cases hlt:k < t.length
   ·obtain⟨b',O,cap',he,cx⟩:=(HV.u.zP A).cell hlt;simp at he;obtain⟨⟨rfl,rfl⟩,rfl⟩:=he;have a7:=nX t k;have HD:=zD (show Rf.depth t (k+1)=Rf.depth t k+J9 t[k] by rw[Rf.depth,qq hlt]);have HP:=zD (show yd t (k+1)=if (t[k].toList==[44])=true/\Rf.depth t k=0 then ((yd t k).1++[(t.take k).drop (yd t k).2],k+1)else yd t k by rw[yd,qq hlt]);have R:(k:Int) < (t.length:Int):=by omega
    have HX:=zD F;clear F;generalize t[k]=x at *;generalize Rf.depth t k=d at *;rcases dF x with⟨h1,hd⟩| ⟨h1,h2,hd⟩| ⟨h1,h2,h3,hd⟩| ⟨h1,h2,h3,h4,hd⟩| ⟨h1,h2,h3,h4,hd⟩
    case inr.inr.inr.inr=>
     rw[hd]at HD;clear hd;by_cases h5:(x.toList==[44])=true/\d=0
     ·rw[zE h5]at HP;obtain⟨h5,rfl⟩:=h5;have Z:=HV.u.Ad (yd t k).2 k (k-(yd t k).2) (cap-(yd t k).2) (by omega) rfl (by omega);have V:=zD (HX.u.snoc Z);clear Z;generalize (yd t k).2=fr at *;generalize (yd t k).1=ps at *;go_wp2_with (at_builtin;refine xQ _ rfl _ _ 83 rfl w.heap.size 87 i0 _ 1 24 underlying83 hi I H G rfl (by decide) _ _ _ rfl (f.alloc _) ⟨_,0,none⟩ 1 1 [.slice (some ⟨b,o+fr,none⟩) (k-fr) (cap-fr)] rfl rfl (cell_one_new _ _ _) ?c2 ?c3 ?c4 ?c5 ?_)
      case c2=>first | rfl | (intro u hu;simp at hu;rcases hu with rfl;rfl)
      case c3=>unfold maxLen;omega
      case c4=>omega
      case c5=>first | omega | (simp;omega)
      intro v' w1 z y _;have D:=qY A J f y;clear y f A;go_wp2_with fail;go_roundw
      case rel=>exact⟨k+1,_,by omega,by go_num,by rw[HP.u];go_num,by rw[HD.u];rfl,by rw[HP.u];simpa using z,by rw[HP.u];exact V.u,D⟩
      case measure=>simp[intOf];omega
     ·rw[zA h5]at HP;cases h6:(x.toList==[44])with
      | true=>
       have a8:¬d=0:=fun h=>h5 ⟨h6,h⟩;go_wp2_with fail;go_roundw
       case rel=>exact⟨k+1,_,by omega,by go_num,by rw[HP.u],by rw[HD.u] <;> go_num,by rw[HP.u];exact f,by rw[HP.u];exact HX.u,A⟩
       case measure=>simp[intOf];omega
      | false=>
       go_wp2_with fail;go_roundw
       case rel=>exact⟨k+1,_,by omega,by go_num,by rw[HP.u],by rw[HD.u] <;> go_num,by rw[HP.u];exact f,by rw[HP.u];exact HX.u,A⟩
       case measure=>simp[intOf];omega
    all_goals
     have h6:(x.toList==[44])=false:=by simp_all
     rw[hd]at HD;rw[zA (by rw[h6];simp)]at HP;clear hd h6;go_wp2_with fail;go_roundw
     case rel=>exact⟨k+1,_,by omega,by go_num,by rw[HP.u],by rw[HD.u] <;> go_num,by rw[HP.u];exact f,by rw[HP.u];exact HX.u,A⟩
     case measure=>simp[intOf];omega
   ·have R:¬(k:Int) < (t.length:Int):=by omega
    have a1:k=t.length:=by omega
    subst a1;have Z:∃O c',xA w (.slice (some ⟨b,O,none⟩) (t.length-(yd t t.length).2) c') (t.drop (yd t t.length).2)/\(cap=(yd t t.length).2->O=o/\c'=0)/\(¬cap=(yd t t.length).2->O=o+(yd t t.length).2/\c'=cap-(yd t t.length).2):=by
     by_cases hc:cap=(yd t t.length).2
     ·exact⟨o,0,xA.gone (by omega) rfl,fun _=>⟨rfl,rfl⟩,fun h=>absurd hc h⟩
     ·exact⟨_,_,HV.u.drop _ _ (cap-(yd t t.length).2) rfl (by omega),fun h=>absurd h hc,fun _=>⟨rfl,rfl⟩⟩
    obtain⟨O,c',U,M,L⟩:=Z;have V:=zD (F.snoc U);clear U F;generalize (yd t t.length).2=fr at *;generalize (yd t t.length).1=ps at *;by_cases hc:cap=fr
    ·obtain⟨rfl,rfl⟩:=M hc;clear M L;have a2:fr=t.length:=by omega
     have T:cap=t.length:=by omega
     subst a2;rw[jC]at V;clear hc;rw[T];clear T;go_wp2_with (at_builtin;refine xQ _ rfl _ _ 83 rfl w.heap.size 87 i0 _ 1 24 underlying83 hi I H G rfl (by decide) _ _ _ rfl (f.alloc _) ⟨_,0,none⟩ 1 1 [.slice (some ⟨b,O,none⟩) 0 0] rfl rfl (cell_one_new _ _ _) ?c2 ?c3 ?c4 ?c5 ?_)
     case c2=>first | rfl | (intro u hu;simp at hu;rcases hu with rfl;rfl)
     case c3=>unfold maxLen;omega
     case c4=>omega
     case c5=>first | omega | (simp;omega)
     intro v' w1 z y _;have D:=qY A J f y;clear y f A;go_wp2;go_ret;exact⟨D,_,_,rfl,by rw[N.u];simpa using z,by rw[N.u];exact V.u.zP D⟩
    ·obtain⟨rfl,rfl⟩:=L hc;clear M L;have b1:¬cap-fr=0:=by omega
     have b0:¬fr=cap:=by omega
     have a9:¬cap<=fr:=by omega
     go_wp2_with (at_builtin;refine xQ _ rfl _ _ 83 rfl w.heap.size 87 i0 _ 1 24 underlying83 hi I H G rfl (by decide) _ _ _ rfl (f.alloc _) ⟨_,0,none⟩ 1 1 [.slice (some ⟨b,o+fr,none⟩) (t.length-fr) (cap-fr)] rfl rfl (cell_one_new _ _ _) ?c2 ?c3 ?c4 ?c5 ?_)
     case c2=>first | rfl | (intro u hu;simp at hu;rcases hu with rfl;rfl)
     case c3=>unfold maxLen;omega
     case c4=>omega
     case c5=>first | omega | (simp;omega)
     intro v' w1 z y _;have D:=qY A J f y;clear y f A;go_wp2;go_ret;exact⟨D,_,_,rfl,by rw[N.u];simpa using z,by rw[N.u];exact V.u.zP D⟩
theorem KQ {t:List ByteArray} (h:Y8 t):∀i,∀u∈(yd t i).1,Y8 u
 | 0,u,hu=>by simp[yd]at hu
 | i+1,u,hu=>by
  rw[yd]at hu;split at hu
  ·simp at hu;rcases hu with hu | rfl
   ·exact KQ h i u hu
   ·exact(h.take _).drop _
  ·exact KQ h i u hu
theorem AN (h:Y8 t):∀u∈Rf.parts t,Y8 u:=by
 intro u hu;rw[Rf.parts]at hu;split at hu
 ·simp at hu
 ·simp at hu;rcases hu with hu | rfl
  ·exact KQ h _ u hu
  ·exact h.drop _
theorem aQ (t:List ByteArray):(Rf.parts t).length<=t.length+1:=by
 have:=(K1 t t.length).2;rw[Rf.parts];split <;> simp;omega
theorem tM (O:Y8 t):kv 137 QV t:=by
 intro w v H;have hl:=O.1;have HF:=zD O;obtain⟨ad,cap,rfl,a5⟩:=H.form;by_cases h2:t.length < 2
 ·have W:=zD (show QV t=false by rw[QV,zE h2]);have a0:(t.length:Int) < 2:=by omega
  go_enter func137,ntmps137;go_wp2;go_ret;exact⟨by rw[W.u];rfl,zI _ _⟩
 ·obtain⟨b,o,rfl⟩:=H.qZ (by intro h;rw[h]at h2;simp at h2);have D:1 < t.length:=by omega
  have W:=zD (show QV t=((Rf.parts (t.drop 2)).all qX && Rf.yg t[1]) by rw[QV,zA h2,qq D]);have Z:=O.2 _ (zj D);have G:t[1].size<=maxLen:=by unfold maxLen;omega
  have HV:=zD H;obtain⟨b',o',cap',he,cx⟩:=H.cell D;simp at he;obtain⟨⟨rfl,rfl⟩,rfl⟩:=he;clear Z H;generalize t[1]=x at *;have a0:¬(t.length:Int) < 2:=by omega
  have HP:=qG (AN (O.drop 2)) (aQ (t.drop 2));clear O;go_enter func137,ntmps137;go_wp2_with fail;refine(XJ x G).mono ?_;rintro e w1 ⟨rfl,A⟩;have a3:=zD (HV.u.zP A);have V:=zD A;clear A cx;go_wp2_with fail
  all_goals
   refine(cY (by first | exact xA.gone (by omega) rfl | exact a3.u.drop 2 _ _ rfl (by omega)) (HF.u.drop 2)).mono ?_;rintro e w2 ⟨T,v2,vs,rfl,hown,hvs⟩;have a6:(Rf.parts (t.drop 2)).length<=1001:=by have:=HP.u.2;simp at this;omega
   obtain⟨a2,a1,rfl⟩:=zK hown;have HB2:=zD (V.u.trans (T.mono (B':=w.heap.size) V.u.size));clear T;go_wp2_with fail;have L:=HP.u.1;generalize Rf.parts (t.drop 2)=ps at *;have a4:=zD L;clear L HP;go_loopw [5] (fun i wr=>∃k:Nat,k<=ps.length/\i=.int .i64 k/\(ps.drop k).all qX=ps.all qX/\wr.ownsRow w1.heap.size 87 1 (.slice a2 ps.length a1) ps.length vs/\Jy wr vs ps/\Below w.heap.size w wr) (fun i _=>ps.length-(intOf i).toNat)
   case atStart=>exact⟨0,zo _,rfl,rfl,hown,hvs,HB2.u⟩
   case round=>
    obtain⟨k,hk,rfl,U,d,f,j⟩:=hrel;by_cases hlt:k < ps.length
    ·obtain⟨u,J,I⟩:=f.2 k hlt;obtain⟨g,cap',hg,_,_,cx⟩:=yD d J;simp at hg;obtain⟨rfl,rfl⟩:=hg;rw[zZ hlt,kY]at U;have N:=a4.u _ (zj hlt);have HT:=zD U;have HU:=zD I;have F:=XX d f j;have HK:=zD N;have M:(k:Int) < (ps.length:Int):=by omega
     clear U I d f j N J;generalize ps[k]=y at *;go_wp2_with fail;refine(QU HK.u _ _ HU.u).mono ?_;rintro e w4 ⟨rfl,R⟩;have z:=zD R;clear R;cases hn:qX y with
     | true=>
      go_wp2_with fail;go_roundw
      case rel=>exact⟨k+1,by omega,by go_num,by have h:=HT.u;rw[hn]at h;simpa using h,yG F.u.1 z.u,F.u.2.1.zP z.u,F.u.2.2.trans (z.u.mono F.u.2.2.size)⟩
      case measure=>simp[intOf];omega
     | false=>
      go_wp2;go_ret;exact⟨by rw[W.u,<-HT.u,hn];rfl,F.u.2.2.trans (z.u.mono F.u.2.2.size)⟩
    ·have M:¬(k:Int) < (ps.length:Int):=by omega
     rw[zp (by omega)]at U;go_wp2;go_ret;exact⟨by rw[W.u,<-U];exact yj (by simp),j⟩
theorem C0 (y:Y8 t) (d:0 < t.length) (L:(t[0].toList==[101,110,100])=true):kv 81 xM t:=by
 intro w v k;have U:=y.1;have N:=zD y;obtain⟨W,cap,rfl,G⟩:=k.form;obtain⟨b,o,rfl⟩:=k.qZ (by intro h;rw[h]at d;simp at d);have J:¬t.length=0:=by omega
 have f:xM t=Rf.isKind t t[0].toList:=by rw[xM,zA J,Rf.first,qq d]
 unfold Rf.isKind at f;rw[L,zE rfl]at f;have O:=zD f;clear f;have R:Hd (∀w' j (hj:j < t.length),xA w' (.slice (some ⟨b,o,none⟩) t.length cap) t->w'.cell? ⟨b,o+j,none⟩=some (.string t[j])):=zD (by
  intro w' j hj h;obtain⟨b',T,cap',F,M⟩:=h.cell hj;simp at F;obtain⟨⟨rfl,rfl⟩,rfl⟩:=F;exact M)
 have A:Hd (∀w',xA w' (.slice (some ⟨b,o,none⟩) t.length cap) t->w'.cell? ⟨b,o,none⟩=some (.string t[0])):=zD (fun w' h=>R.u w' 0 d h);have H:=zD k;have I:((t.length:Int)==0)=false:=by rw[zV];omega
 clear k y;generalize t[0]=x at *;go_enter func81,ntmps81;go_wp2_with fail
 all_goals
  refine(qv (by first | exact xA.gone (by omega) rfl | exact H.u.drop 1 _ _ rfl (by omega)) (N.u.drop 1)).mono ?_;rintro e w1 ⟨rfl,i⟩;have z:=zD (H.u.zP i);have D:=zD i;have V:=A.u _ z.u;clear i;go_wp2;go_ret;exact⟨by rw[O.u];exact yj (by rw[xO];simp;omega),D.u⟩
theorem Cz (y:Y8 t) (d:0 < t.length) (M:(t[0].toList==[101,110,100])=false) (L:(t[0].toList==[101,108,115,101])=true):kv 81 xM t:=by
 intro w v k;have V:=y.1;have O:=zD y;obtain⟨Z,cap,rfl,G⟩:=k.form;obtain⟨b,o,rfl⟩:=k.qZ (by intro h;rw[h]at d;simp at d);have J:¬t.length=0:=by omega
 have f:xM t=Rf.isKind t t[0].toList:=by rw[xM,zA J,Rf.first,qq d]
 unfold Rf.isKind at f;rw[M,zA (by decide),L,zE rfl]at f;have R:=zD f;clear f;have T:Hd (∀w' j (hj:j < t.length),xA w' (.slice (some ⟨b,o,none⟩) t.length cap) t->w'.cell? ⟨b,o+j,none⟩=some (.string t[j])):=zD (by
  intro w' j hj h;obtain⟨b',U,cap',F,N⟩:=h.cell hj;simp at F;obtain⟨⟨rfl,rfl⟩,rfl⟩:=F;exact N)
 have A:Hd (∀w',xA w' (.slice (some ⟨b,o,none⟩) t.length cap) t->w'.cell? ⟨b,o,none⟩=some (.string t[0])):=zD (fun w' h=>T.u w' 0 d h);have H:=zD k;have I:((t.length:Int)==0)=false:=by rw[zV];omega
 clear k y;generalize t[0]=x at *;go_enter func81,ntmps81;go_wp2_with fail
 all_goals
  refine(qv (by first | exact xA.gone (by omega) rfl | exact H.u.drop 1 _ _ rfl (by omega)) (O.u.drop 1)).mono ?_;rintro e w1 ⟨rfl,i⟩;have z:=zD (H.u.zP i);have D:=zD i;have W:=A.u _ z.u;clear i;go_wp2;go_ret;exact⟨by rw[R.u];exact yj (by rw[xO];simp;omega),D.u⟩
theorem Cy (y:Y8 t) (d:0 < t.length) (N:(t[0].toList==[101,110,100])=false) (M:(t[0].toList==[101,108,115,101])=false) (L:(t[0].toList==[114,101,116,117,114,110])=true):kv 81 xM t:=by
 intro w v k;have W:=y.1;have R:=zD y;obtain⟨ad,cap,rfl,G⟩:=k.form;obtain⟨b,o,rfl⟩:=k.qZ (by intro h;rw[h]at d;simp at d);have J:¬t.length=0:=by omega
 have f:xM t=Rf.isKind t t[0].toList:=by rw[xM,zA J,Rf.first,qq d]
 unfold Rf.isKind at f;rw[N,zA (by decide),M,zA (by decide),L,zE rfl]at f;have T:=zD f;clear f;have U:Hd (∀w' j (hj:j < t.length),xA w' (.slice (some ⟨b,o,none⟩) t.length cap) t->w'.cell? ⟨b,o+j,none⟩=some (.string t[j])):=zD (by
  intro w' j hj h;obtain⟨b',V,cap',F,O⟩:=h.cell hj;simp at F;obtain⟨⟨rfl,rfl⟩,rfl⟩:=F;exact O)
 have A:Hd (∀w',xA w' (.slice (some ⟨b,o,none⟩) t.length cap) t->w'.cell? ⟨b,o,none⟩=some (.string t[0])):=zD (fun w' h=>U.u w' 0 d h);have H:=zD k;have I:((t.length:Int)==0)=false:=by rw[zV];omega
 clear k y;generalize t[0]=x at *;go_enter func81,ntmps81;go_wp2_with fail
 all_goals
  refine(qv (by first | exact xA.gone (by omega) rfl | exact H.u.drop 1 _ _ rfl (by omega)) (R.u.drop 1)).mono ?_;rintro e w1 ⟨rfl,i⟩;have z:=zD (H.u.zP i);have D:=zD i;have Z:=A.u _ z.u;clear i;go_wp2;go_ret;exact⟨by rw[T.u];exact yj (by rw[xO];simp;omega),D.u⟩
theorem Cx (D:Y8 t) (d:0 < t.length) (T:(t[0].toList==[101,110,100])=false) (R:(t[0].toList==[101,108,115,101])=false) (O:(t[0].toList==[114,101,116,117,114,110])=false) (N:(t[0].toList==[118,97,114])=true):kv 81 xM t:=by
 intro w v y;have hl:=D.1;have V:=zD D;obtain⟨ad,cap,rfl,I⟩:=y.form;obtain⟨b,o,rfl⟩:=y.qZ (by intro h;rw[h]at d;simp at d);have M:¬t.length=0:=by omega
 have f:xM t=Rf.isKind t t[0].toList:=by rw[xM,zA M,Rf.first,qq d]
 unfold Rf.isKind at f;rw[T,zA (by decide),R,zA (by decide),O,zA (by decide),N,zE rfl]at f;have z:=zD f;clear f;have W:Hd (∀w' j (hj:j < t.length),xA w' (.slice (some ⟨b,o,none⟩) t.length cap) t->w'.cell? ⟨b,o+j,none⟩=some (.string t[j])):=zD (by
  intro w' j hj h;obtain⟨b',Z,cap',H,U⟩:=h.cell hj;simp at H;obtain⟨⟨rfl,rfl⟩,rfl⟩:=H;exact U)
 have G:Hd (∀w',xA w' (.slice (some ⟨b,o,none⟩) t.length cap) t->w'.cell? ⟨b,o,none⟩=some (.string t[0])):=zD (fun w' h=>W.u w' 0 d h);have J:=zD y;have L:((t.length:Int)==0)=false:=by rw[zV];omega
 clear y D;generalize t[0]=x at *;go_enter func81,ntmps81;go_wp2_with fail
 all_goals
  refine(qv (by first | exact xA.gone (by omega) rfl | exact J.u.drop 1 _ _ rfl (by omega)) (V.u.drop 1)).mono ?_;rintro e w1 ⟨rfl,i⟩;have F:=zD (J.u.zP i);have k:=zD i;have cx:=G.u _ F.u;clear i;by_cases hn:t.length=2
  ·have A:((t.length:Int)==2)=true:=by rw[xw];omega
   rw[qA hn]at z;go_wp2_with fail
   all_goals
    go_ret;exact⟨by rw[z.u];exact yj (by simp_all),k.u⟩
  ·have A:((t.length:Int)==2)=false:=by rw[zV];omega
   rw[qP hn]at z;go_wp2_with fail
   all_goals
    go_ret;exact⟨by rw[z.u];exact yj (by simp),k.u⟩
theorem Cu (D:Y8 t) (d:0 < t.length) (Z:(t[0].toList==[101,110,100])=false) (W:(t[0].toList==[101,108,115,101])=false) (V:(t[0].toList==[114,101,116,117,114,110])=false) (U:(t[0].toList==[118,97,114])=false) (T:(t[0].toList==[114,101,97,100])=false) (R:(t[0].toList==[112,114,111,99])=false) (O:(t[0].toList==[105,102])=true):kv 81 xM t:=by
 intro w v A;have hl:=D.1;have L:=zD D;obtain⟨ad,cap,rfl,I⟩:=A.form;obtain⟨b,o,rfl⟩:=A.qZ (by intro h;rw[h]at d;simp at d);have N:¬t.length=0:=by omega
 have f:xM t=Rf.isKind t t[0].toList:=by rw[xM,zA N,Rf.first,qq d]
 unfold Rf.isKind at f;rw[Z,zA (by decide),W,zA (by decide),V,zA (by decide),U,zA (by decide),T,zA (by decide),R,zA (by decide),O,zE rfl]at f;have HE:=zD f;clear f;have HC:Hd (∀w' j (hj:j < t.length),xA w' (.slice (some ⟨b,o,none⟩) t.length cap) t->w'.cell? ⟨b,o+j,none⟩=some (.string t[j])):=zD (by
  intro w' j hj h;obtain⟨b',o',cap',H,c0⟩:=h.cell hj;simp at H;obtain⟨⟨rfl,rfl⟩,rfl⟩:=H;exact c0)
 have F:Hd (∀w',xA w' (.slice (some ⟨b,o,none⟩) t.length cap) t->w'.cell? ⟨b,o,none⟩=some (.string t[0])):=zD (fun w' h=>HC.u w' 0 d h);have J:=zD A;have M:((t.length:Int)==0)=false:=by rw[zV];omega
 clear A D;generalize t[0]=x at *;go_enter func81,ntmps81;go_wp2_with fail
 all_goals
  refine(qv (by first | exact xA.gone (by omega) rfl | exact J.u.drop 1 _ _ rfl (by omega)) (L.u.drop 1)).mono ?_;rintro e w1 ⟨rfl,i⟩;have y:=zD (J.u.zP i);have z:=zD i;have cx:=F.u _ y.u;clear i;go_wp2_with fail
  all_goals
   refine(QU (L.u.drop 1) _ _ (by first | exact xA.gone (by omega) rfl | exact y.u.drop 1 _ _ rfl (by omega))).mono ?_;rintro e w2 ⟨rfl,k⟩;have G:=zD (z.u.trans (k.mono (B':=w.heap.size) z.u.size));clear k;go_wp2;go_ret;exact⟨by rw[HE.u];first | rfl | exact yj (by simp),G.u⟩
theorem Cw (D:Y8 t) (d:0 < t.length) (U:(t[0].toList==[101,110,100])=false) (T:(t[0].toList==[101,108,115,101])=false) (R:(t[0].toList==[114,101,116,117,114,110])=false) (O:(t[0].toList==[118,97,114])=false) (N:(t[0].toList==[114,101,97,100])=true):kv 81 xM t:=by
 intro w v y;have hl:=D.1;have W:=zD D;obtain⟨ad,cap,rfl,I⟩:=y.form;obtain⟨b,o,rfl⟩:=y.qZ (by intro h;rw[h]at d;simp at d);have M:¬t.length=0:=by omega
 have f:xM t=Rf.isKind t t[0].toList:=by rw[xM,zA M,Rf.first,qq d]
 unfold Rf.isKind at f;rw[U,zA (by decide),T,zA (by decide),R,zA (by decide),O,zA (by decide),N,zE rfl]at f;have z:=zD f;clear f;have Z:Hd (∀w' j (hj:j < t.length),xA w' (.slice (some ⟨b,o,none⟩) t.length cap) t->w'.cell? ⟨b,o+j,none⟩=some (.string t[j])):=zD (by
  intro w' j hj h;obtain⟨b',o',cap',H,V⟩:=h.cell hj;simp at H;obtain⟨⟨rfl,rfl⟩,rfl⟩:=H;exact V)
 have G:Hd (∀w',xA w' (.slice (some ⟨b,o,none⟩) t.length cap) t->w'.cell? ⟨b,o,none⟩=some (.string t[0])):=zD (fun w' h=>Z.u w' 0 d h);have J:=zD y;have L:((t.length:Int)==0)=false:=by rw[zV];omega
 clear y D;generalize t[0]=x at *;go_enter func81,ntmps81;go_wp2_with fail
 all_goals
  refine(qv (by first | exact xA.gone (by omega) rfl | exact J.u.drop 1 _ _ rfl (by omega)) (W.u.drop 1)).mono ?_;rintro e w1 ⟨rfl,i⟩;have F:=zD (J.u.zP i);have k:=zD i;have cx:=G.u _ F.u;clear i;by_cases hn:t.length=2
  ·have A:((t.length:Int)==2)=true:=by rw[xw];omega
   rw[qA hn]at z;go_wp2_with fail
   all_goals
    go_ret;exact⟨by rw[z.u];exact yj (by simp_all),k.u⟩
  ·have A:((t.length:Int)==2)=false:=by rw[zV];omega
   rw[qP hn]at z;go_wp2_with fail
   all_goals
    go_ret;exact⟨by rw[z.u];exact yj (by simp),k.u⟩
theorem Cv (A:Y8 t) (d:0 < t.length) (U:(t[0].toList==[101,110,100])=false) (T:(t[0].toList==[101,108,115,101])=false) (R:(t[0].toList==[114,101,116,117,114,110])=false) (O:(t[0].toList==[118,97,114])=false) (N:(t[0].toList==[114,101,97,100])=false) (M:(t[0].toList==[112,114,111,99])=true):kv 81 xM t:=by
 intro w v z;have hl:=A.1;have W:=zD A;obtain⟨ad,cap,rfl,H⟩:=z.form;obtain⟨b,o,rfl⟩:=z.qZ (by intro h;rw[h]at d;simp at d);have L:¬t.length=0:=by omega
 have f:xM t=Rf.isKind t t[0].toList:=by rw[xM,zA L,Rf.first,qq d]
 unfold Rf.isKind at f;rw[U,zA (by decide),T,zA (by decide),R,zA (by decide),O,zA (by decide),N,zA (by decide),M,zE rfl]at f;have y:=zD f;clear f;have Z:Hd (∀w' j (hj:j < t.length),xA w' (.slice (some ⟨b,o,none⟩) t.length cap) t->w'.cell? ⟨b,o+j,none⟩=some (.string t[j])):=zD (by
  intro w' j hj h;obtain⟨b',o',cap',G,V⟩:=h.cell hj;simp at G;obtain⟨⟨rfl,rfl⟩,rfl⟩:=G;exact V)
 have F:Hd (∀w',xA w' (.slice (some ⟨b,o,none⟩) t.length cap) t->w'.cell? ⟨b,o,none⟩=some (.string t[0])):=zD (fun w' h=>Z.u w' 0 d h);have I:=zD z;have J:((t.length:Int)==0)=false:=by rw[zV];omega
 clear z A;generalize t[0]=x at *;go_enter func81,ntmps81;go_wp2_with fail
 all_goals
  refine(qv (by first | exact xA.gone (by omega) rfl | exact I.u.drop 1 _ _ rfl (by omega)) (W.u.drop 1)).mono ?_;rintro e w1 ⟨rfl,i⟩;have D:=zD (I.u.zP i);have k:=zD i;have cx:=F.u _ D.u;clear i;by_cases hn:2<=t.length/\t.length<=6
  ·obtain⟨n1,n2⟩:=hn;rw[qA (show 2<=t.length/\t.length<=6 from⟨n1,n2⟩)]at y;go_wp2_with fail
   all_goals
    go_ret;exact⟨by rw[y.u];exact yj (by simp_all),k.u⟩
  ·rw[qP hn]at y;by_cases n1:2<=t.length
   ·have n2:¬t.length<=6:=fun h=>hn ⟨n1,h⟩;go_wp2_with fail
    all_goals
     go_ret;exact⟨by rw[y.u];exact yj (by simp_all),k.u⟩
   ·go_wp2_with fail
    all_goals
     go_ret;exact⟨by rw[y.u];exact yj (by simp_all),k.u⟩
theorem Ct (D:Y8 t) (d:0 < t.length) (e0:(t[0].toList==[101,110,100])=false) (Z:(t[0].toList==[101,108,115,101])=false) (W:(t[0].toList==[114,101,116,117,114,110])=false) (V:(t[0].toList==[118,97,114])=false) (U:(t[0].toList==[114,101,97,100])=false) (T:(t[0].toList==[112,114,111,99])=false) (R:(t[0].toList==[105,102])=false) (O:(t[0].toList==[119,104,105,108,101])=true):kv 81 xM t:=by
 intro w v A;have hl:=D.1;have L:=zD D;obtain⟨ad,cap,rfl,I⟩:=A.form;obtain⟨b,o,rfl⟩:=A.qZ (by intro h;rw[h]at d;simp at d);have N:¬t.length=0:=by omega
 have f:xM t=Rf.isKind t t[0].toList:=by rw[xM,zA N,Rf.first,qq d]
 unfold Rf.isKind at f;rw[e0,zA (by decide),Z,zA (by decide),W,zA (by decide),V,zA (by decide),U,zA (by decide),T,zA (by decide),R,zA (by decide),O,zE rfl]at f;have HE:=zD f;clear f;have HC:Hd (∀w' j (hj:j < t.length),xA w' (.slice (some ⟨b,o,none⟩) t.length cap) t->w'.cell? ⟨b,o+j,none⟩=some (.string t[j])):=zD (by
  intro w' j hj h;obtain⟨b',o',cap',H,c0⟩:=h.cell hj;simp at H;obtain⟨⟨rfl,rfl⟩,rfl⟩:=H;exact c0)
 have F:Hd (∀w',xA w' (.slice (some ⟨b,o,none⟩) t.length cap) t->w'.cell? ⟨b,o,none⟩=some (.string t[0])):=zD (fun w' h=>HC.u w' 0 d h);have J:=zD A;have M:((t.length:Int)==0)=false:=by rw[zV];omega
 clear A D;generalize t[0]=x at *;go_enter func81,ntmps81;go_wp2_with fail
 all_goals
  refine(qv (by first | exact xA.gone (by omega) rfl | exact J.u.drop 1 _ _ rfl (by omega)) (L.u.drop 1)).mono ?_;rintro e w1 ⟨rfl,i⟩;have y:=zD (J.u.zP i);have z:=zD i;have cx:=F.u _ y.u;clear i;go_wp2_with fail
  all_goals
   refine(QU (L.u.drop 1) _ _ (by first | exact xA.gone (by omega) rfl | exact y.u.drop 1 _ _ rfl (by omega))).mono ?_;rintro e w2 ⟨rfl,k⟩;have G:=zD (z.u.trans (k.mono (B':=w.heap.size) z.u.size));clear k;go_wp2;go_ret;exact⟨by rw[HE.u];first | rfl | exact yj (by simp),G.u⟩
theorem Cs (D:Y8 t) (d:0 < t.length) (e0:(t[0].toList==[101,110,100])=false) (e1:(t[0].toList==[101,108,115,101])=false) (Z:(t[0].toList==[114,101,116,117,114,110])=false) (W:(t[0].toList==[118,97,114])=false) (V:(t[0].toList==[114,101,97,100])=false) (U:(t[0].toList==[112,114,111,99])=false) (T:(t[0].toList==[105,102])=false) (R:(t[0].toList==[119,104,105,108,101])=false) (O:(t[0].toList==[112,114,105,110,116])=true):kv 81 xM t:=by
 intro w v A;have hl:=D.1;have L:=zD D;obtain⟨ad,cap,rfl,I⟩:=A.form;obtain⟨b,o,rfl⟩:=A.qZ (by intro h;rw[h]at d;simp at d);have N:¬t.length=0:=by omega
 have f:xM t=Rf.isKind t t[0].toList:=by rw[xM,zA N,Rf.first,qq d]
 unfold Rf.isKind at f;rw[e0,zA (by decide),e1,zA (by decide),Z,zA (by decide),W,zA (by decide),V,zA (by decide),U,zA (by decide),T,zA (by decide),R,zA (by decide),O,zE rfl]at f;have HE:=zD f;clear f;have HC:Hd (∀w' j (hj:j < t.length),xA w' (.slice (some ⟨b,o,none⟩) t.length cap) t->w'.cell? ⟨b,o+j,none⟩=some (.string t[j])):=zD (by
  intro w' j hj h;obtain⟨b',o',cap',H,c0⟩:=h.cell hj;simp at H;obtain⟨⟨rfl,rfl⟩,rfl⟩:=H;exact c0)
 have F:Hd (∀w',xA w' (.slice (some ⟨b,o,none⟩) t.length cap) t->w'.cell? ⟨b,o,none⟩=some (.string t[0])):=zD (fun w' h=>HC.u w' 0 d h);have J:=zD A;have M:((t.length:Int)==0)=false:=by rw[zV];omega
 clear A D;generalize t[0]=x at *;go_enter func81,ntmps81;go_wp2_with fail
 all_goals
  refine(qv (by first | exact xA.gone (by omega) rfl | exact J.u.drop 1 _ _ rfl (by omega)) (L.u.drop 1)).mono ?_;rintro e w1 ⟨rfl,i⟩;have y:=zD (J.u.zP i);have z:=zD i;have cx:=F.u _ y.u;clear i;go_wp2_with fail
  all_goals
   refine(QU (L.u.drop 1) _ _ (by first | exact xA.gone (by omega) rfl | exact y.u.drop 1 _ _ rfl (by omega))).mono ?_;rintro e w2 ⟨rfl,k⟩;have G:=zD (z.u.trans (k.mono (B':=w.heap.size) z.u.size));clear k;go_wp2;go_ret;exact⟨by rw[HE.u];first | rfl | exact yj (by simp),G.u⟩
end Go.Proofs.YthleadfkfnnadaaGreat
