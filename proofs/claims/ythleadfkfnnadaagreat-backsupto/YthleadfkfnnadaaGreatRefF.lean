/- The document's answer: calls that fit. -/
import Derived.Test.YthleadfkfnnadaaGreatRefB2
set_option maxHeartbeats 4000000
set_option maxRecDepth 100000
set_option linter.unusedSimpArgs false
namespace Go.Proofs.YthleadfkfnnadaaGreat
open Rf Go.Proofs.Tryz
open Go.RowKit
variable {ls:List (List ByteArray)} {t:List ByteArray} {k S g cap:Nat} {w w':World}
theorem Cr (D:Y8 t) (d:0 < t.length) (e0:(t[0].toList==[101,110,100])=false) (e1:(t[0].toList==[101,108,115,101])=false) (e2:(t[0].toList==[114,101,116,117,114,110])=false) (Z:(t[0].toList==[118,97,114])=false) (W:(t[0].toList==[114,101,97,100])=false) (V:(t[0].toList==[112,114,111,99])=false) (U:(t[0].toList==[105,102])=false) (T:(t[0].toList==[119,104,105,108,101])=false) (R:(t[0].toList==[112,114,105,110,116])=false) (O:(t[0].toList==[115,101,116])=true):kv 81 xM t:=by
 intro w v A;have hl:=D.1;have L:=zD D;obtain⟨ad,cap,rfl,I⟩:=A.form;obtain⟨b,o,rfl⟩:=A.qZ (by intro h;rw[h]at d;simp at d);have N:¬t.length=0:=by omega
 have f:xM t=Rf.isKind t t[0].toList:=by rw[xM,zA N,Rf.first,qq d]
 unfold Rf.isKind at f;rw[e0,zA (by decide),e1,zA (by decide),e2,zA (by decide),Z,zA (by decide),W,zA (by decide),V,zA (by decide),U,zA (by decide),T,zA (by decide),R,zA (by decide),O,zE rfl]at f;have HE:=zD f;clear f;have HC:Hd (∀w' j (hj:j < t.length),xA w' (.slice (some ⟨b,o,none⟩) t.length cap) t->w'.cell? ⟨b,o+j,none⟩=some (.string t[j])):=zD (by
  intro w' j hj h;obtain⟨b',o',cap',H,c0⟩:=h.cell hj;simp at H;obtain⟨⟨rfl,rfl⟩,rfl⟩:=H;exact c0)
 have F:Hd (∀w',xA w' (.slice (some ⟨b,o,none⟩) t.length cap) t->w'.cell? ⟨b,o,none⟩=some (.string t[0])):=zD (fun w' h=>HC.u w' 0 d h);have J:=zD A;have M:((t.length:Int)==0)=false:=by rw[zV];omega
 clear A D;generalize t[0]=x at *;go_enter func81,ntmps81;go_wp2_with fail
 all_goals
  refine(qv (by first | exact xA.gone (by omega) rfl | exact J.u.drop 1 _ _ rfl (by omega)) (L.u.drop 1)).mono ?_;rintro e w1 ⟨rfl,i⟩;have k:=zD (J.u.zP i);have z:=zD i;have cx:=F.u _ k.u;clear i;go_wp2_with fail
  all_goals
   refine(Av L.u _ _ (by first | exact k.u | (subst h;exact k.u))).mono ?_;rintro e w2 ⟨rfl,y⟩;have G:=zD (z.u.trans (y.mono (B':=w.heap.size) z.u.size));clear y;go_wp2;go_ret;exact⟨by rw[HE.u];first | rfl | exact yj (by simp),G.u⟩
theorem Ay (D:Y8 t) (d:0 < t.length) (e0:(t[0].toList==[101,110,100])=false) (e1:(t[0].toList==[101,108,115,101])=false) (e2:(t[0].toList==[114,101,116,117,114,110])=false) (e3:(t[0].toList==[118,97,114])=false) (Z:(t[0].toList==[114,101,97,100])=false) (W:(t[0].toList==[112,114,111,99])=false) (V:(t[0].toList==[105,102])=false) (U:(t[0].toList==[119,104,105,108,101])=false) (T:(t[0].toList==[112,114,105,110,116])=false) (R:(t[0].toList==[115,101,116])=false) (F:(t[0].toList==[99,97,108,108])=true):kv 81 xM t:=by
 intro w v A;have hl:=D.1;have M:=zD D;obtain⟨ad,cap,rfl,J⟩:=A.form;obtain⟨b,o,rfl⟩:=A.qZ (by intro h;rw[h]at d;simp at d);have O:¬t.length=0:=by omega
 have f:xM t=Rf.isKind t t[0].toList:=by rw[xM,zA O,Rf.first,qq d]
 unfold Rf.isKind at f;rw[e0,zA (by decide),e1,zA (by decide),e2,zA (by decide),e3,zA (by decide),Z,zA (by decide),W,zA (by decide),V,zA (by decide),U,zA (by decide),T,zA (by decide),R,zA (by decide),F,zE rfl]at f;have HE:=zD f;clear f;have HC:Hd (∀w' j (hj:j < t.length),xA w' (.slice (some ⟨b,o,none⟩) t.length cap) t->w'.cell? ⟨b,o+j,none⟩=some (.string t[j])):=zD (by
  intro w' j hj h;obtain⟨b',o',cap',I,c0⟩:=h.cell hj;simp at I;obtain⟨⟨rfl,rfl⟩,rfl⟩:=I;exact c0)
 have G:Hd (∀w',xA w' (.slice (some ⟨b,o,none⟩) t.length cap) t->w'.cell? ⟨b,o,none⟩=some (.string t[0])):=zD (fun w' h=>HC.u w' 0 d h);have L:=zD A;have N:((t.length:Int)==0)=false:=by rw[zV];omega
 clear A D;generalize t[0]=x at *;go_enter func81,ntmps81;go_wp2_with fail
 all_goals
  refine(qv (by first | exact xA.gone (by omega) rfl | exact L.u.drop 1 _ _ rfl (by omega)) (M.u.drop 1)).mono ?_;rintro e w1 ⟨rfl,i⟩;have k:=zD (L.u.zP i);have z:=zD i;have cx:=G.u _ k.u;clear i;go_wp2_with fail
  all_goals
   refine(tM M.u _ _ (by first | exact k.u | (subst h;exact k.u))).mono ?_;rintro e w2 ⟨rfl,y⟩;have H:=zD (z.u.trans (y.mono (B':=w.heap.size) z.u.size));clear y;go_wp2;go_ret;exact⟨by rw[HE.u];first | rfl | exact yj (by simp),H.u⟩
theorem Ax (R:Y8 t) (d:0 < t.length) (e0:(t[0].toList==[101,110,100])=false) (e1:(t[0].toList==[101,108,115,101])=false) (e2:(t[0].toList==[114,101,116,117,114,110])=false) (e3:(t[0].toList==[118,97,114])=false) (e4:(t[0].toList==[114,101,97,100])=false) (e5:(t[0].toList==[112,114,111,99])=false) (e6:(t[0].toList==[105,102])=false) (e7:(t[0].toList==[119,104,105,108,101])=false) (e8:(t[0].toList==[112,114,105,110,116])=false) (e9:(t[0].toList==[115,101,116])=false) (U:(t[0].toList==[99,97,108,108])=false) (T:(t[0].toList==[97,114,114,97,121])=true):kv 81 xM t:=by
 intro w v H;have hl:=R.1;have V:=zD R;obtain⟨ad,cap,rfl,a0⟩:=H.form;obtain⟨b,o,rfl⟩:=H.qZ (by intro h;rw[h]at d;simp at d);have hz:¬t.length=0:=by omega
 have f:xM t=Rf.isKind t t[0].toList:=by rw[xM,zA hz,Rf.first,qq d]
 unfold Rf.isKind at f;rw[e0,zA (by decide),e1,zA (by decide),e2,zA (by decide),e3,zA (by decide),e4,zA (by decide),e5,zA (by decide),e6,zA (by decide),e7,zA (by decide),e8,zA (by decide),e9,zA (by decide),U,zA (by decide),T,zE rfl]at f;have I:=zD f;clear f;have J:Hd (∀w' j (hj:j < t.length),xA w' (.slice (some ⟨b,o,none⟩) t.length cap) t->w'.cell? ⟨b,o+j,none⟩=some (.string t[j])):=zD (by
  intro w' j hj h;obtain⟨b',o',cap',he,c0⟩:=h.cell hj;simp at he;obtain⟨⟨rfl,rfl⟩,rfl⟩:=he;exact c0)
 have Z:Hd (∀w',xA w' (.slice (some ⟨b,o,none⟩) t.length cap) t->w'.cell? ⟨b,o,none⟩=some (.string t[0])):=zD (fun w' h=>J.u w' 0 d h);have HV:=zD H;have a1:((t.length:Int)==0)=false:=by rw[zV];omega
 clear H R;generalize t[0]=x at *;go_enter func81,ntmps81;go_wp2_with fail
 all_goals
  refine(qv (by first | exact xA.gone (by omega) rfl | exact HV.u.drop 1 _ _ rfl (by omega)) (V.u.drop 1)).mono ?_;rintro e w1 ⟨rfl,k⟩;have A:=zD (HV.u.zP k);have F:=zD k;have cx:=Z.u _ A.u;clear k;by_cases hn:t.length=3
  ·have O:((t.length:Int)==3)=true:=by rw[xw];omega
   have N:1 < t.length:=by omega
   have M:2 < t.length:=by omega
   have G:=zD (show xM t=(Rf.yg t[1] && xi t[2] && decide ((1:Int)<=Rf.worth t[2]) && decide (Rf.worth t[2]<=(32:Int))) by rw[I.u,Qn,zE hn,qq N,qq M]);have c1:=J.u _ 1 N A.u;have W:=zD (fun w' h=>J.u w' 2 M h);have s1:t[1].size<=maxLen:=by have:=V.u.2 _ (zj N);unfold maxLen;omega
   have L:t[2].size<=maxLen:=by have:=V.u.2 _ (zj M);unfold maxLen;omega
   clear I J;generalize t[1]=y at *;generalize t[2]=z at *;go_wp2_with fail;refine(XJ y s1).mono ?_;rintro e w2 ⟨rfl,i⟩;have D:=zD (F.u.trans (i.mono (B':=w.heap.size) F.u.size));have c2:=W.u _ (A.u.zP i);clear i;cases hy:Rf.yg y with
   | false=>
    go_wp2_with fail
    all_goals
     go_ret;exact⟨by rw[G.u,hy];rfl,D.u⟩
   | true=>
    cases hq:xi z with
    | false=>
     go_wp2_with (first | (go_at_call 139;refine(Yv z L).mono ?_;rintro e w' ⟨rfl,rfl⟩;rw[hq]))
     all_goals
      go_ret;exact⟨by rw[G.u,hy,hq];rfl,D.u⟩
    | true=>
     go_wp2_with (first | (go_at_call 139;refine(Yv z L).mono ?_;rintro e w' ⟨rfl,rfl⟩;rw[hq])| (go_at_call 93;refine(bx z L).mono ?_;rintro e w' ⟨rfl,rfl⟩))
     all_goals
      go_ret;exact⟨by rw[G.u,hy,hq];exact yj (by simp_all <;> omega),D.u⟩
  ·have O:((t.length:Int)==3)=false:=by rw[zV];omega
   have G:=zD (show xM t=false by rw[I.u,Qn,zA hn]);clear I;go_wp2;go_ret;exact⟨by rw[G.u];rfl,F.u⟩
theorem Aw (y:Y8 t) (d:0 < t.length) (e0:(t[0].toList==[101,110,100])=false) (e1:(t[0].toList==[101,108,115,101])=false) (Z:(t[0].toList==[114,101,116,117,114,110])=false) (W:(t[0].toList==[118,97,114])=false) (V:(t[0].toList==[114,101,97,100])=false) (U:(t[0].toList==[112,114,111,99])=false) (T:(t[0].toList==[105,102])=false) (R:(t[0].toList==[119,104,105,108,101])=false) (O:(t[0].toList==[112,114,105,110,116])=false) (N:(t[0].toList==[115,101,116])=false) (A:(t[0].toList==[99,97,108,108])=false) (z:(t[0].toList==[97,114,114,97,121])=false):kv 81 xM t:=by
 intro w v k;have hl:=y.1;have HF:=zD y;obtain⟨ad,cap,rfl,I⟩:=k.form;obtain⟨b,o,rfl⟩:=k.qZ (by intro h;rw[h]at d;simp at d);have M:¬t.length=0:=by omega
 have f:xM t=Rf.isKind t t[0].toList:=by rw[xM,zA M,Rf.first,qq d]
 unfold Rf.isKind at f;rw[e0,zA (by decide),e1,zA (by decide),Z,zA (by decide),W,zA (by decide),V,zA (by decide),U,zA (by decide),T,zA (by decide),R,zA (by decide),O,zA (by decide),N,zA (by decide),A,zA (by decide),z,zA (by decide)]at f;have HE:=zD f;clear f;have HC:Hd (∀w' j (hj:j < t.length),xA w' (.slice (some ⟨b,o,none⟩) t.length cap) t->w'.cell? ⟨b,o+j,none⟩=some (.string t[j])):=zD (by
  intro w' j hj h;obtain⟨b',o',cap',H,c0⟩:=h.cell hj;simp at H;obtain⟨⟨rfl,rfl⟩,rfl⟩:=H;exact c0)
 have F:Hd (∀w',xA w' (.slice (some ⟨b,o,none⟩) t.length cap) t->w'.cell? ⟨b,o,none⟩=some (.string t[0])):=zD (fun w' h=>HC.u w' 0 d h);have J:=zD k;have L:((t.length:Int)==0)=false:=by rw[zV];omega
 clear k y;generalize t[0]=x at *;go_enter func81,ntmps81;go_wp2_with fail
 all_goals
  refine(qv (by first | exact xA.gone (by omega) rfl | exact J.u.drop 1 _ _ rfl (by omega)) (HF.u.drop 1)).mono ?_;rintro e w1 ⟨rfl,i⟩;have D:=zD (J.u.zP i);have G:=zD i;have cx:=F.u _ D.u;clear i;go_wp2;go_ret;exact⟨by rw[HE.u];rfl,G.u⟩
theorem tK (d:Y8 t):kv 81 xM t:=by
 by_cases h0:0 < t.length
 ·by_cases e0:(t[0].toList==[101,110,100])=true
  ·exact C0 d h0  e0
  replace e0:=yL.mpr e0
  by_cases e1:(t[0].toList==[101,108,115,101])=true
  ·exact Cz d h0 e0 e1
  replace e1:=yL.mpr e1
  by_cases e2:(t[0].toList==[114,101,116,117,114,110])=true
  ·exact Cy d h0 e0 e1 e2
  replace e2:=yL.mpr e2
  by_cases e3:(t[0].toList==[118,97,114])=true
  ·exact Cx d h0 e0 e1 e2 e3
  replace e3:=yL.mpr e3
  by_cases e4:(t[0].toList==[114,101,97,100])=true
  ·exact Cw d h0 e0 e1 e2 e3 e4
  replace e4:=yL.mpr e4
  by_cases e5:(t[0].toList==[112,114,111,99])=true
  ·exact Cv d h0 e0 e1 e2 e3 e4 e5
  replace e5:=yL.mpr e5
  by_cases e6:(t[0].toList==[105,102])=true
  ·exact Cu d h0 e0 e1 e2 e3 e4 e5 e6
  replace e6:=yL.mpr e6
  by_cases e7:(t[0].toList==[119,104,105,108,101])=true
  ·exact Ct d h0 e0 e1 e2 e3 e4 e5 e6 e7
  replace e7:=yL.mpr e7
  by_cases e8:(t[0].toList==[112,114,105,110,116])=true
  ·exact Cs d h0 e0 e1 e2 e3 e4 e5 e6 e7 e8
  replace e8:=yL.mpr e8
  by_cases e9:(t[0].toList==[115,101,116])=true
  ·exact Cr d h0 e0 e1 e2 e3 e4 e5 e6 e7 e8 e9
  replace e9:=yL.mpr e9
  by_cases e10:(t[0].toList==[99,97,108,108])=true
  ·exact Ay d h0 e0 e1 e2 e3 e4 e5 e6 e7 e8 e9 e10
  replace e10:=yL.mpr e10
  by_cases e11:(t[0].toList==[97,114,114,97,121])=true
  ·exact Ax d h0 e0 e1 e2 e3 e4 e5 e6 e7 e8 e9 e10 e11
  replace e11:=yL.mpr e11
  exact Aw d h0 e0 e1 e2 e3 e4 e5 e6 e7 e8 e9 e10 e11
 ·intro w v j;have o:=d.1;obtain⟨x,cap,rfl,f⟩:=j.form;have i:t.length=0:=by omega
  have k:=zD (show xM t=true by rw[xM,zE i]);have h:((t.length:Int)==0)=true:=by rw[xw];omega
  go_enter func81,ntmps81;go_wp2;go_ret;exact⟨by rw[k.u];rfl,zI _ _⟩
def FG (t:TypeId):Prop:=t=85\/t=87\/t=9
def qm (w:World) (k:Nat) (t:TypeId):Prop:=∃c,w.heap[k]?=some (.cells c t (0,0))
structure jA (w:World) (S g cap:Nat) (ls:List (List ByteArray)):Prop where
 top:w.cell? ⟨S,0,none⟩=some (.slice (some ⟨g,0,none⟩) ls.length cap)
 row:∀l (h:l < ls.length),∃ad c,w.cell? ⟨g,l,none⟩=some (.slice ad ls[l].length c)/\xA w (.slice ad ls[l].length c) ls[l]
 ty:qm w S 85/\qm w g 87
 tys:∀l v,w.cell? ⟨g,l,none⟩=some v->l < ls.length->∀b,v.ownBlock=some b->qm w b 9
theorem X0 {i:Nat} (h:w'.heap[k]?=w.heap[k]?):w'.cell? ⟨k,i,none⟩=w.cell? ⟨k,i,none⟩:=by
 unfold World.cell?;simp only;rw[h]
theorem jA.stay (h:jA w S g cap ls) (d:∀k t,FG t->qm w k t->w'.heap[k]?=w.heap[k]?):jA w' S g cap ls:=by
 have z:=d S _ (Or.inl rfl) h.ty.1;have i:=d g _ (Or.inr (Or.inl rfl)) h.ty.2;refine⟨by rw[X0 z];exact h.top,fun l hl=>?_,⟨by unfold qm;rw[z];exact h.ty.1,by unfold qm;rw[i];exact h.ty.2⟩,fun l v hv hl b hbb=>?_⟩
 ·obtain⟨F,c,A,x,D,e,f,h2⟩:=h.row l hl;refine⟨F,c,by rw[X0 i];exact A,x,D,e,f,?_⟩;rcases h2 with h2 | ⟨b,o,rfl,h2⟩
  ·exact Or.inl h2
  ·injection e with e1 _ _;subst e1;have:=d b _ (Or.inr (Or.inr rfl)) (h.tys l _ A hl b rfl);exact Or.inr ⟨b,o,rfl,fun j hj=>by rw[X0 this];exact h2 j hj⟩
 ·rw[X0 i]at hv;have y:=h.tys l v hv hl b hbb;unfold qm;rw[d b _ (Or.inr (Or.inr rfl)) y];exact y
theorem jA.zP (h:jA w S g cap ls) (d:Below w.heap.size w w'):jA w' S g cap ls:=
 h.stay (fun k _ _ ⟨_,hc⟩=>d.block k (zQ hc))
structure Lawful (ls:List (List ByteArray)):Prop where
 len:ls.length<=100
 VJ:∀t∈ls,Y8 t
 top:∀t∈ls,Xl t=true->2<=t.length
theorem Lawful.XO (h:Lawful ls) {l:Nat} (d:l < ls.length):Y8 ls[l]:=h.VJ _ (zj d)
theorem xz (l:Nat) (h:jA w S g cap ls) (D:l < ls.length) (H:ls.length<=100):Calls Tryz.prog 45 #[.pointer (some ⟨S,0,none⟩),.int .i64 ((l:Int)+1)] w fun e w'=>e=.returned (.string (Rf.first ls[l]))/\Below w.heap.size w w':=by
 have I:=h.top;obtain⟨L,c,J,i⟩:=h.row l D;have A:(l:Int) < (ls.length:Int):=by omega
 have y:IntKind.i64.wrap ((l:Int)+1-1)=l:=by rw[show (l:Int)+1-1=(l:Int) by omega];exact zl _ ⟨by omega,by omega⟩
 have z:IntKind.i64.wrap (l:Int)=l:=zl _ ⟨by omega,by omega⟩;clear h;by_cases hz:ls[l].length=0
 ·have d:=zD (A7 hz);have f:((ls[l].length:Int)==0)=true:=by rw[xw];omega
  clear i;generalize ls[l]=t at *;go_enter func45,ntmps45;go_wp2;go_ret;exact⟨by rw[d.u];rfl,zI _ _⟩
 ·have k:0 < ls[l].length:=by omega
  have d:=zD (gT k);have f:((ls[l].length:Int)==0)=false:=by rw[zV];omega
  obtain⟨b,o,cap',j,G⟩:=i.cell k;simp at j;obtain⟨rfl,rfl⟩:=j;rw[d.u];rw[qO]at G;clear i d;generalize ls[l][0]=x at *;generalize ls[l]=t at *;have F:(0:Int) < (t.length:Int):=by omega
  go_enter func45,ntmps45;go_wp2;go_ret;exact⟨rfl,zI _ _⟩
namespace Rf
theorem wM (t:List ByteArray):(Xl t=true/\(((first t).toList==[118,97,114])=true\/(((first t).toList==[118,97,114])=false/\((first t).toList==[97,114,114,97,121])=true)\/(((first t).toList==[118,97,114])=false/\((first t).toList==[97,114,114,97,121])=false/\((first t).toList==[112,114,111,99])=true)))\/
  (Xl t=false/\((first t).toList==[118,97,114])=false/\((first t).toList==[97,114,114,97,121])=false/\((first t).toList==[112,114,111,99])=false):=by
 unfold Xl;cases ((first t).toList==[118,97,114]) <;> cases ((first t).toList==[97,114,114,97,121]) <;> cases ((first t).toList==[112,114,111,99]) <;> simp
theorem ir {x:ByteArray} (h:k < ls.length):declFrom (k+1) (ls.drop k) x=if Kk ls[k] x=true then k+1 else declFrom (k+1+1) (ls.drop (k+1)) x:=by
 rw[zZ h,declFrom]
end Rf
theorem lR (l:Nat) (h:jA w S g cap ls) (f:l < ls.length) (i:ls.length<=100):Calls Tryz.prog 46 #[.pointer (some ⟨S,0,none⟩),.int .i64 ((l:Int)+1)] w fun e w'=>e=.returned (.bool (kJ ls[l]))/\Below w.heap.size w w':=by
 have j:=zD h;clear h;go_enter func46,ntmps46;go_wp2_with fail;refine(xz l j.u f i).mono ?_;rintro e w1 ⟨rfl,d⟩;have o:=zD d;have k:=zD (show kJ ls[l]=(((Rf.first ls[l]).toList==[112,114,111,99])|| ((Rf.first ls[l]).toList==[105,102])|| ((Rf.first ls[l]).toList==[119,104,105,108,101]))from rfl);clear d;generalize Rf.first ls[l]=x at *;go_wp2_with fail
 all_goals
  go_ret;exact⟨by rw[k.u];exact yj (by simp_all),o.u⟩
theorem qg (x:ByteArray) (h:jA w S g cap ls) (M:Lawful ls):Calls Tryz.prog 84 #[.pointer (some ⟨S,0,none⟩),.string x] w fun e w'=>e=.returned (.int .i64 (Rf.decl ls x))/\Below w.heap.size w w':=by
 have F:=M.len;have U:=zD M;clear M;have H:=h.top;go_enter func84,ntmps84;go_wp2;go_loopw [5] (fun i wr=>∃k:Nat,k<=ls.length/\i=.int .i64 ((k:Int)+1)/\Rf.declFrom (k+1) (ls.drop k) x=Rf.decl ls x/\jA wr S g cap ls/\Below w.heap.size w wr) (fun i _=>ls.length+1-(intOf i).toNat)
 case atStart=>exact⟨0,zo _,rfl,rfl,h,zI _ _⟩
 case round=>
  clear H h;obtain⟨k,V,rfl,A,L,d⟩:=hrel;have H:=L.top;have I:=qG L d;by_cases hlt:k < ls.length
  ·have D:(k:Int)+1<=(ls.length:Int):=by omega
   rw[ir hlt]at A;have HT:=zD A;clear A L d;go_wp2_with fail;refine(xz k I.u.1 hlt F).mono ?_;rintro e w1 ⟨rfl,f⟩;have HS1:=qG (I.u.1.zP f) (I.u.2.trans (f.mono I.u.2.size));clear f H;have H:=HS1.u.1.top;obtain⟨ad,c,cR,J⟩:=HS1.u.1.row k hlt;have O:IntKind.i64.wrap ((k:Int)+1-1)=k:=by rw[show (k:Int)+1-1=(k:Int) by omega];exact zl _ ⟨by omega,by omega⟩
   have R:IntKind.i64.wrap (k:Int)=k:=zl _ ⟨by omega,by omega⟩;have T:(k:Int) < (ls.length:Int):=by omega
   rcases wM ls[k]with⟨ht,hc⟩| ⟨ht,c1,c2,c3⟩
   ·have W:=U.u.top _ (zj hlt) ht;obtain⟨b,o,cap',N,Z⟩:=J.cell (j:=1) (by omega);simp at N;obtain⟨rfl,rfl⟩:=N;have G:=zD (show Kk ls[k] x=(ls[k][1].toList==x.toList) by rw[Kk,ht,qq (by omega)];rfl);rw[G.u]at HT;clear G J ht;generalize ls[k][1]=y at *;generalize Rf.first ls[k]=z at *;generalize ls[k].length=n at *;cases hd:(y.toList==x.toList)with
    | true=>
     rw[hd,zE rfl]at HT;rcases hc with hc | ⟨hc1,hc⟩| ⟨hc1,hc2,hc⟩
     all_goals
      go_wp2;go_ret;exact⟨by rw[<-HT.u];rfl,HS1.u.2⟩
    | false=>
     rw[hd,zA (by decide)]at HT;rcases hc with hc | ⟨hc1,hc⟩| ⟨hc1,hc2,hc⟩
     all_goals
      go_wp2_with fail;go_roundw
      case rel=>exact⟨k+1,by omega,by go_num,HT.u,HS1.u.1,HS1.u.2⟩
      case measure=>simp[intOf];omega
   ·have G:=zD (show Kk ls[k] x=false by rw[Kk,ht];rfl);rw[G.u,zA (by decide)]at HT;clear G J ht;generalize Rf.first ls[k]=z at *;go_wp2_with fail;go_roundw
    case rel=>exact⟨k+1,by omega,by go_num,HT.u,HS1.u.1,HS1.u.2⟩
    case measure=>simp[intOf];omega
  ·have D:¬(k:Int)+1<=(ls.length:Int):=by omega
   rw[zp (by omega),Rf.declFrom]at A;have HT:=zD A;clear A;go_wp2;go_ret;exact⟨by rw[<-HT.u];rfl,d⟩
namespace Rf
def twiceFrom (l:List ByteArray):Nat->Nat->Bool
 | 0,_=>false
 | f+1,k=>kp (l.take k) (ve l k)|| twiceFrom l f (k+1)
def VN (l:List ByteArray):Bool:=twiceFrom l l.length 0
theorem Xy {n:Nat}:home ls (n+1)=if ((first (xU ls n)).toList==[112,114,111,99])=true then n+1 else home ls n:=rfl
theorem tN (ls:List (List ByteArray)):∀n,home ls n<=n
 | 0=>zB _
 | n+1=>by
  have:=tN ls n;rw[Xy];split <;> omega
end Rf
theorem C8 (l:Nat) (h:jA w S g cap ls) (hl:l<=ls.length) (j:ls.length<=100):Calls Tryz.prog 179 #[.pointer (some ⟨S,0,none⟩),.int .i64 l] w fun e w'=>e=.returned (.int .i64 (Rf.home ls l))/\Below w.heap.size w w':=by
 have HN:=zD h;clear h;go_enter func179,ntmps179;go_wp2;go_loopw [5] (fun i wr=>∃k:Nat,k<=ls.length/\i=.int .i64 k/\Rf.home ls k=Rf.home ls l/\jA wr S g cap ls/\Below w.heap.size w wr) (fun i _=>(intOf i).toNat)
 case atStart=>exact⟨l,hl,rfl,rfl,HN.u,zI _ _⟩
 case round=>
  obtain⟨k,F,rfl,D,y,o⟩:=hrel;have x:=qG y o;have HT:=zD D;clear y o D;cases k with
  | zero=>
   go_wp2;go_ret;exact⟨by rw[<-HT.u];rfl,x.u.2⟩
  | succ k=>
   have f:k < ls.length:=by omega
   rw[Xy,yq f]at HT;have A:(0:Int) < (k:Int)+1:=by omega
   rw[show ((k+1:Nat):Int)=(k:Int)+1 by omega];go_wp2_with fail;refine(xz k x.u.1 f j).mono ?_;rintro e w1 ⟨rfl,d⟩;have HS1:=qG (x.u.1.zP d) (x.u.2.trans (d.mono x.u.2.size));clear d;generalize Rf.first ls[k]=z at *;cases hz:(z.toList==[112,114,111,99])with
   | true=>
    rw[hz,zE rfl]at HT;go_wp2;go_ret;exact⟨by rw[<-HT.u];rfl,HS1.u.2⟩
   | false=>
    rw[hz,zA (by decide)]at HT;go_wp2_with fail;go_roundw
    case rel=>exact⟨k,by omega,by go_num,HT.u,HS1.u.1,HS1.u.2⟩
    case measure=>simp[intOf]
theorem Jd (l:Nat) (h:jA w S g cap ls) (A:l < ls.length) (f:ls.length<=100) (k:2<=ls[l].length) (G:ls[l].length<=1000):Calls Tryz.prog 117 #[.pointer (some ⟨S,0,none⟩),.int .i64 ((l:Int)+1)] w fun e w'=>∃v,e=.returned v/\xA w' v (ls[l].drop 2)/\Below w.heap.size w w':=by
 have H:=h.top;obtain⟨L,c,I,d⟩:=h.row l A;obtain⟨b,o,rfl⟩:=d.qZ (by intro e;rw[e]at k;simp at k);have z:(l:Int) < (ls.length:Int):=by omega
 have x:IntKind.i64.wrap ((l:Int)+1-1)=l:=by rw[show (l:Int)+1-1=(l:Int) by omega];exact zl _ ⟨by omega,by omega⟩
 have y:IntKind.i64.wrap (l:Int)=l:=zl _ ⟨by omega,by omega⟩;obtain⟨D,J,i,j⟩:=d.form;simp at i;obtain⟨rfl,rfl⟩:=i;have F:=zD d;clear h d;generalize ls[l]=t at *;go_enter func117,ntmps117;go_wp2_with fail
 all_goals
  go_ret;exact⟨_,rfl,by first | exact xA.gone (by omega) rfl | exact F.u.drop 2 _ _ rfl (by omega),zI _ _⟩
theorem wL {v:Value} (y:xA w v t) (L:t.length<=1000):Calls Tryz.prog 140 #[v] w fun e w'=>e=.returned (.bool (VN t))/\Below w.heap.size w w':=by
 obtain⟨H,cap,rfl,F⟩:=y.form;have HN:=zD y;clear y;go_enter func140,ntmps140;go_wp2;go_loopw [3] (fun i wr=>∃k f:Nat,k+f=t.length/\i=.int .i64 k/\Rf.twiceFrom t f k=VN t/\xA wr (.slice H t.length cap) t/\Below w.heap.size w wr) (fun i _=>t.length-(intOf i).toNat)
 case atStart=>exact⟨0,t.length,by omega,rfl,rfl,HN.u,zI _ _⟩
 case round=>
  obtain⟨k,f,M,rfl,G,z,h⟩:=hrel;have j:=qG z h;have HT:=zD G;clear h G;cases f with
  | zero=>
   have d:¬(k:Int) < (t.length:Int):=by omega
   go_wp2;go_ret;exact⟨by rw[<-HT.u];rfl,j.u.2⟩
  | succ f=>
   have d:k < t.length:=by omega
   have A:(k:Int) < (t.length:Int):=by omega
   obtain⟨b,o,cap',D,N⟩:=z.cell d;simp at D;obtain⟨rfl,rfl⟩:=D;rw[Rf.twiceFrom,qq d]at HT;clear z;generalize t[k]=x at *;have J:(0:Int)<=(k:Int):=by omega
   have I:(k:Int)<=(cap:Int):=by omega
   go_wp2_with fail;go_region_with
    ((go_at_call 132;refine(cr x ((j.u.1.take k cap (by omega) (by omega)).zP (zh _)) (by simp;omega)).mono ?_;rintro e w1 ⟨rfl,rfl⟩))
   all_goals
    have HS1:=qG (j.u.1.zP (zh _)) (j.u.2.trans ((zh _).mono j.u.2.size));cases hz:kp (t.take k) x with
    | true=>
     rw[hz]at HT;go_wp2;go_ret;exact⟨by rw[<-HT.u];rfl,HS1.u.2⟩
    | false=>
     rw[hz,Ve]at HT;go_wp2_with fail;go_roundw
     case rel=>exact⟨k+1,f,by omega,by go_num,HT.u,HS1.u.1,HS1.u.2⟩
     case measure=>simp[intOf];omega
namespace Rf
def cellAt (t:List ByteArray) (i:Nat):Bool:=(ve t (i+1)).toList==[91]
def Vp (ls:List (List ByteArray)) (l:Nat):List ByteArray:=(xU ls (home ls (l+1)-1)).drop 2
def QK (ls:List (List ByteArray)) (l:Nat) (x:ByteArray) (cell:Bool):Bool:=
 if yg x=false then true
 else if kp (Vp ls l) x=true then !cell
 else if decl ls x=0 then false
 else if cell=true then ((first (xU ls (decl ls x-1))).toList==[97,114,114,97,121])else ((first (xU ls (decl ls x-1))).toList==[118,97,114])
theorem nN (ls:List (List ByteArray)):∀n,0 < home ls n->((first (xU ls (home ls n-1))).toList==[112,114,111,99])=true
 | 0,h=>by simp[home]at h
 | n+1,h=>by
  rw[Xy]at h ⊢;split
  ·rename_i hc;exact hc
  ·rename_i hc;rw[zA hc]at h;exact nN ls n h
end Rf
theorem A2 (l:Nat) (h:jA w S g cap ls) (f:l < ls.length) (d:ls.length<=100):Calls Tryz.prog 179 #[.pointer (some ⟨S,0,none⟩),.int .i64 ((l:Int)+1)] w fun e w'=>e=.returned (.int .i64 (Rf.home ls (l+1)))/\Below w.heap.size w w':=by
 have h:=C8 (l+1) h f d;rw[show ((l+1:Nat):Int)=(l:Int)+1 by omega]at h;exact h
theorem Aa (l i:Nat) (h:jA w S g cap ls) (hL:Lawful ls) (hl:l < ls.length) (hi:i < ls[l].length) (hh:Rf.yg ls[l][i]=true->0 < Rf.home ls (l+1)):Calls Tryz.prog 142 #[.pointer (some ⟨S,0,none⟩),.int .i64 ((l:Int)+1),.int .i64 i] w fun e w'=>e=.returned (.bool (QK ls l ls[l][i] (Rf.cellAt ls[l] i)))/\Below w.heap.size w w':=by
 have G:=hL.len;have HL:=zD hL;have HH:=zD h;have hf:=hL.XO hl;have b7:=hf.1;have cT:=h.top;obtain⟨ad,c,cR,hv⟩:=h.row l hl;obtain⟨b,o,rfl⟩:=hv.qZ (by intro e;rw[e]at hi;simp at hi);have b8:(l:Int) < (ls.length:Int):=by omega
 have b5:IntKind.i64.wrap ((l:Int)+1-1)=l:=by rw[show (l:Int)+1-1=(l:Int) by omega];exact zl _ ⟨by omega,by omega⟩
 have b6:IntKind.i64.wrap (l:Int)=l:=zl _ ⟨by omega,by omega⟩;obtain⟨b',o',cap',U,cx⟩:=hv.cell hi;simp at U;obtain⟨⟨rfl,rfl⟩,rfl⟩:=U;have HV:=zD hv;have a8:ls[l][i].size<=maxLen:=by have:=hf.2 _ (zj hi);unfold maxLen;omega
 have HC:Hd (∀w',xA w' (.slice (some ⟨b,o,none⟩) ls[l].length c) ls[l]->w'.cell? ⟨b,o+i,none⟩=some (.string ls[l][i])):=zD (by
  intro w' h;obtain⟨b',o',cap',U,c0⟩:=h.cell hi;simp at U;obtain⟨⟨rfl,rfl⟩,rfl⟩:=U;exact c0)
 have A:Hd (∀(hj:i+1 < ls[l].length) w',xA w' (.slice (some ⟨b,o,none⟩) ls[l].length c) ls[l]->w'.cell? ⟨b,o+(i+1),none⟩=some (.string ls[l][i+1])):=zD (by
  intro hj w' h;obtain⟨b',o',cap',U,c0⟩:=h.cell hj;simp at U;obtain⟨⟨rfl,rfl⟩,rfl⟩:=U;exact c0)
 have W:=zD (show ∀hj:i+1 < ls[l].length,Rf.cellAt ls[l] i=(ls[l][i+1].toList==[91])from fun hj=>by rw[Rf.cellAt,qq hj]);have V:=zD (show ¬i+1 < ls[l].length->Rf.cellAt ls[l] i=false from fun hj=>by
  have e:ve ls[l] (i+1)=⟨#[]⟩:=by simp[ve,xt (show ls[l].length<=i+1 by omega)]
  rw[Rf.cellAt,e];simp)
 have b9:(i:Int) < (ls[l].length:Int):=by omega
 have b3:=zD hh;clear h hL hf hv hh;generalize ls[l][i]=x at *;generalize ls[l]=t at *;generalize hR:QK ls l x (Rf.cellAt t i)=R;have HR:=zD hR;clear hR;go_enter func142,ntmps142;go_wp2_with fail;refine(XJ x a8).mono ?_;rintro e w1 ⟨rfl,N⟩;have L:=qG (HH.u.zP N) N;have b2:=zD (HV.u.zP N);clear N cT cR cx;cases hnm:Rf.yg x with
 | false=>
  have F:=zD (show R=true by rw[<-HR.u,QK,zE hnm]);go_wp2;go_ret;exact⟨by rw[F.u];rfl,L.u.2⟩
 | true=>
  have F:=zD (show R=if kp (Vp ls l) x=true then !(Rf.cellAt t i)else if Rf.decl ls x=0 then false else if Rf.cellAt t i=true then ((Rf.first (xU ls (Rf.decl ls x-1))).toList==[97,114,114,97,121])else ((Rf.first (xU ls (Rf.decl ls x-1))).toList==[118,97,114]) by
   rw[<-HR.u,QK,zA (by rw[hnm];simp)])
  clear HR;have T:=b3.u hnm;have a9:=tN ls (l+1);have Z:=nN ls (l+1) T;obtain⟨p,hp⟩:∃p,Rf.home ls (l+1)=p+1:=⟨Rf.home ls (l+1)-1,by omega⟩;have D:p < ls.length:=by omega
  rw[hp,zu,yq D]at Z;have b0:2<=ls[p].length:=HL.u.top _ (zj D) (by unfold Xl;rw[Z];simp);have a6:=HL.u.XO D;have HP:=zD (show Vp ls l=ls[p].drop 2 by rw[Vp,hp,zu,yq D]);have a5:=a6.1;have b1:=zD hp;clear T Z a6 a9 hp;go_wp2_with (go_at_call 179;refine(A2 l L.u.1 hl G).mono ?_;rintro e w2 ⟨rfl,M⟩;rw[b1.u]);have O:=qG (L.u.1.zP M) (L.u.2.trans (M.mono L.u.2.size));have a2:=zD (b2.u.zP M);have cx:=HC.u _ a2.u;clear M;go_region_held3 (fun w'=>w'.cell? ⟨b,o+i,none⟩=some (.string x)) (first | go_keep | exact HC.u _ (a2.u.zP (yh hb3))) (first | (go_at_call 117;refine(Jd p (O.u.1.zP (zh _)) D G b0 a5).mono ?_;rintro e w3 ⟨v3,rfl,a4,hb3⟩)| (go_at_call 132;refine(cr x a4 (by simp;omega)).mono ?_;rintro e w4 ⟨rfl,rfl⟩));have H:=yh hb3;have f:=qG (O.u.1.zP H) (O.u.2.trans (H.mono O.u.2.size));have a1:=zD (a2.u.zP H);rw[HP.u]at F;clear hb3 H a4 cx;have b4:IntKind.i64.wrap ((i:Int)+1)=(i:Int)+1:=zl _ ⟨by omega,by omega⟩;generalize kp (ls[p].drop 2) x=pb at *;cases pb with
  | true=>
   rw[zE rfl]at F;by_cases hj:i+1 < t.length
   ·have I:(i:Int)+1 < (t.length:Int):=by omega
    have cy:=A.u hj _ a1.u;rw[W.u hj]at F;generalize t[i+1]=y at *;clear W V A;go_wp2_with fail
    all_goals
     go_ret;exact⟨by rw[F.u];exact yj (by simp_all),f.u.2⟩
   ·have I:¬(i:Int)+1 < (t.length:Int):=by omega
    rw[V.u hj]at F;clear W V A;go_wp2_with fail
    all_goals
     go_ret;exact⟨by rw[F.u];exact yj (by simp_all),f.u.2⟩
  | false=>
   rw[zA (by decide)]at F;have d1:=Qb ls x;cases hd:Rf.decl ls x with
   | zero=>
    rw[hd,zE rfl]at F;by_cases hj:i+1 < t.length
    ·have I:(i:Int)+1 < (t.length:Int):=by omega
     have cy:=A.u hj _ a1.u;generalize t[i+1]=y at *;clear W V A;go_wp2_with (go_at_call 84;refine(qg x f.u.1 HL.u).mono ?_;rintro e w5 ⟨rfl,j⟩;rw[hd];have k:=zD (f.u.2.trans (j.mono f.u.2.size));clear j)
     all_goals
      go_ret;exact⟨by rw[F.u];rfl,k.u⟩
    ·have I:¬(i:Int)+1 < (t.length:Int):=by omega
     clear W V A;go_wp2_with (go_at_call 84;refine(qg x f.u.1 HL.u).mono ?_;rintro e w5 ⟨rfl,j⟩;rw[hd];have k:=zD (f.u.2.trans (j.mono f.u.2.size));clear j)
     all_goals
      go_ret;exact⟨by rw[F.u];rfl,k.u⟩
   | succ d=>
    have a0:d < ls.length:=by omega
    rw[hd,zA (by omega),zu,yq a0]at F;have d0:(((d+1:Nat):Int)==0)=false:=by rw[zV];omega
    have a7:((d+1:Nat):Int)=(d:Int)+1:=by omega
    by_cases hj:i+1 < t.length
    ·have I:(i:Int)+1 < (t.length:Int):=by omega
     have cy:=A.u hj _ a1.u;rw[W.u hj]at F;generalize t[i+1]=y at *;clear W V A;go_wp2_with (first | (go_at_call 84;refine(qg x f.u.1 HL.u).mono ?_;rintro e w5 ⟨rfl,j⟩;rw[hd,a7];have k:=qG (f.u.1.zP j) (f.u.2.trans (j.mono f.u.2.size));clear j)| (go_at_call 45;refine(xz d k.u.1 a0 G).mono ?_;rintro e w6 ⟨rfl,J⟩;have a3:=zD (k.u.2.trans (J.mono k.u.2.size));clear J;generalize Rf.first ls[d]=z at *))
     all_goals
      go_ret;exact⟨by rw[F.u];exact yj (by simp_all),a3.u⟩
    ·have I:¬(i:Int)+1 < (t.length:Int):=by omega
     rw[V.u hj]at F;clear W V A;go_wp2_with (first | (go_at_call 84;refine(qg x f.u.1 HL.u).mono ?_;rintro e w5 ⟨rfl,j⟩;rw[hd,a7];have k:=qG (f.u.1.zP j) (f.u.2.trans (j.mono f.u.2.size));clear j)| (go_at_call 45;refine(xz d k.u.1 a0 G).mono ?_;rintro e w6 ⟨rfl,J⟩;have a3:=zD (k.u.2.trans (J.mono k.u.2.size));clear J;generalize Rf.first ls[d]=z at *))
     all_goals
      go_ret;exact⟨by rw[F.u];exact yj (by simp_all),a3.u⟩
namespace Rf
def Xr (ls:List (List ByteArray)) (t:List ByteArray):Bool:=
 if decl ls (ve t 1)=0 then false
 else if ((first (xU ls (decl ls (ve t 1)-1))).toList==[112,114,111,99])=false then false
 else decide ((parts (t.drop 2)).length=((xU ls (decl ls (ve t 1)-1)).drop 2).length)
end Rf
theorem tj (l:Nat) (h:jA w S g cap ls) (T:Lawful ls) (hl:l < ls.length) (h2:2<=ls[l].length):Calls Tryz.prog 141 #[.pointer (some ⟨S,0,none⟩),.int .i64 ((l:Int)+1)] w fun e w'=>e=.returned (.bool (Xr ls ls[l]))/\Below w.heap.size w w':=by
 have D:=T.len;have HL:=zD T;have HH:=zD h;have V:=T.XO hl;have HF:=zD V;have a7:=V.1;have cT:=h.top;obtain⟨ad,c,cR,J⟩:=h.row l hl;obtain⟨b,o,rfl⟩:=J.qZ (by intro e;rw[e]at h2;simp at h2);have a8:(l:Int) < (ls.length:Int):=by omega
 have a5:IntKind.i64.wrap ((l:Int)+1-1)=l:=by rw[show (l:Int)+1-1=(l:Int) by omega];exact zl _ ⟨by omega,by omega⟩
 have a6:IntKind.i64.wrap (l:Int)=l:=zl _ ⟨by omega,by omega⟩;have h1:1 < ls[l].length:=by omega
 obtain⟨b',o',cap',M,cx⟩:=J.cell h1;simp at M;obtain⟨⟨rfl,rfl⟩,rfl⟩:=M;obtain⟨b3,c',M,a3⟩:=J.form;simp at M;obtain⟨rfl,rfl⟩:=M;have HV:=zD J;have HA:=zD (qq h1);have b4:=zD (aQ (ls[l].drop 2));generalize Z:Xr ls ls[l]=R;rw[Xr,HA.u]at Z;have H:=zD Z;clear h T V J HA Z;generalize ls[l][1]=x at *;generalize ls[l]=t at *;have b0:(1:Int) < (t.length:Int):=by omega
 go_enter func141,ntmps141;go_wp2_with fail;refine(qg x HH.u HL.u).mono ?_;rintro e w1 ⟨rfl,y⟩;have j:=qG (HH.u.zP y) y;have a1:=zD (HV.u.zP y);clear y cT cR cx;have a9:=Qb ls x;cases hd:Rf.decl ls x with
 | zero=>
  rw[hd,zE rfl]at H;go_wp2;go_ret;exact⟨by rw[<-H.u];rfl,j.u.2⟩
 | succ d=>
  have i:d < ls.length:=by omega
  rw[hd,zA (by omega),zu,yq i]at H;have W:(((d+1:Nat):Int)==0)=false:=by rw[zV];omega
  have N:((d+1:Nat):Int)=(d:Int)+1:=by omega
  rw[N]at W ⊢;clear N;have HZ:=zD (show ((Rf.first ls[d]).toList==[112,114,111,99])=true->2<=ls[d].length from fun hz=>HL.u.top _ (zj i) (by unfold Xl;rw[hz];simp));have L:=(HL.u.XO i).1;go_wp2_with fail;refine(xz d j.u.1 i D).mono ?_;rintro e w2 ⟨rfl,k⟩;have A:=qG (j.u.1.zP k) (j.u.2.trans (k.mono j.u.2.size));have a0:=zD (a1.u.zP k);clear k;generalize Rf.first ls[d]=z at *;cases hz:(z.toList==[112,114,111,99])with
  | false=>
   rw[hz,zE rfl]at H;go_wp2;go_ret;exact⟨by rw[<-H.u];rfl,A.u.2⟩
  | true=>
   rw[hz,zA (by decide)]at H;have U:=HZ.u hz;go_wp2_with fail
   all_goals
    refine(cY (by first | exact xA.gone (by omega) (by omega)| exact a0.u.drop 2 _ _ rfl (by omega)) (HF.u.drop 2)).mono ?_;rintro e w3 ⟨F,v3,a4,rfl,f,_⟩;have G:=qG (A.u.1.zP F) (A.u.2.trans (F.mono A.u.2.size));obtain⟨b2,c3,rfl⟩:=zK f;clear F f;go_wp2_with fail;refine(Jd d G.u.1 i D U L).mono ?_;rintro e w4 ⟨v4,rfl,I,O⟩;have a2:=zD (G.u.2.trans (O.mono G.u.2.size));obtain⟨b1,c4,rfl,_⟩:=I.form;clear O I;go_wp2;go_ret;exact⟨by rw[<-H.u];exact yj (by rw[xO];simp;omega),a2.u⟩
end Go.Proofs.YthleadfkfnnadaaGreat
