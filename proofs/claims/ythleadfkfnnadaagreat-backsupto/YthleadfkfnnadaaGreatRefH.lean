/- The document's answer: lines with names that may stand there, continued. -/
import Derived.Test.YthleadfkfnnadaaGreatRefF
set_option maxHeartbeats 4000000
set_option maxRecDepth 100000
set_option linter.unusedSimpArgs false
namespace Go.Proofs.YthleadfkfnnadaaGreat
open Rf Go.Proofs.Tryz
open Go.RowKit
variable {ls:List (List ByteArray)} {S g cap l:Nat} {w:World}
namespace Rf
def namesFrom (ls:List (List ByteArray)) (l:Nat) (t:List ByteArray):Nat->Nat->Bool
 | 0,_=>true
 | f+1,k=>QK ls l (ve t k) (cellAt t k) && namesFrom ls l t f (k+1)
def uT (ls:List (List ByteArray)) (l:Nat) (t:List ByteArray):Bool:=
 decide (decl ls (ve t 1)=l+1) && !VN (t.drop 2) && (!((ve t 1).toList==[109,97,105,110])|| decide (t.length=2))
def jZ (ls:List (List ByteArray)) (l:Nat) (t:List ByteArray):Bool:=
 if ((first t).toList==[118,97,114])=true then decide (decl ls (ve t 1)=l+1)
 else if ((first t).toList==[97,114,114,97,121])=true then decide (decl ls (ve t 1)=l+1)
 else if ((first t).toList==[112,114,111,99])=true then uT ls l t
 else if ((first t).toList==[99,97,108,108])=true then Xr ls t && namesFrom ls l t (t.length-2) 2
 else namesFrom ls l t (t.length-1) 1
end Rf
structure nh (ls:List (List ByteArray)) (l:Nat) (hl:l < ls.length):Prop where
 home:Xl ls[l]=false->∀i (h:i < ls[l].length),Rf.yg ls[l][i]=true->0 < Rf.home ls (l+1)
 call:((Rf.first ls[l]).toList==[99,97,108,108])=true->2<=ls[l].length
theorem fQ (l:Nat) (h:jA w S g cap ls) (k:Lawful ls) (A:l < ls.length) (hz:((Rf.first ls[l]).toList==[118,97,114])=true\/(((Rf.first ls[l]).toList==[118,97,114])=false/\((Rf.first ls[l]).toList==[97,114,114,97,121])=true)):Calls Tryz.prog 83 #[.pointer (some ⟨S,0,none⟩),.int .i64 ((l:Int)+1)] w fun e w'=>e=.returned (.bool (jZ ls l ls[l]))/\Below w.heap.size w w':=by
 have i:=k.len;have HL:=zD k;have J:=zD h;have V:=h.top;obtain⟨ad,c,W,y⟩:=h.row l A;have D:2<=ls[l].length:=k.top _ (zj A) (by unfold Xl;rcases hz with hz | ⟨_,hz⟩ <;> rw[hz] <;> simp);obtain⟨b,o,rfl⟩:=y.qZ (by intro e;rw[e]at D;simp at D);have T:(l:Int) < (ls.length:Int):=by omega
 have M:IntKind.i64.wrap ((l:Int)+1-1)=l:=by rw[show (l:Int)+1-1=(l:Int) by omega];exact zl _ ⟨by omega,by omega⟩
 have N:IntKind.i64.wrap (l:Int)=l:=zl _ ⟨by omega,by omega⟩;have I:1 < ls[l].length:=by omega
 have HC:Hd (∀w',xA w' (.slice (some ⟨b,o,none⟩) ls[l].length c) ls[l]->w'.cell? ⟨b,o+1,none⟩=some (.string ls[l][1])):=zD (by
  intro w' h;obtain⟨b',o',cap',G,Z⟩:=h.cell I;simp at G;obtain⟨⟨rfl,rfl⟩,rfl⟩:=G;exact Z)
 have HV:=zD y;have L:=zD (qq I);have H:jZ ls l ls[l]=decide (Rf.decl ls ls[l][1]=l+1):=by
  rw[<-L.u];rcases hz with hz | ⟨hz1,hz⟩
  ·rw[jZ,zE hz]
  ·rw[jZ,zA (by rw[hz1];simp),zE hz]
 have HR:=zD H;clear h k y L H;generalize jZ ls l ls[l]=R at *;go_enter func83,ntmps83;go_wp2_with fail;refine(xz l J.u A i).mono ?_;rintro e w1 ⟨rfl,d⟩;have f:=qG (J.u.zP d) d;have cx:=HC.u _ (HV.u.zP d);clear d V W;generalize ls[l][1]=x at *;generalize Rf.first ls[l]=z at *;have O:=zX (show 1 < 2 by omega) D;have U:(1:Int) < (ls[l].length:Int):=by omega
 rcases hz with hz | ⟨hz1,hz⟩
 all_goals
  go_wp2_with (go_at_call 84;refine(qg x f.u.1 HL.u).mono ?_;rintro e w2 ⟨rfl,j⟩;have F:=zD (f.u.2.trans (j.mono f.u.2.size));clear j);go_ret;exact⟨by rw[HR.u];exact yj (by rw[xO];simp;omega),F.u⟩
theorem rp (l:Nat) (h:jA w S g cap ls) (F:Lawful ls) (L:l < ls.length) (q1:((Rf.first ls[l]).toList==[118,97,114])=false) (q2:((Rf.first ls[l]).toList==[97,114,114,97,121])=false) (N:((Rf.first ls[l]).toList==[112,114,111,99])=true):Calls Tryz.prog 83 #[.pointer (some ⟨S,0,none⟩),.int .i64 ((l:Int)+1)] w fun e w'=>e=.returned (.bool (jZ ls l ls[l]))/\Below w.heap.size w w':=by
 have A:=F.len;have HL:=zD F;have W:=zD h;have cT:=h.top;have hf:=F.XO L;have a2:=hf.1;obtain⟨ad,c,cR,J⟩:=h.row l L;have U:2<=ls[l].length:=F.top _ (zj L) (by unfold Xl;rw[N];simp);obtain⟨b,o,rfl⟩:=J.qZ (by intro e;rw[e]at U;simp at U);obtain⟨a5,c',D,O⟩:=J.form;simp at D;obtain⟨rfl,rfl⟩:=D;have a3:(l:Int) < (ls.length:Int):=by omega
 have a0:IntKind.i64.wrap ((l:Int)+1-1)=l:=by rw[show (l:Int)+1-1=(l:Int) by omega];exact zl _ ⟨by omega,by omega⟩
 have a1:IntKind.i64.wrap (l:Int)=l:=zl _ ⟨by omega,by omega⟩;have V:1 < ls[l].length:=by omega
 have Z:Hd (∀w',xA w' (.slice (some ⟨b,o,none⟩) ls[l].length c) ls[l]->w'.cell? ⟨b,o+1,none⟩=some (.string ls[l][1])):=zD (by
  intro w' h;obtain⟨b',o',cap',D,c0⟩:=h.cell V;simp at D;obtain⟨⟨rfl,rfl⟩,rfl⟩:=D;exact c0)
 have HV:=zD J;have HA:=zD (qq V);have T:jZ ls l ls[l]=(decide (Rf.decl ls ls[l][1]=l+1) && !VN (ls[l].drop 2) && (!(ls[l][1].toList==[109,97,105,110])|| decide (ls[l].length=2))):=by
  rw[<-HA.u];rw[jZ,zA (by rw[q1];simp),zA (by rw[q2];simp),zE N,uT]
 have i:=zD T;clear h F J HA T;generalize jZ ls l ls[l]=R at *;go_enter func83,ntmps83;go_wp2_with fail;refine(xz (S:=S) (g:=g) (cap:=cap) (ls:=ls) l W.u L A).mono ?_;rintro e w1 ⟨rfl,d⟩;have y:=qG (W.u.zP d) d;have H:=zD (HV.u.zP d);have cx:=Z.u _ H.u;clear d cT cR;generalize ls[l][1]=x at *;generalize Rf.first ls[l]=z at *;generalize ls[l]=t at *;have a4:(1:Int) < (t.length:Int):=by omega
 go_wp2_with (go_at_call 84;refine(qg (S:=S) (g:=g) (cap:=cap) (ls:=ls) x y.u.1 HL.u).mono ?_;rintro e w2 ⟨rfl,k⟩;have G:=zD (H.u.zP k);have I:=zD (y.u.2.trans (k.mono y.u.2.size));clear k)
 all_goals
  refine(wL (t:=(t.drop 2)) (by first | exact xA.gone (by omega) (by omega)| exact G.u.drop 2 _ _ rfl (by omega)) (by simp;omega)).mono ?_;rintro e w3 ⟨rfl,j⟩;have f:=zD (I.u.trans (j.mono I.u.size));have cy:=Z.u _ (G.u.zP j);clear j cx;generalize VN (t.drop 2)=tw at *;by_cases hd:Rf.decl ls x=l+1
  ·have M:((Rf.decl ls x:Int)==(l:Int)+1)=true:=by rw[xw];omega
   rw[qA hd]at i;cases tw with
   | true=>
    go_wp2;go_ret;exact⟨by rw[i.u];rfl,f.u⟩
   | false=>
    cases hm:(x.toList==[109,97,105,110])with
    | true=>
     rw[hm]at i;go_wp2_with fail
     all_goals
      go_ret;exact⟨by rw[i.u];exact yj (by rw[xO];simp;omega),f.u⟩
    | false=>
     rw[hm]at i;go_wp2_with fail
     all_goals
      go_ret;exact⟨by rw[i.u];rfl,f.u⟩
  ·have M:((Rf.decl ls x:Int)==(l:Int)+1)=false:=by rw[zV];omega
   rw[qP hd]at i;go_wp2_with fail
   all_goals
    go_ret;exact⟨by rw[i.u];rfl,f.u⟩
theorem fw (l i:Nat) (t:List ByteArray) (h:jA w S g cap ls) (o:Lawful ls) (f:l < ls.length) (d:ls[l]=t) (j:i < t.length) (k:Rf.yg t[i]=true->0 < Rf.home ls (l+1)):Calls Tryz.prog 142 #[.pointer (some ⟨S,0,none⟩),.int .i64 ((l:Int)+1),.int .i64 i] w fun e w'=>e=.returned (.bool (QK ls l t[i] (Rf.cellAt t i)))/\Below w.heap.size w w':=by
 subst d;exact Aa l i h o f j k
theorem oC (h:jA w S g cap ls) (I:Lawful ls) (D:l < ls.length) (y:nh ls l D) (M:((Rf.first ls[l]).toList==[118,97,114])=false) (L:((Rf.first ls[l]).toList==[97,114,114,97,121])=false) (J:((Rf.first ls[l]).toList==[112,114,111,99])=false) (U:((Rf.first ls[l]).toList==[99,97,108,108])=false):Calls Tryz.prog 83 #[.pointer (some ⟨S,0,none⟩),.int .i64 ((l:Int)+1)] w fun e w'=>e=.returned (.bool (jZ ls l ls[l]))/\Below w.heap.size w w':=by
 have A:=I.len;have HL:=zD I;have HH:=zD h;have cT:=h.top;have hf:=I.XO D;have a2:=hf.1;obtain⟨ad,c,cR,hv⟩:=h.row l D;have a3:(l:Int) < (ls.length:Int):=by omega
 have a0:IntKind.i64.wrap ((l:Int)+1-1)=l:=by rw[show (l:Int)+1-1=(l:Int) by omega];exact zl _ ⟨by omega,by omega⟩
 have a1:IntKind.i64.wrap (l:Int)=l:=zl _ ⟨by omega,by omega⟩;have d:=y.home (by unfold Xl;rw[M,L,J];rfl);have O:=zD d;have hR:jZ ls l ls[l]=Rf.namesFrom ls l ls[l] (ls[l].length-1) 1:=by
  rw[jZ,zA (by rw[M];simp),zA (by rw[L];simp),zA (by rw[J];simp),zA (by rw[U];simp)]
 have HR:=zD hR;have T:=zD (show ∀k (hk:k < ls[l].length),ve ls[l] k=ls[l][k]from fun k hk=>qq hk);clear h I hv hR d y;generalize jZ ls l ls[l]=R at *;go_enter func83,ntmps83;go_wp2_with fail;refine(xz l HH.u D A).mono ?_;rintro e w1 ⟨rfl,x⟩;have HS1:=qG (HH.u.zP x) x;clear x cT cR;have HQ:=gN M L J U;generalize Rf.first ls[l]=z at *;go_wp2_with fail;generalize G:ls[l]=t at *;have N:=zD G;clear G;go_loopw [10] (fun i wr=>∃k f:Nat,1<=k/\(k+f=t.length\/(f=0/\t.length<=k))/\k<=1000/\i=.int .i64 k/\Rf.namesFrom ls l t f k=R/\jA wr S g cap ls/\Below w.heap.size w wr) (fun i _=>t.length-(intOf i).toNat)
 case atStart=>exact⟨1,t.length-1,zB _,by omega,by omega,rfl,HR.u.symm,HS1.u.1,HS1.u.2⟩
 case round=>
  obtain⟨k,f,a5,hk,a4,rfl,Z,V,F⟩:=hrel;have H:=qG V F;have HT:=zD Z;clear V F Z;cases f with
  | zero=>
   have j:¬(k:Int) < (t.length:Int):=by omega
   go_wp2;go_ret;exact⟨by rw[<-HT.u];rfl,H.u.2⟩
  | succ f=>
   have j:k < t.length:=by omega
   have W:(k:Int) < (t.length:Int):=by omega
   rw[Rf.namesFrom,T.u k j]at HT;go_wp2_with fail;refine(fw l k t H.u.1 HL.u D N.u j (O.u k j)).mono ?_;rintro e w2 ⟨rfl,o⟩;have HS2:=qG (H.u.1.zP o) (H.u.2.trans (o.mono H.u.2.size));clear o;cases hz:QK ls l t[k] (Rf.cellAt t k)with
   | false=>
    rw[hz]at HT;go_wp2;go_ret;exact⟨by rw[<-HT.u];rfl,HS2.u.2⟩
   | true=>
    rw[hz,Vd]at HT;go_wp2_with fail;go_roundw
    case rel=>exact⟨k+1,f,by omega,by omega,by omega,by go_num,HT.u,HS2.u.1,HS2.u.2⟩
    case measure=>simp[intOf];omega
theorem rq (h:jA w S g cap ls) (L:Lawful ls) (F:l < ls.length) (x:nh ls l F) (T:((Rf.first ls[l]).toList==[118,97,114])=false) (O:((Rf.first ls[l]).toList==[97,114,114,97,121])=false) (N:((Rf.first ls[l]).toList==[112,114,111,99])=false) (M:((Rf.first ls[l]).toList==[99,97,108,108])=true):Calls Tryz.prog 83 #[.pointer (some ⟨S,0,none⟩),.int .i64 ((l:Int)+1)] w fun e w'=>e=.returned (.bool (jZ ls l ls[l]))/\Below w.heap.size w w':=by
 have G:=L.len;have HL:=zD L;have HH:=zD h;have cT:=h.top;have hf:=L.XO F;have a3:=hf.1;obtain⟨ad,c,cR,hv⟩:=h.row l F;have a4:(l:Int) < (ls.length:Int):=by omega
 have a1:IntKind.i64.wrap ((l:Int)+1-1)=l:=by rw[show (l:Int)+1-1=(l:Int) by omega];exact zl _ ⟨by omega,by omega⟩
 have a2:IntKind.i64.wrap (l:Int)=l:=zl _ ⟨by omega,by omega⟩;have h2:=x.call M;have d:=x.home (by unfold Xl;rw[T,O,N];rfl);have V:=zD d;have hR:jZ ls l ls[l]=(Xr ls ls[l] && Rf.namesFrom ls l ls[l] (ls[l].length-2) 2):=by
  rw[jZ,zA (by rw[T];simp),zA (by rw[O];simp),zA (by rw[N];simp),zE M]
 have HR:=zD hR;have Z:=zD (show ∀k (hk:k < ls[l].length),ve ls[l] k=ls[l][k]from fun k hk=>qq hk);clear h L hv hR d x;generalize jZ ls l ls[l]=R at *;go_enter func83,ntmps83;go_wp2_with fail;refine(xz l HH.u F G).mono ?_;rintro e w1 ⟨rfl,D⟩;have o:=qG (HH.u.zP D) D;clear D cT cR;have HQ:=gN T O N M;generalize Rf.first ls[l]=z at *;have W:=zD h2;go_wp2_with fail;refine(tj l o.u.1 HL.u F W.u).mono ?_;rintro e w2 ⟨rfl,A⟩;have HS2:=qG (o.u.1.zP A) (o.u.2.trans (A.mono o.u.2.size));clear A;cases hc:Xr ls ls[l]with
 | false=>
 rw[hc]at HR;go_wp2;go_ret;exact⟨by rw[HR.u];rfl,HS2.u.2⟩
 | true=>
 rw[hc,Vd]at HR;clear hc;go_wp2_with fail;generalize I:ls[l]=t at *;have U:=zD I;clear I;go_loopw [10] (fun i wr=>∃k f:Nat,2<=k/\(k+f=t.length\/(f=0/\t.length<=k))/\k<=1000/\i=.int .i64 k/\Rf.namesFrom ls l t f k=R/\jA wr S g cap ls/\Below w.heap.size w wr) (fun i _=>t.length-(intOf i).toNat)
 case atStart=>exact⟨2,t.length-2,zB _,by omega,by omega,rfl,HR.u.symm,HS2.u.1,HS2.u.2⟩
 case round=>
  obtain⟨k,f,a6,hk,a5,rfl,hT,hs,H⟩:=hrel;have J:=qG hs H;have HT:=zD hT;clear hs H hT;cases f with
  | zero=>
   have j:¬(k:Int) < (t.length:Int):=by omega
   go_wp2;go_ret;exact⟨by rw[<-HT.u];rfl,J.u.2⟩
  | succ f=>
   have j:k < t.length:=by omega
   have a0:(k:Int) < (t.length:Int):=by omega
   rw[Rf.namesFrom,Z.u k j]at HT;go_wp2_with fail;refine(fw l k t J.u.1 HL.u F U.u j (V.u k j)).mono ?_;rintro e w3 ⟨rfl,y⟩;have HS3:=qG (J.u.1.zP y) (J.u.2.trans (y.mono J.u.2.size));clear y;cases hz:QK ls l t[k] (Rf.cellAt t k)with
   | false=>
    rw[hz]at HT;go_wp2;go_ret;exact⟨by rw[<-HT.u];rfl,HS3.u.2⟩
   | true=>
    rw[hz,Vd]at HT;go_wp2_with fail;go_roundw
    case rel=>exact⟨k+1,f,by omega,by omega,by omega,by go_num,HT.u,HS3.u.1,HS3.u.2⟩
    case measure=>simp[intOf];omega
theorem wi (h:jA w S g cap ls) (i:Lawful ls) (d:l < ls.length) (f:nh ls l d):Calls Tryz.prog 83 #[.pointer (some ⟨S,0,none⟩),.int .i64 ((l:Int)+1)] w fun e w'=>e=.returned (.bool (jZ ls l ls[l]))/\Below w.heap.size w w':=by
 by_cases q1:((Rf.first ls[l]).toList==[118,97,114])=true
 ·exact fQ l h i d (Or.inl q1)
 replace q1:=yL.mpr q1
 by_cases q2:((Rf.first ls[l]).toList==[97,114,114,97,121])=true
 ·exact fQ l h i d (Or.inr ⟨q1,q2⟩)
 replace q2:=yL.mpr q2
 by_cases q3:((Rf.first ls[l]).toList==[112,114,111,99])=true
 ·exact rp l h i d q1 q2 q3
 replace q3:=yL.mpr q3
 by_cases q4:((Rf.first ls[l]).toList==[99,97,108,108])=true
 ·exact rq h i d f q1 q2 q3 q4
 exact oC h i d f q1 q2 q3 (yL.mpr q4)
end Go.Proofs.YthleadfkfnnadaaGreat
