/- The walks of the readers of lines. -/
import Derived.Test.YthleadfkfnnadaaGreatReadd
set_option maxHeartbeats 4000000
set_option maxRecDepth 100000
set_option linter.unusedSimpArgs false
namespace Go.Proofs.YthleadfkfnnadaaGreat
open Go.Proofs.Tryz
open Go.RowKit
variable {lo hi:Int} {ts:List Rt.Tk} {n R g n1 f N i:Nat} {tot:Rt.JX} {tv ov:Value} {w:World}
def Reads (f:Nat) (fn:FuncId) (spec:List Rt.Tk->Rt.JX):Prop:=
 ∀(w:World) (R:Nat) (tv:Value) (ts:List Rt.Tk) (n:Nat) (ov:Value) (ops:List qM),kC w R tv ts n ov ops->(∀t∈ts,t.text.size<=40000)->ts.length-n<=f->
  Calls Tryz.prog fn #[.pointer (some ⟨R,0,none⟩)] w fun e w'=>
   (∃em n' ov',spec (ts.drop n)=some (em,ts.drop n')/\e=.returned (.bool true)/\em.length+n<=n'/\n < n'/\kC w' R tv ts n' ov' (ops++em)/\ZJ R ov ov' w w')\/
   (spec (ts.drop n)=none/\e=.returned (.bool false)/\∃ov',ZJ R ov ov' w w')
theorem ql (h:n < ts.length):ts.drop n=ts[n]::ts.drop (n+1):=zZ h
theorem vW (h:¬n < ts.length):ts.drop n=[]:=zp (by omega)
theorem kC.quiet {ops:List qM} (d:kC w R tv ts n ov ops) (q:Nat):kC (w.drewN q) R tv ts n ov ops/\ZJ R ov ov w (w.drewN q):=
 d.zP (below_drewN w q)
theorem pD {pf:List Rt.Tk->Rt.JX} {em:List qM} (h:Rt.Yb em (Rt.pLoop pf lo hi (g+1) (ts.drop n1))=tot) (d:¬n1 < ts.length):tot=some (em,ts.drop n1):=by
 rw[<-h,vW d];simp[Rt.pLoop,Rt.Yb]
theorem lY {pf:List Rt.Tk->Rt.JX} {em:List qM} (h:Rt.Yb em (Rt.pLoop pf lo hi (g+1) (ts.drop n1))=tot) (d:n1 < ts.length) (f:Rt.yI ts[n1].text < lo\/hi < Rt.yI ts[n1].text):tot=some (em,ts.drop n1):=by
 rw[<-h,ql d,Rt.pLoop,zA (by omega)];simp[Rt.Yb]
theorem lZ {pf:List Rt.Tk->Rt.JX} {em:List qM} (h:Rt.Yb em (Rt.pLoop pf lo hi (g+1) (ts.drop n1))=tot) (f:n1 < ts.length) (j:lo<=Rt.yI ts[n1].text) (i:Rt.yI ts[n1].text<=hi) (d:pf (ts.drop (n1+1))=none):tot=none:=by
 rw[<-h,ql f,Rt.pLoop,zE ⟨j,i⟩,d];simp[Rt.Yb]
theorem lb {pf:List Rt.Tk->Rt.JX} {n2:Nat} {em em2:List qM} (h:Rt.Yb em (Rt.pLoop pf lo hi (g+1) (ts.drop n1))=tot) (f:n1 < ts.length) (j:lo<=Rt.yI ts[n1].text) (i:Rt.yI ts[n1].text<=hi) (d:pf (ts.drop (n1+1))=some (em2,ts.drop n2)):Rt.Yb (em++em2++[⟨Rt.yI ts[n1].text,0,⟨#[]⟩⟩]) (Rt.pLoop pf lo hi g (ts.drop n2))=tot:=by
 rw[<-h,ql f,Rt.pLoop,zE ⟨j,i⟩,d];cases hq:Rt.pLoop pf lo hi g (ts.drop n2)with
 | none=>simp[Rt.Yb,hq]
 | some x=>simp[Rt.Yb,hq]
theorem ns (hf:Reads f 229 (Rt.yV f)):Reads f 227 (Rt.VQ (Rt.yV f)):=by
 intro w R tv ts n ov W Z H a1;have M:=zD H;clear H;have a6:=Z.VJ;go_enter func227,ntmps227;go_wp2_with fail;refine(hf _ _ _ _ _ _ _ Z M.u a1).mono ?_;rintro e w1 (⟨em,n1,ov1,I,rfl,hlen,hlt,hr1,hfr1⟩| ⟨I,rfl,ov1,hfr1⟩)
 ·have hT:Rt.Yb em (Rt.pLoop (Rt.yV f) 7 9 25 (ts.drop n1))=Rt.VQ (Rt.yV f) (ts.drop n):=by
   unfold Rt.VQ Rt.Xa;rw[I]
  have L:=hr1.le;go_wp2_with fail;go_loopg [3] (ts.length-n1) (fun k _ wr=>∃(n2:Nat) (ov2:Value) (em2:List qM) (g:Nat),k=ts.length-n2/\k < g/\n < n2/\em2.length+n<=n2/\
   Rt.Yb em2 (Rt.pLoop (Rt.yV f) 7 9 g (ts.drop n2))=Rt.VQ (Rt.yV f) (ts.drop n)/\kC wr R tv ts n2 ov2 (W++em2)/\ZJ R ov ov2 w wr)
  case atStart=>exact⟨n1,ov1,em,25,rfl,by omega,hlt,hlen,hT,hr1,hfr1⟩
  case round=>
   clear hT hr1 hfr1 I hlen hlt L;obtain⟨n2,ov2,em2,g,hk,hg,hlt,hlen,hT,i,h⟩:=hrel;have U:=zD hT;have HK:=zD hk;clear hT hk;obtain⟨g,rfl⟩:∃g',g=g'+1:=⟨g-1,by omega⟩;have a5:=i.le;have a2:=Z.YH;by_cases hn:n2 < ts.length
   ·have T:decide (n2 < ts.length)=true:=by simpa using hn
    by_cases hx:Rt.yI ts[n2].text < 7\/9 < Rt.yI ts[n2].text
    ·have HE:=zD (lY U.u hn hx);go_wp2_with fail;refine(QL i).mono ?_;rintro e w2 ⟨rfl,q,rfl⟩;rw[T];obtain⟨o,d⟩:=i.quiet q;go_wp2_with fail;refine(KW o hn hx).mono ?_;rintro e w3 ⟨rfl,q2,rfl⟩;obtain⟨z,j⟩:=o.quiet q2;have N:=zD z;have y:=zD (h.trans (d.trans j));clear z j o d i h;go_wp2;go_ret;exact Or.inl ⟨em2,n2,ov2,HE.u,rfl,hlen,hlt,N.u.same rfl,y.u.same rfl rfl rfl rfl⟩
    ·have h1:7<=Rt.yI ts[n2].text:=by omega
     have h2:Rt.yI ts[n2].text<=9:=by omega
     go_wp2_with fail;refine(QL i).mono ?_;rintro e w2 ⟨rfl,q,rfl⟩;rw[T];obtain⟨o,d⟩:=i.quiet q;go_wp2_with fail;refine(Jf o hn h1 h2).mono ?_;rintro e w3 ⟨rfl,z,j⟩;have hz:(Rt.yI ts[n2].text==0)=false:=by rw[zV];omega
     generalize D:Rt.yI ts[n2].text=code at *;have O:=zD D;clear D hx;go_wp2_with fail;refine(hf _ _ _ _ _ _ _ z M.u (by omega)).mono ?_;rintro e w4 (⟨em5,n5,V,A,rfl,a0,a3,F,x⟩| ⟨A,rfl,V,x⟩)
     ·have HN:=zD (lb U.u hn (by rw[O.u];exact h1) (by rw[O.u];exact h2) A);clear A;go_wp2_with fail;refine(XQ ⟨code,0,⟨#[]⟩⟩ F (by have:=F.YH;simp at this ⊢;omega)).mono ?_;rintro e w5 ⟨rfl,ov6,J,G⟩;have N:=zD J;have y:=zD (h.trans (d.trans (j.trans (x.trans G))));have a4:=F.le;clear i o z F J h d j x G;go_wp2_with fail;go_roundg (ts.length-n5)
      case measure=>have:=HK.u;omega
      case rel=>exact⟨n5,ov6,em2++em5++[⟨code,0,⟨#[]⟩⟩],g,rfl,by have:=HK.u;omega,by omega,by simp;omega,by have:=HN.u;rw[O.u]at this;exact this,by have:=N.u;simpa using this,y.u⟩
     ·have HN:=zD (lZ U.u hn (by rw[O.u];exact h1) (by rw[O.u];exact h2) A);clear A;have y:=zD (h.trans (d.trans (j.trans x)));clear i o z h d j x;go_wp2;go_ret;exact Or.inr ⟨HN.u,rfl,_,y.u⟩
   ·have HE:=zD (pD U.u hn);have T:decide (n2 < ts.length)=false:=by simpa using hn
    go_wp2_with fail;refine(QL i).mono ?_;rintro e w2 ⟨rfl,q,rfl⟩;rw[T];obtain⟨o,d⟩:=i.quiet q;have N:=zD o;have y:=zD (h.trans d);clear o d i h;go_wp2;go_ret;exact Or.inl ⟨em2,n2,ov2,HE.u,rfl,hlen,hlt,N.u.same rfl,y.u.same rfl rfl rfl rfl⟩
 ·have HS:=zD I;clear I;go_wp2;go_ret;exact Or.inr ⟨by simp[Rt.VQ,Rt.Xa,HS.u],rfl,_,hfr1⟩
theorem uM (hf:Reads f 227 (Rt.VQ (Rt.yV f))):Reads f 224 (Rt.VI (Rt.yV f)):=by
 intro w R tv ts n ov W Z H a1;have M:=zD H;clear H;have a6:=Z.VJ;go_enter func224,ntmps224;go_wp2_with fail;refine(hf _ _ _ _ _ _ _ Z M.u a1).mono ?_;rintro e w1 (⟨em,n1,ov1,I,rfl,hlen,hlt,hr1,hfr1⟩| ⟨I,rfl,ov1,hfr1⟩)
 ·have hT:Rt.Yb em (Rt.pLoop (Rt.VQ (Rt.yV f)) 5 6 25 (ts.drop n1))=Rt.VI (Rt.yV f) (ts.drop n):=by
   unfold Rt.VI Rt.Xa;rw[I]
  have L:=hr1.le;go_wp2_with fail;go_loopg [3] (ts.length-n1) (fun k _ wr=>∃(n2:Nat) (ov2:Value) (em2:List qM) (g:Nat),k=ts.length-n2/\k < g/\n < n2/\em2.length+n<=n2/\
   Rt.Yb em2 (Rt.pLoop (Rt.VQ (Rt.yV f)) 5 6 g (ts.drop n2))=Rt.VI (Rt.yV f) (ts.drop n)/\kC wr R tv ts n2 ov2 (W++em2)/\ZJ R ov ov2 w wr)
  case atStart=>exact⟨n1,ov1,em,25,rfl,by omega,hlt,hlen,hT,hr1,hfr1⟩
  case round=>
   clear hT hr1 hfr1 I hlen hlt L;obtain⟨n2,ov2,em2,g,hk,hg,hlt,hlen,hT,i,h⟩:=hrel;have U:=zD hT;have HK:=zD hk;clear hT hk;obtain⟨g,rfl⟩:∃g',g=g'+1:=⟨g-1,by omega⟩;have a5:=i.le;have a2:=Z.YH;by_cases hn:n2 < ts.length
   ·have T:decide (n2 < ts.length)=true:=by simpa using hn
    by_cases hx:Rt.yI ts[n2].text < 5\/6 < Rt.yI ts[n2].text
    ·have HE:=zD (lY U.u hn hx);go_wp2_with fail;refine(QL i).mono ?_;rintro e w2 ⟨rfl,q,rfl⟩;rw[T];obtain⟨o,d⟩:=i.quiet q;go_wp2_with fail;refine(KW o hn hx).mono ?_;rintro e w3 ⟨rfl,q2,rfl⟩;obtain⟨z,j⟩:=o.quiet q2;have N:=zD z;have y:=zD (h.trans (d.trans j));clear z j o d i h;go_wp2;go_ret;exact Or.inl ⟨em2,n2,ov2,HE.u,rfl,hlen,hlt,N.u.same rfl,y.u.same rfl rfl rfl rfl⟩
    ·have h1:5<=Rt.yI ts[n2].text:=by omega
     have h2:Rt.yI ts[n2].text<=6:=by omega
     go_wp2_with fail;refine(QL i).mono ?_;rintro e w2 ⟨rfl,q,rfl⟩;rw[T];obtain⟨o,d⟩:=i.quiet q;go_wp2_with fail;refine(Jf o hn h1 h2).mono ?_;rintro e w3 ⟨rfl,z,j⟩;have hz:(Rt.yI ts[n2].text==0)=false:=by rw[zV];omega
     generalize D:Rt.yI ts[n2].text=code at *;have O:=zD D;clear D hx;go_wp2_with fail;refine(hf _ _ _ _ _ _ _ z M.u (by omega)).mono ?_;rintro e w4 (⟨em5,n5,V,A,rfl,a0,a3,F,x⟩| ⟨A,rfl,V,x⟩)
     ·have HN:=zD (lb U.u hn (by rw[O.u];exact h1) (by rw[O.u];exact h2) A);clear A;go_wp2_with fail;refine(XQ ⟨code,0,⟨#[]⟩⟩ F (by have:=F.YH;simp at this ⊢;omega)).mono ?_;rintro e w5 ⟨rfl,ov6,J,G⟩;have N:=zD J;have y:=zD (h.trans (d.trans (j.trans (x.trans G))));have a4:=F.le;clear i o z F J h d j x G;go_wp2_with fail;go_roundg (ts.length-n5)
      case measure=>have:=HK.u;omega
      case rel=>exact⟨n5,ov6,em2++em5++[⟨code,0,⟨#[]⟩⟩],g,rfl,by have:=HK.u;omega,by omega,by simp;omega,by have:=HN.u;rw[O.u]at this;exact this,by have:=N.u;simpa using this,y.u⟩
     ·have HN:=zD (lZ U.u hn (by rw[O.u];exact h1) (by rw[O.u];exact h2) A);clear A;have y:=zD (h.trans (d.trans (j.trans x)));clear i o z h d j x;go_wp2;go_ret;exact Or.inr ⟨HN.u,rfl,_,y.u⟩
   ·have HE:=zD (pD U.u hn);have T:decide (n2 < ts.length)=false:=by simpa using hn
    go_wp2_with fail;refine(QL i).mono ?_;rintro e w2 ⟨rfl,q,rfl⟩;rw[T];obtain⟨o,d⟩:=i.quiet q;have N:=zD o;have y:=zD (h.trans d);clear o d i h;go_wp2;go_ret;exact Or.inl ⟨em2,n2,ov2,HE.u,rfl,hlen,hlt,N.u.same rfl,y.u.same rfl rfl rfl rfl⟩
 ·have HS:=zD I;clear I;go_wp2;go_ret;exact Or.inr ⟨by simp[Rt.VI,Rt.Xa,HS.u],rfl,_,hfr1⟩
theorem comparison_any (hf:Reads f 224 (Rt.VI (Rt.yV f))):Reads f 222 (Rt.pComp (Rt.yV f)):=by
 intro w R tv ts n ov a6 hr L a1;have O:=zD L;clear L;have a5:=hr.VJ;have a3:=hr.YH;go_enter func222,ntmps222;go_wp2_with fail;refine(hf _ _ _ _ _ _ _ hr O.u a1).mono ?_;rintro e w1 (⟨J,n1,G,z,rfl,A,N,j,h⟩| ⟨z,rfl,G,h⟩)
 ·by_cases hn:n1 < ts.length
  ·by_cases hx:Rt.yI ts[n1].text < 10\/11 < Rt.yI ts[n1].text
   ·have F:Hd (Rt.pComp (Rt.yV f) (ts.drop n)=some (J,ts.drop n1)):=by
     refine zD ?_;unfold Rt.pComp;rw[z,ql hn];simp only;rw[zA (by omega)]
    clear z;go_wp2_with fail;refine(KW j hn hx).mono ?_;rintro e w3 ⟨rfl,U,rfl⟩;obtain⟨i,d⟩:=j.quiet U;have T:=zD i;have o:=zD (h.trans d);clear i d j h;go_wp2;go_ret;exact Or.inl ⟨J,n1,G,F.u,rfl,A,N,T.u,o.u⟩
   ·have h1:10<=Rt.yI ts[n1].text:=by omega
    have h2:Rt.yI ts[n1].text<=11:=by omega
    have F:Hd (∀x,Rt.VI (Rt.yV f) (ts.drop (n1+1))=x->Rt.pComp (Rt.yV f) (ts.drop n)=(match x with | none=>none | some (e',r')=>some (J++e'++[⟨Rt.yI ts[n1].text,0,⟨#[]⟩⟩],r'))):=by
     refine zD ?_;intro x Z;unfold Rt.pComp;rw[z,ql hn];simp only;rw[zE ⟨h1,h2⟩,Z];cases x <;> rfl
    clear z hx;go_wp2_with fail;refine(Jf j hn h1 h2).mono ?_;rintro e w3 ⟨rfl,i,d⟩;have hz:(Rt.yI ts[n1].text==0)=false:=by rw[zV];omega
    generalize I:Rt.yI ts[n1].text=code at *;clear I;go_wp2_with fail;refine(hf _ _ _ _ _ _ _ i O.u (by omega)).mono ?_;rintro e w4 (⟨a2,n5,W,y,rfl,a0,a4,H,k⟩| ⟨y,rfl,W,k⟩)
    ·have HN:=zD (F.u _ y);clear y;go_wp2_with fail;refine(XQ ⟨code,0,⟨#[]⟩⟩ H (by have:=H.YH;simp at this ⊢;omega)).mono ?_;rintro e w5 ⟨rfl,V,M,D⟩;have T:=zD M;have o:=zD (h.trans (d.trans (k.trans D)));clear j i H M h d k D;go_wp2;go_ret;exact Or.inl ⟨J++a2++[⟨code,0,⟨#[]⟩⟩],n5,V,HN.u,rfl,by simp;omega,by omega,by have:=T.u;simpa using this,o.u⟩
    ·have HN:=zD (F.u _ y);clear y;have o:=zD (h.trans (d.trans k));clear j i h d k;go_wp2;go_ret;exact Or.inr ⟨HN.u,rfl,_,o.u⟩
  ·have F:Hd (Rt.pComp (Rt.yV f) (ts.drop n)=some (J,ts.drop n1)):=by
    refine zD ?_;unfold Rt.pComp;rw[z,vW hn]
   clear z;go_wp2_with fail;refine(nB j hn).mono ?_;rintro e w3 ⟨rfl,U,rfl⟩;obtain⟨i,d⟩:=j.quiet U;have T:=zD i;have o:=zD (h.trans d);clear i d j h;go_wp2;go_ret;exact Or.inl ⟨J,n1,G,F.u,rfl,A,N,T.u,o.u⟩
 ·have F:Hd (Rt.pComp (Rt.yV f) (ts.drop n)=none):=by
   refine zD ?_;unfold Rt.pComp;rw[z]
  clear z;go_wp2;go_ret;exact Or.inr ⟨F.u,rfl,_,h⟩
theorem mZ {ops:List qM} (d:kC w R tv ts n ov ops) (f:¬n < ts.length):Calls Tryz.prog 230 #[.pointer (some ⟨R,0,none⟩)] w fun e w'=>e=.returned (.bool false)/\∃q,w'=w.drewN q:=by
 go_enter func230,ntmps230;go_wp2_with fail;refine(oj d f).mono ?_;rintro e h ⟨rfl,i,rfl⟩;go_wp2;go_ret;exact⟨by simp,_,rfl⟩
def Qi (f:Nat) (t:Rt.Tk) (r:List Rt.Tk):Rt.JX:=if t.kind=1/\Rt.aL t.text=false then Rt.pVar (Rt.pComp (Rt.yV f)) t.text r else none
theorem ma (hf:Reads f 222 (Rt.pComp (Rt.yV f))) {ops:List qM} (V:kC w R tv ts n ov ops) (J:∀t∈ts,t.text.size<=40000) (hn:n < ts.length) (a4:ts.length-(n+1)<=f):Calls Tryz.prog 230 #[.pointer (some ⟨R,0,none⟩)] w fun e w'=>
   (∃em n' ov',Qi f ts[n] (ts.drop (n+1))=some (em,ts.drop n')/\e=.returned (.bool true)/\em.length+n<=n'/\n < n'/\kC w' R tv ts n' ov' (ops++em)/\ZJ R ov ov' w w')\/
   (Qi f ts[n] (ts.drop (n+1))=none/\e=.returned (.bool false)/\∃ov',ZJ R ov ov' w w'):=by
 have Z:=zD J;clear J;have a3:=V.VJ;have a0:=V.YH;go_enter func230,ntmps230;go_wp2_with fail;refine(Zh _ _ _ _ _ _ _ V hn).mono ?_;rintro e w1 (⟨M,hv,rfl,o,d⟩| ⟨M,rfl,o,d⟩)
 ·have I:Hd (Qi f ts[n] (ts.drop (n+1))=Rt.pVar (Rt.pComp (Rt.yV f)) ts[n].text (ts.drop (n+1))):=by
   refine zD ?_;unfold Qi;rw[zE ⟨M,hv⟩]
  clear M hv;generalize ts[n].text=nm at *;by_cases hn1:n+1 < ts.length
  ·by_cases hx:ts[n+1].text=⟨#[91]⟩
   ·have G:Hd (Qi f ts[n] (ts.drop (n+1))=Rt.closed ⟨#[93]⟩ [⟨3,0,nm⟩] (Rt.pComp (Rt.yV f) (ts.drop (n+1+1)))):=by
     refine zD ?_;rw[I.u,ql hn1,Rt.pVar,zE hx]
    clear I;go_wp2_with fail;refine(JD _ o hn1 hx).mono ?_;rintro e w2 ⟨rfl,y,h⟩;clear hx;go_wp2_with fail;refine(hf _ _ _ _ _ _ _ y Z.u (by omega)).mono ?_;rintro e w4 (⟨N,n5,U,F,rfl,W,a1,z,k⟩| ⟨F,rfl,U,k⟩)
    ·have a2:=z.le;rw[F]at G;clear F;go_wp2_with fail;refine(XQ ⟨3,0,nm⟩ z (by have:=z.YH;simp at this ⊢;omega)).mono ?_;rintro e w5 ⟨rfl,D,j,i⟩;by_cases hn5:n5 < ts.length
     ·by_cases hx5:ts[n5].text=⟨#[93]⟩
      ·have A:Hd (Qi f ts[n] (ts.drop (n+1))=some (N++[⟨3,0,nm⟩],ts.drop (n5+1))):=by
        refine zD ?_;rw[G.u,ql hn5,Rt.closed,zE hx5]
       clear G;go_wp2_with fail;refine(JD _ j hn5 hx5).mono ?_;rintro e T ⟨rfl,L,H⟩;have O:=zD L;have x:=zD (d.trans (h.trans (k.trans (i.trans H))));clear o y z j L d h k i H hx5;go_wp2;go_ret;exact Or.inl ⟨N++[⟨3,0,nm⟩],n5+1,D,A.u,rfl,by simp;omega,by omega,by have:=O.u;simpa using this,x.u⟩
      ·have A:Hd (Qi f ts[n] (ts.drop (n+1))=none):=by
        refine zD ?_;rw[G.u,ql hn5,Rt.closed,zA hx5]
       clear G;go_wp2_with fail;refine(mb _ j hn5 hx5).mono ?_;rintro e T ⟨rfl,q,rfl⟩;have x:=zD (d.trans (h.trans (k.trans (i.trans (j.quiet q).2))));clear o y z j d h k i hx5;go_wp2;go_ret;exact Or.inr ⟨A.u,rfl,_,x.u⟩
     ·have A:Hd (Qi f ts[n] (ts.drop (n+1))=none):=by
       refine zD ?_;rw[G.u,vW hn5,Rt.closed]
      clear G;go_wp2_with fail;refine(fE _ j hn5).mono ?_;rintro e T ⟨rfl,q,rfl⟩;have x:=zD (d.trans (h.trans (k.trans (i.trans (j.quiet q).2))));clear o y z j d h k i;go_wp2;go_ret;exact Or.inr ⟨A.u,rfl,_,x.u⟩
    ·have A:Hd (Qi f ts[n] (ts.drop (n+1))=none):=by
      refine zD ?_;rw[G.u,F,Rt.closed]
     clear G F;have x:=zD (d.trans (h.trans k));clear o y d h k;go_wp2;go_ret;exact Or.inr ⟨A.u,rfl,_,x.u⟩
   ·have A:Hd (Qi f ts[n] (ts.drop (n+1))=some ([⟨2,0,nm⟩],ts.drop (n+1))):=by
     refine zD ?_;rw[I.u,ql hn1,Rt.pVar,zA hx]
    clear I;go_wp2_with fail;refine(mb _ o hn1 hx).mono ?_;rintro e T ⟨rfl,q,rfl⟩;obtain⟨y,h⟩:=o.quiet q;clear hx;go_wp2_with fail;refine(XQ ⟨2,0,nm⟩ y (by omega)).mono ?_;rintro e w5 ⟨rfl,D,j,i⟩;have O:=zD j;have x:=zD (d.trans (h.trans i));clear o y j d h i;go_wp2;go_ret;exact Or.inl ⟨[⟨2,0,nm⟩],n+1,D,A.u,rfl,by simp;omega,by omega,O.u,x.u⟩
  ·have A:Hd (Qi f ts[n] (ts.drop (n+1))=some ([⟨2,0,nm⟩],ts.drop (n+1))):=by
    refine zD ?_;rw[I.u,vW hn1,Rt.pVar]
   clear I;go_wp2_with fail;refine(fE _ o hn1).mono ?_;rintro e T ⟨rfl,q,rfl⟩;obtain⟨y,h⟩:=o.quiet q;go_wp2_with fail;refine(XQ ⟨2,0,nm⟩ y (by omega)).mono ?_;rintro e w5 ⟨rfl,D,j,i⟩;have O:=zD j;have x:=zD (d.trans (h.trans i));clear o y j d h i;go_wp2;go_ret;exact Or.inl ⟨[⟨2,0,nm⟩],n+1,D,A.u,rfl,by simp;omega,by omega,O.u,x.u⟩
 ·have A:Hd (Qi f ts[n] (ts.drop (n+1))=none):=by
   refine zD ?_;unfold Qi;rw[zA M]
  clear M;have x:=zD d;clear o d;go_wp2;go_ret;exact Or.inr ⟨A.u,rfl,_,x.u⟩
theorem Ku {ops:List qM} (x:ByteArray) (d:kC w R tv ts n ov ops) (f:¬n < ts.length):Calls Tryz.prog 216 #[.pointer (some ⟨R,0,none⟩),.string x] w fun e w'=>e=.returned (.bool false)/\kC w' R tv ts n ov ops/\ZJ R ov ov w w':=
 (fE x d f).mono (by rintro e w' ⟨rfl,q,rfl⟩;exact⟨rfl,d.quiet q⟩)
theorem X9 {ops:List qM} (x:ByteArray) (d:kC w R tv ts n ov ops) (h:n < ts.length) (f:¬ts[n].text=x):Calls Tryz.prog 216 #[.pointer (some ⟨R,0,none⟩),.string x] w fun e w'=>e=.returned (.bool false)/\kC w' R tv ts n ov ops/\ZJ R ov ov w w':=
 (mb x d h f).mono (by rintro e w' ⟨rfl,q,rfl⟩;exact⟨rfl,d.quiet q⟩)
theorem da {ops:List qM} (d:kC w R tv ts n ov ops) (f:¬n < ts.length):Calls Tryz.prog 214 #[.pointer (some ⟨R,0,none⟩)] w fun e w'=>e=.returned (.tuple #[.int .i64 0,.bool false])/\kC w' R tv ts n ov ops/\ZJ R ov ov w w':=
 (sa d f).mono (by rintro e w' ⟨rfl,q,rfl⟩;exact⟨rfl,d.quiet q⟩)
theorem ff {ops:List qM} (d:kC w R tv ts n ov ops) (f:n < ts.length) (h:¬ts[n].kind=2):Calls Tryz.prog 214 #[.pointer (some ⟨R,0,none⟩)] w fun e w'=>e=.returned (.tuple #[.int .i64 0,.bool false])/\kC w' R tv ts n ov ops/\ZJ R ov ov w w':=
 (AX d f h).mono (by rintro e w' ⟨rfl,q,rfl⟩;exact⟨rfl,d.quiet q⟩)
theorem iR {ops:List qM} (d:kC w R tv ts n ov ops) (f:¬n < ts.length):Calls Tryz.prog 230 #[.pointer (some ⟨R,0,none⟩)] w fun e w'=>e=.returned (.bool false)/\kC w' R tv ts n ov ops/\ZJ R ov ov w w':=
 (mZ d f).mono (by rintro e w' ⟨rfl,q,rfl⟩;exact⟨rfl,d.quiet q⟩)
theorem Ab {ops:List qM} (d:kC w R tv ts n ov ops) (f:¬n < ts.length):Calls Tryz.prog 213 #[.pointer (some ⟨R,0,none⟩)] w fun e w'=>e=.returned (.tuple #[.string ⟨#[]⟩,.bool false])/\kC w' R tv ts n ov ops/\ZJ R ov ov w w':=
 (oj d f).mono (by rintro e w' ⟨rfl,q,rfl⟩;exact⟨rfl,d.quiet q⟩)
theorem gW {ops:List qM} (A:kC w R tv ts n ov ops) (y:¬n < ts.length):Calls Tryz.prog 229 #[.pointer (some ⟨R,0,none⟩)] w fun e w'=>e=.returned (.bool false)/\kC w' R tv ts n ov ops/\ZJ R ov ov w w':=by
 go_enter func229,ntmps229;go_wp2_with fail;refine(Ku _ A y).mono ?_;rintro e w1 ⟨rfl,x,i⟩;go_wp2_with fail;refine(Ku _ x y).mono ?_;rintro e w2 ⟨rfl,o,h⟩;go_wp2_with fail;refine(da o y).mono ?_;rintro e G ⟨rfl,k,f⟩;go_wp2_with fail;refine(iR k y).mono ?_;rintro e F ⟨rfl,j,d⟩;have D:=zD j;have z:=zD (i.trans (h.trans (f.trans d)));clear x o k j i h f d;go_wp2;go_ret;exact⟨rfl,D.u,z.u⟩
theorem factor_any (hf:Reads f 229 (Rt.yV f)) (hc:Reads f 222 (Rt.pComp (Rt.yV f))):Reads (f+1) 229 (Rt.yV (f+1)):=by
 intro w R tv ts n ov a6 W a1 a7;by_cases hn:n < ts.length
 case neg=>
  refine(gW W hn).mono ?_;rintro e w1 ⟨rfl,_,a2⟩;exact Or.inr ⟨by rw[vW hn,Rt.yV],rfl,_,a2⟩
 have T:=zD a1;clear a1;have a5:=W.VJ;have a3:=W.YH;by_cases hm:ts[n].text=⟨#[45]⟩
 ·have G:Hd (∀x,Rt.yV f (ts.drop (n+1))=x->Rt.yV (f+1) (ts.drop n)=(match x with | none=>none | some (e',r')=>some (e'++[⟨4,0,⟨#[]⟩⟩],r'))):=by
   refine zD ?_;intro x hx;rw[ql hn,Rt.yV,zE hm,hx];cases x <;> rfl
  go_enter func229,ntmps229;go_wp2_with fail;refine(JD _ W hn hm).mono ?_;rintro e w1 ⟨rfl,o,h⟩;clear hm;go_wp2_with fail;refine(hf _ _ _ _ _ _ _ o T.u (by omega)).mono ?_;rintro e w4 (⟨N,n5,H,j,rfl,M,U,y,d⟩| ⟨j,rfl,H,d⟩)
  ·have HN:=zD (G.u _ j);clear j;go_wp2_with fail;refine(XQ ⟨4,0,⟨#[]⟩⟩ y (by have:=y.YH;simp at this ⊢;omega)).mono ?_;rintro e w5 ⟨rfl,V,L,F⟩;have Z:=zD L;have k:=zD (h.trans (d.trans F));clear o y L h d F;go_wp2;go_ret;exact Or.inl ⟨N++[⟨4,0,⟨#[]⟩⟩],n5,V,HN.u,rfl,by simp;omega,by omega,by have:=Z.u;simpa using this,k.u⟩
  ·have HN:=zD (G.u _ j);clear j;have k:=zD (h.trans d);clear o h d;go_wp2;go_ret;exact Or.inr ⟨HN.u,rfl,_,k.u⟩
 by_cases hp:ts[n].text=⟨#[40]⟩
 ·have G:Hd (Rt.yV (f+1) (ts.drop n)=Rt.closed ⟨#[41]⟩ [] (Rt.pComp (Rt.yV f) (ts.drop (n+1)))):=by
   refine zD ?_;rw[ql hn,Rt.yV,zA hm,zE hp]
  go_enter func229,ntmps229;go_wp2_with fail;refine(X9 _ W hn hm).mono ?_;rintro e w0 ⟨rfl,A,i⟩;clear hm;go_wp2_with fail;refine(JD _ A hn hp).mono ?_;rintro e w1 ⟨rfl,o,h⟩;clear hp;go_wp2_with fail;refine(hc _ _ _ _ _ _ _ o T.u (by omega)).mono ?_;rintro e w4 (⟨N,n5,H,j,rfl,M,U,y,d⟩| ⟨j,rfl,H,d⟩)
  ·have a4:=y.le;rw[j]at G;clear j;by_cases hn5:n5 < ts.length
   ·by_cases hx5:ts[n5].text=⟨#[41]⟩
    ·have O:Hd (Rt.yV (f+1) (ts.drop n)=some (N,ts.drop (n5+1))):=by
      refine zD ?_;rw[G.u,ql hn5,Rt.closed,zE hx5,yX]
     clear G;go_wp2_with fail;refine(JD _ y hn5 hx5).mono ?_;rintro e w6 ⟨rfl,I,z⟩;have Z:=zD I;have k:=zD (i.trans (h.trans (d.trans z)));clear A o y I i h d z hx5;go_wp2;go_ret;exact Or.inl ⟨N,n5+1,H,O.u,rfl,by omega,by omega,Z.u,k.u⟩
    ·have O:Hd (Rt.yV (f+1) (ts.drop n)=none):=by
      refine zD ?_;rw[G.u,ql hn5,Rt.closed,zA hx5]
     clear G;go_wp2_with fail;refine(X9 _ y hn5 hx5).mono ?_;rintro e w6 ⟨rfl,I,z⟩;have k:=zD (i.trans (h.trans (d.trans z)));clear A o y I i h d z hx5;go_wp2;go_ret;exact Or.inr ⟨O.u,rfl,_,k.u⟩
   ·have O:Hd (Rt.yV (f+1) (ts.drop n)=none):=by
     refine zD ?_;rw[G.u,vW hn5,Rt.closed]
    clear G;go_wp2_with fail;refine(Ku _ y hn5).mono ?_;rintro e w6 ⟨rfl,I,z⟩;have k:=zD (i.trans (h.trans (d.trans z)));clear A o y I i h d z;go_wp2;go_ret;exact Or.inr ⟨O.u,rfl,_,k.u⟩
  ·have O:Hd (Rt.yV (f+1) (ts.drop n)=none):=by
    refine zD ?_;rw[G.u,j,Rt.closed]
   clear G j;have k:=zD (i.trans (h.trans d));clear A o i h d;go_wp2;go_ret;exact Or.inr ⟨O.u,rfl,_,k.u⟩
 by_cases hk:ts[n].kind=2
 ·have G:Hd (Rt.yV (f+1) (ts.drop n)=some ([⟨1,Rt.val ts[n].text,⟨#[]⟩⟩],ts.drop (n+1))):=by
   refine zD ?_;rw[ql hn,Rt.yV,zA hm,zA hp,zE hk]
  have a0:ts[n].text.size<=maxLen:=by
   have:=T.u ts[n] (zj hn);unfold maxLen;omega
  go_enter func229,ntmps229;go_wp2_with fail;refine(X9 _ W hn hm).mono ?_;rintro e w0 ⟨rfl,A,i⟩;clear hm;go_wp2_with fail;refine(X9 _ A hn hp).mono ?_;rintro e w1 ⟨rfl,o,h⟩;clear hp;go_wp2_with fail;refine(fe o hn hk a0).mono ?_;rintro e w2 ⟨rfl,J,D⟩;clear hk a0;go_wp2_with fail;refine(XQ ⟨1,Rt.val ts[n].text,⟨#[]⟩⟩ J (by omega)).mono ?_;rintro e w5 ⟨rfl,V,L,F⟩;have Z:=zD L;have k:=zD (i.trans (h.trans (D.trans F)));clear A o J L i h D F;go_wp2;go_ret;exact Or.inl ⟨_,n+1,V,G.u,rfl,by simp;omega,by omega,Z.u,k.u⟩
 ·have G:Hd (Rt.yV (f+1) (ts.drop n)=Qi f ts[n] (ts.drop (n+1))):=by
   refine zD ?_;rw[ql hn,Rt.yV,zA hm,zA hp,zA hk];rfl
  go_enter func229,ntmps229;go_wp2_with fail;refine(X9 _ W hn hm).mono ?_;rintro e w0 ⟨rfl,A,i⟩;clear hm;go_wp2_with fail;refine(X9 _ A hn hp).mono ?_;rintro e w1 ⟨rfl,o,h⟩;clear hp;go_wp2_with fail;refine(ff o hn hk).mono ?_;rintro e w2 ⟨rfl,J,D⟩;clear hk;go_wp2_with fail;refine(ma hc J T.u hn (by omega)).mono ?_;rintro e w4 (⟨N,n5,H,j,rfl,M,U,y,d⟩| ⟨j,rfl,H,d⟩)
  ·have O:=zD (G.u.trans j);have Z:=zD y;have k:=zD (i.trans (h.trans (D.trans d)));clear A o J y i h D d j;go_wp2;go_ret;exact Or.inl ⟨_,n5,H,O.u,rfl,by omega,by omega,Z.u,k.u⟩
  ·have O:=zD (G.u.trans j);have k:=zD (i.trans (h.trans (D.trans d)));clear A o J i h D d j;go_wp2;go_ret;exact Or.inr ⟨O.u,rfl,_,k.u⟩
theorem tY (f:Nat):Reads f 229 (Rt.yV f):=by
 induction f with
 | zero=>
  intro w R tv o n ov h j i k;refine(gW j (by omega)).mono ?_;rintro e w1 ⟨rfl,_,d⟩;exact Or.inr ⟨by rw[Rt.yV],rfl,_,d⟩
 | succ f ih=>exact factor_any ih (comparison_any (uM (ns ih)))
theorem gl (f:Nat):Reads f 222 (Rt.pComp (Rt.yV f)):=comparison_any (uM (ns (tY f)))
abbrev zg:Value:=.slice none 0 0
theorem ZJ.YS {a b:Value} {w1:World} (h:ZJ R a b w w1) (d:w.heap.size<=N) (v:Value):ZJ R a b w (w1.setCell ⟨N,i,none⟩ v):=
 ⟨h.os,h.tape,h.output,by have:=h.size;simp[World.setCell];omega,fun k hk h1 h2=>(zO w1 ⟨N,i,none⟩ v k (by show k≠N;omega)).trans (h.block k hk h1 h2),h.own⟩
theorem yk {base:Nat} {e:TypeId} {size:Nat} {v:Value} {xs:List Value} (h:w.ownsRow base e size v n xs) {a:Addr} (d:∀g,v.ownBlock=some g->g≠a.block) (u:Value):(w.setCell a u).ownsRow base e size v n xs:=by
 obtain⟨f,h2⟩:=h;refine⟨f,?_⟩;rcases h2 with h2 | ⟨g,cap,cur,hv,hg,hh,r⟩
 ·exact Or.inl h2
 ·exact Or.inr ⟨g,cap,cur,hv,hg,by rw[zO _ _ _ _ (d g (by rw[hv];rfl))];exact hh,r⟩
theorem kC.setOther {ops:List qM} (f:kC w R tv ts n ov ops) (A:R < N) (z:∀g,ov.ownBlock=some g->g≠N) (v:Value):kC (w.setCell ⟨N,i,none⟩ v) R tv ts n ov ops:=by
 have d:∀k,k≠N->(w.setCell ⟨N,i,none⟩ v).heap[k]?=w.heap[k]?:=fun k hk=>zO w ⟨N,i,none⟩ v k hk;refine⟨f.le,f.VJ,f.YH,by rw[d R (by omega)];exact f.block,?_,yk f.own z v⟩;obtain⟨b,cap,rfl,x,y⟩:=f.yY;have o:∀j,(w.setCell ⟨N,i,none⟩ v).cell? ⟨b,j,none⟩=w.cell? ⟨b,j,none⟩:=fun j=>xG (w:=w) (d b (by omega));exact⟨b,cap,rfl,x,fun i h=>⟨by rw[o];exact(y i h).1,by rw[o];exact(y i h).2⟩⟩
theorem kC.clear {ops:List qM} (f:kC w R tv ts n ov ops):kC (w.setCell ⟨R,2,none⟩ zg) R tv ts n zg []/\ZJ R ov zg w (w.setCell ⟨R,2,none⟩ zg)/\(w.setCell ⟨R,2,none⟩ zg).ownsRow (R+1) 236 3 ov ops.length (xX ops):=by
 have d:∀k,k≠R->(w.setCell ⟨R,2,none⟩ zg).heap[k]?=w.heap[k]?:=fun k hk=>zO w ⟨R,2,none⟩ _ k hk;refine⟨⟨f.le,f.VJ,by simp,?_,?_,zW _ _ _ _⟩,⟨rfl,rfl,rfl,by simp[World.setCell],fun k _ h1 _=>d k h1,fun g h=>by cases h⟩,?_⟩
 ·show (w.heap.modify R _)[R]?=_;rw[ZD];simp[f.block]
 ·obtain⟨b,cap,rfl,x,y⟩:=f.yY;have o:∀j,(w.setCell ⟨R,2,none⟩ zg).cell? ⟨b,j,none⟩=w.cell? ⟨b,j,none⟩:=fun j=>xG (w:=w) (d b (by omega));exact⟨b,cap,rfl,x,fun i h=>⟨by rw[o];exact(y i h).1,by rw[o];exact(y i h).2⟩⟩
 ·exact qL f.own (by show R < R+1;omega) _
theorem ZZ (G:kC w R tv ts n zg []) (A:∀t∈ts,t.text.size<=40000):Calls Tryz.prog 215 #[.pointer (some ⟨R,0,none⟩)] w fun e w'=>
   (∃em n' xv,Rt.Z1 (ts.drop n)=some (em,ts.drop n')/\e=.returned (.tuple #[.agg #[xv],.bool true])/\n < n'/\em.length<=n'/\kC w' R tv ts n' zg []/\
    w'.ownsRow w.heap.size 236 3 xv em.length (xX em)/\ZJ R zg zg w w')\/
   (Rt.Z1 (ts.drop n)=none/\e=.returned (.tuple #[.agg #[zg],.bool false])/\∃ov,ZJ R zg ov w w'):=by
 have T:=G.VJ;have L:=zD A;clear A;have J:R < w.heap.size:=zt w _ (zC G.block 0 (by simp));go_enter func215,ntmps215;go_wp2_with fail;obtain⟨o,d⟩:=G.zP ((zI w.heap.size w).alloc (zB _) (.cells #[zg] 140));refine(gl 24 _ _ _ _ _ _ _ o L.u (by omega)).mono ?_;rintro e w1 (⟨em,U,z,D,rfl,O,H,f,hfr1⟩| ⟨D,rfl,z,hfr1⟩)
 ·rw[xN]at f;have x:w1.heap[w.heap.size]?=some (.cells #[zg] 140 (0,0)):=by
   rw[hfr1.block w.heap.size (by simp) (by omega) (by simp[Value.ownBlock])];exact zN w _
  have hg:∀g,z.ownBlock=some g->w.heap.size < g:=fun g hg=>by
   rcases hfr1.own g hg with h | h
   ·cases h
   ·simp at h;omega
  obtain⟨ad,cap,rfl⟩:=zK f.own;have M:=zD D;clear D;have Z:=zC f.block 2 (by simp);have f2:=zS f.block 2;have I:=zC x 0 (by simp);have W:=zS x 0;simp at Z I;obtain⟨F,k,j⟩:=f.clear;have HR:=zD (F.setOther (N:=w.heap.size) (i:=0) J (by intro g h;cases h) (Value.slice ad em.length cap));have y:=zD ((d.trans (hfr1.trans k)).YS (N:=w.heap.size) (i:=0) (zB _) (Value.slice ad em.length cap));have HO:=zD (Je (b':=w.heap.size) (yk j (a:=⟨w.heap.size,0,none⟩) (fun g h=>by have:=hg g h;show g≠w.heap.size;omega) (Value.slice ad em.length cap)) (fun g h=>by have:=hg g h;omega));clear G o f F d hfr1 k j x;have V:¬R=w.heap.size:=by omega
  go_wp2_with fail;refine zT (v:=.tuple #[.agg #[Value.slice ad em.length cap],.bool true]) ?_ rfl (Or.inl ⟨em,U,_,M.u,rfl,H,by omega,HR.u,HO.u,y.u⟩);simp[results,results215,go_sem,I]
 ·have x:w1.heap[w.heap.size]?=some (.cells #[zg] 140 (0,0)):=by
   rw[hfr1.block w.heap.size (by simp) (by omega) (by simp[Value.ownBlock])];exact zN w _
  have I:=zC x 0 (by simp);have W:=zS x 0;simp at I;have M:=zD D;have y:=zD ((d.trans hfr1).YS (N:=w.heap.size) (i:=0) (zB _) zg);clear G o d hfr1 x D;go_wp2_with fail;refine zT (v:=.tuple #[.agg #[zg],.bool false]) ?_ rfl (Or.inr ⟨M.u,rfl,_,y.u⟩);simp[results,results215,go_sem,I]
end Go.Proofs.YthleadfkfnnadaaGreat
