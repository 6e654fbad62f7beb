/- Both looks at the names agree. -/
import Derived.Test.YthleadfkfnnadaaGreatEqvA
set_option maxHeartbeats 4000000
set_option maxRecDepth 100000
set_option linter.unusedSimpArgs false
namespace Go.Proofs.YthleadfkfnnadaaGreat
open Rt
variable {x:ByteArray} {ls us:List (List ByteArray)} {t:List ByteArray} {op sp:List Nat} {k i l:Nat}
namespace Rf
open Rt
theorem vA (k:Int):(idx k=0↔k=0)/\(idx k=1↔k=1)/\(idx k=2↔k=2)/\(idx k=3↔k=3)/\(idx k=4↔k=5)/\(idx k=5↔k=7)/\(idx k=6↔k=6)/\(idx k=7↔k=4):=by
 unfold idx;by_cases h0:k=0
 ·subst h0;decide
 by_cases h1:k=1
 ·subst h1;decide
 by_cases h2:k=2
 ·subst h2;decide
 by_cases h3:k=3
 ·subst h3;decide
 by_cases h5:k=5
 ·subst h5;decide
 by_cases h7:k=7
 ·subst h7;decide
 by_cases h6:k=6
 ·subst h6;decide
 by_cases h4:k=4
 ·subst h4;decide
 simp[h0,h1,h2,h3,h4,h5,h6,h7]
def cnt (ls:List (List ByteArray)):Nat->Int
 | 0=>0
 | k+1=>cnt ls k+(if kJ (xU ls k)=true then 1 else 0)-(if ((first (xU ls k)).toList==[101,110,100])=true then 1 else 0)
theorem DV (h:k < ls.length) (f:HF (first ls[k]) i):cnt ls (k+1)=cnt ls k+(if i=3\/i=4\/i=5 then 1 else 0)-(if i=7 then 1 else 0):=by
 obtain⟨F,D,A,y,x,o,z,j⟩:=f;have d:(kJ ls[k]=true)↔(i=3\/i=4\/i=5):=by
  unfold kJ;rw[y,x,o];simp[KV]
 rw[cnt,yq h,j];simp only[d,yS]
theorem nO (h:k < ls.length) (d:HF (first ls[k]) i):home ls (k+1)=if i=3 then k+1 else home ls k:=by
 rw[Xy,yq h,d.2.2.2.1];simp
structure SR (ls:List (List ByteArray)) (k:Nat) (bs:List Zx) (op sp:List Nat):Prop where
 rW:op=bs.map (·.line)
 GU:sp=(bs.filter (·.aB)).map (·.line)
 inv:J3 ls k op
 home:∀x,op.head?=some x->home ls k=x
 FN:∀b∈bs,1<=b.line/\b.line<=k
 inc:bs.Pairwise (fun a b=>a.line < b.line)
 kind:∀b∈bs,((first (xU ls (b.line-1))).toList==[105,102])=decide (b.kind=5)
 cnt:(op.length:Int)=cnt ls k
theorem SR.same {ls:List (List ByteArray)} {k i:Nat} {bs:List Zx} {op sp:List Nat} (h:SR ls k bs op sp) (d:k < ls.length) (f:HF (first ls[k]) i) (o:¬(i=3\/i=4\/i=5)) (j:¬i=7):SR ls (k+1) bs op sp:=by
 refine⟨h.rW,h.GU,h.inv.same d f o j,fun x hx=>?_,fun b hb=>by have:=h.FN b hb;omega,h.inc,h.kind,?_⟩
 ·rw[nO d f,zA (by omega)];exact h.home x hx
 ·rw[DV d f,zA o,zA j,h.cnt];omega
theorem SR.push {ls:List (List ByteArray)} {k i:Nat} {bs:List Zx} {op sp:List Nat} {kd:Int} (h:SR ls k bs op sp) (d:k < ls.length) (f:HF (first ls[k]) i) (A:i=3\/i=4\/i=5) (z:i=3↔bs=[]) (o:i=4↔kd=5):SR ls (k+1) (bs++[⟨k+1,kd,false⟩]) (op++[k+1]) sp:=by
 refine⟨by rw[h.rW];simp,by rw[h.GU];simp,h.inv.push d f A,fun x hx=>?_,fun b hb=>?_,?_,fun b hb=>?_,?_⟩
 ·rw[nO d f];by_cases hb:bs=[]
  ·rw[zE (z.mpr hb)];rw[h.rW,hb]at hx;simpa using hx
  ·rw[zA (fun e=>hb (z.mp e))];refine h.home x ?_;have j:op≠[]:=by rw[h.rW];simpa using hb
   cases hop:op with
   | nil=>exact absurd hop j
   | cons y r=>rw[hop]at hx;simpa using hx
 ·simp at hb;rcases hb with hb | rfl
  ·have:=h.FN b hb;omega
  ·exact⟨by simp,by simp⟩
 ·rw[qE];refine⟨h.inc,by simp,fun a ha b hb=>?_⟩;simp at hb;subst hb;have:=h.FN a ha;show a.line < k+1;omega
 ·simp at hb;rcases hb with hb | rfl
  ·exact h.kind b hb
  ·show ((first (xU ls (k+1-1))).toList==[105,102])=decide (kd=5);rw[zu,yq d,f.2.2.2.2.1,xO];simpa using o
 ·rw[DV d f,zE A,zA (by omega),ze,<-h.cnt];simp
theorem hU (bs:List Zx):bs=[]\/∃pre b,bs=pre++[b]:=by
 rcases ZC bs with h | ⟨a,b,h⟩
 ·exact Or.inl h
 ·exact Or.inr ⟨a,b,by simpa using h⟩
theorem ae (d:List Zx) (b:Zx):jE (d++[b])=b:=by simp[jE]
theorem SR.uO {pre:List Zx} {b:Zx} (h:SR ls k (pre++[b]) op sp):(0 < sp.length/\vQ sp=vQ op)↔b.aB=true:=by
 have f:vQ op=b.line:=by rw[h.rW];simp[vQ]
 have d:=h.GU;rw[List.filter_append,yB]at d;rw[f];cases hb:b.aB with
 | true=>
  simp[hb]at d;rw[d];simp[vQ]
 | false=>
  simp[hb]at d;constructor
  ·rintro ⟨j,i⟩;rcases hU (pre.filter (·.aB))with he | ⟨p2,c,he⟩
   ·rw[d,he]at j;simp at j
   ·rw[d,he]at i;simp[vQ]at i;have o:c∈pre:=by
     have:c∈pre.filter (·.aB):=by rw[he];simp
     exact(List.mem_filter.mp this).1
    have:=(qE.mp h.inc).2.2 c o b (by simp);omega
  ·intro h;cases h
theorem SR.aB {ls:List (List ByteArray)} {k i:Nat} {pre:List Zx} {b:Zx} {op sp:List Nat} (h:SR ls k (pre++[b]) op sp) (j:k < ls.length) (o:HF (first ls[k]) i) (y:i=6) (x:b.aB=false):SR ls (k+1) (pre++[⟨b.line,b.kind,true⟩]) op (sp++[vQ op]):=by
 have d:=h.same j o (by omega) (by omega);have f:vQ op=b.line:=by rw[h.rW];simp[vQ]
 refine⟨by rw[h.rW];simp,?_,d.inv,d.home,fun c hc=>?_,?_,fun c hc=>?_,d.cnt⟩
 ·rw[f,h.GU];simp[x]
 ·simp at hc;rcases hc with hc | rfl
  ·exact d.FN c (by simp[hc])
  ·exact d.FN b (by simp)
 ·have:=qE.mp h.inc;rw[qE];refine⟨this.1,by simp,fun a ha c hc=>?_⟩;simp at hc;subst hc;exact this.2.2 a ha b (by simp)
 ·simp at hc;rcases hc with hc | rfl
  ·exact h.kind c (by simp[hc])
  ·exact h.kind b (by simp)
theorem SR.pop {ls:List (List ByteArray)} {k i:Nat} {pre:List Zx} {b:Zx} {op sp:List Nat} (h:SR ls k (pre++[b]) op sp) (j:k < ls.length) (o:HF (first ls[k]) i) (A:i=7):SR ls (k+1) pre op.dropLast (if 0 < sp.length/\vQ sp=vQ op then sp.dropLast else sp):=by
 have d:op=pre.map (·.line)++[b.line]:=by rw[h.rW];simp
 have f:op.dropLast=pre.map (·.line):=by rw[d,xo]
 have z:=h.inv;rw[d]at z;refine⟨f,?_,by rw[f];exact z.pop j o A,fun x hx=>?_,fun c hc=>by have:=h.FN c (by simp[hc]);omega,(qE.mp h.inc).1,fun c hc=>h.kind c (by simp[hc]),?_⟩
 ·cases hb:b.aB with
  | true=>
   rw[zE (h.uO.mpr hb),h.GU];simp[hb]
  | false=>
   rw[zA (fun e=>by have:=h.uO.mp e;rw[hb]at this;cases this),h.GU];simp[hb]
 ·rw[nO j o,zA (by omega)];refine h.home x ?_;rw[f]at hx;rw[d];cases hp:pre with
  | nil=>rw[hp]at hx;simp at hx
  | cons y r=>rw[hp]at hx;simpa using hx
 ·rw[DV j o,zA (by omega),zE A,<-h.cnt,f,d];simp
structure uB (ls:List (List ByteArray)) (l:Nat) (p:PL) (t:List ByteArray):Prop where
 line:kU t p.form
 yY:tx p.yY=t
 proc:¬(idx p.form.kind=0\/idx p.form.kind=1\/idx p.form.kind=2\/idx p.form.kind=3)->p.proc=(home ls (l+1):Nat)
 opener:idx p.form.kind=7->p.opener=(openerFrom ls l 1:Nat)
 aB:idx p.form.kind=6->p.opener=(openerFrom ls l 1:Nat)
 depth:p.depth=if idx p.form.kind=6\/idx p.form.kind=7 then cnt ls l-1 else cnt ls l
inductive LN (ls:List (List ByteArray)):Nat->List PL->List (List ByteArray)->Prop
 | nil (k:Nat):LN ls k [] []
 | cons (k:Nat) (p:PL) (t:List ByteArray) (ps:List PL) (us:List (List ByteArray)):uB ls k p t->LN ls (k+1) ps us->LN ls k (p::ps) (t::us)
theorem sG {bs:List Zx} {p:PL} (h:SR ls k bs op sp) (O:k < ls.length) (N:FH p ls[k]) (had:Yj bs p.form.kind=true):uB ls k (ym bs p) ls[k]:=by
 obtain⟨A,D,T,Z,M⟩:=N;have R:=Ya A;obtain⟨L,J,I,H,W,V,o,j⟩:=vA p.form.kind;rcases hU bs with rfl | ⟨pre,b,rfl⟩
 ·have d:ym [] p=p:=by simp[ym]
  have U:cnt ls k=0:=by rw[<-h.cnt,h.rW];rfl
  unfold Yj at had;have hk4:p.form.kind=0\/p.form.kind=1\/p.form.kind=2\/p.form.kind=3:=by
   by_cases hx:p.form.kind=0
   ·exact Or.inl hx
   ·rw[zA hx]at had;by_cases hy:p.form.kind=1\/p.form.kind=2\/p.form.kind=3
    ·exact Or.inr hy
    ·rw[zA hy,zE rfl]at had;cases had
  rw[d];refine⟨A,D,fun hn=>?_,fun h7=>?_,fun h6=>?_,?_⟩
  ·exfalso;apply hn;rcases hk4 with h | h | h | h
   ·exact Or.inl (L.mpr h)
   ·exact Or.inr (Or.inl (J.mpr h))
   ·exact Or.inr (Or.inr (Or.inl (I.mpr h)))
   ·exact Or.inr (Or.inr (Or.inr (H.mpr h)))
  ·have:=j.mp h7;omega
  ·have:=o.mp h6;omega
  ·rw[T,U,zA];rintro (h | h)
   ·have:=o.mp h;omega
   ·have:=j.mp h;omega
 ·have x:¬(pre++[b])=[]:=by simp
  have F:op=pre.map (·.line)++[b.line]:=by rw[h.rW];simp
  have G:=ae pre b;have z:((pre++[b]).length:Int)=cnt ls k:=by rw[<-h.cnt,h.rW];simp
  have f:openerFrom ls k 1=b.line:=h.inv (pre.map (·.line)) b.line [] (by rw[F]);have i:home ls k=(kr (pre++[b])).line:=by
   refine h.home _ ?_;rw[h.rW];cases pre with
   | nil=>simp[kr]
   | cons c r=>simp[kr]
  have y:¬idx p.form.kind=3->home ls (k+1)=(kr (pre++[b])).line:=fun hn=>by rw[nO O R,zA hn];exact i
  by_cases h46:p.form.kind=6\/p.form.kind=4
  ·have d:ym (pre++[b]) p=⟨p.yY,p.form,((pre++[b]).length:Int)-1,b.line,(kr (pre++[b])).line⟩:=by
    rw[ym,zA x,zE h46,G]
   rw[d];refine⟨A,D,fun hn=>?_,fun h7=>?_,fun h6=>?_,?_⟩
   ·show ((kr (pre++[b])).line:Int)=_;rw[y (fun e=>hn (Or.inr (Or.inr (Or.inr e))))]
   ·show (b.line:Int)=_;rw[f]
   ·show (b.line:Int)=_;rw[f]
   ·show ((pre++[b]).length:Int)-1=_;rw[zE (h46.imp o.mpr j.mpr),z]
  ·have d:ym (pre++[b]) p=⟨p.yY,p.form,(pre++[b]).length,p.opener,(kr (pre++[b])).line⟩:=by
    rw[ym,zA x,zA h46]
   rw[d];refine⟨A,D,fun hn=>?_,fun h7=>?_,fun h6=>?_,?_⟩
   ·show ((kr (pre++[b])).line:Int)=_;rw[y (fun e=>hn (Or.inr (Or.inr (Or.inr e))))]
   ·exact absurd (Or.inr (j.mp h7)) h46
   ·exact absurd (Or.inl (o.mp h6)) h46
   ·show ((pre++[b]).length:Int)=_;rw[zA (fun e=>h46 (e.imp o.mp j.mp)),z]
def eh (ls:List (List ByteArray)) (k:Nat) (acc:List PL) (Z:Nat×List PL×List Zx) (X:Nat):Prop:=
 (Z.1=0/\Z.2.2=[]/\X=0/\∃ps,Z.2.1=acc++ps/\LN ls k ps (ls.drop k))\/(Z.1=0/\¬Z.2.2=[]/\X=ls.length)\/(¬Z.1=0/\X=Z.1)
theorem uV {ls:List (List ByteArray)}:∀(rem:List PL) (k:Nat) (bs:List Zx) (acc:List PL) (op sp:List Nat),LR FH rem (ls.drop k)->SR ls k bs op sp->k<=ls.length->
  eh ls k acc (Rt.nestFrom rem (k+1) bs acc) (nestFrom ls (ls.drop k) k op sp)
 | [],k,bs,acc,op,sp,hr,hs,hkl=>by
  have hk:ls.drop k=[]:=by
   generalize ls.drop k=d at hr;cases hr;rfl
  have T:k=ls.length:=by
   have:=qB List.length hk;simp at this;omega
  rw[hk];by_cases hb:bs=[]
  ·refine Or.inl ⟨rfl,hb,?_,[],by simp[Rt.nestFrom],by rw[hk];exact .nil k⟩;rw[nestFrom,zE (by rw[hs.rW,hb];rfl)]
  ·refine Or.inr (Or.inl ⟨rfl,hb,?_⟩);rw[nestFrom,zA (by rw[hs.rW];simpa using hb),T]
 | p::rem,k,bs,acc,op,sp,hr,hs,hkl=>by
  have hk:k < ls.length:=by
   have:=hr.len;simp at this;omega
  have x:=zZ hk;rw[x]at hr;cases hr with
  | cons _ _ _ _ hp hr=>
  have z:=Ya hp.1;obtain⟨i0,i1,i2,H,O,i5,Z,W⟩:=vA p.form.kind;have y:op.length=bs.length:=by rw[hs.rW];simp
  have j:Yj bs p.form.kind=false->eh ls k acc (Rt.nestFrom (p::rem) (k+1) bs acc) (k+1):=by
   intro i;rw[Rt.nestFrom,zA (by rw[i];simp)];exact Or.inr (Or.inr ⟨by simp,rfl⟩)
  have A:∀op' sp',Yj bs p.form.kind=true->SR ls (k+1) (qK bs (k+1) p.form.kind) op' sp'->eh ls k acc (Rt.nestFrom (p::rem) (k+1) bs acc) (nestFrom ls (ls.drop (k+1)) (k+1) op' sp'):=by
   intro op' sp' i R;have hrel:=sG hs hk hp i;rw[Rt.nestFrom,zE i];rcases uV rem (k+1) _ (acc++[ym bs p]) op' sp' hr R hk with⟨a1,a2,a3,ps,a4,a5⟩| a | a
   ·exact Or.inl ⟨a1,a2,a3,ym bs p::ps,by rw[a4];simp,by rw[x];exact .cons k _ _ _ _ hrel a5⟩
   ·exact Or.inr (Or.inl a)
   ·exact Or.inr (Or.inr a)
  rw[Vt hk z];by_cases e0:p.form.kind=0
  ·have i:Yj bs p.form.kind=true:=by rw[Yj,zE e0]
   have f:qK bs (k+1) p.form.kind=bs:=by simp[qK,e0]
   have h0:=i0.mpr e0;rw[zE h0];exact A op sp i (by rw[f];exact hs.same hk z (by omega) (by omega))
  rw[zA (fun e=>e0 (i0.mp e))];by_cases et:p.form.kind=1\/p.form.kind=2\/p.form.kind=3
  ·have ei:idx p.form.kind=1\/idx p.form.kind=2\/idx p.form.kind=3:=et.imp i1.mpr (Or.imp i2.mpr H.mpr);by_cases hb:bs=[]
   ·have i:Yj bs p.form.kind=true:=by rw[Yj,zA e0,zE et];simp[hb]
    rw[zA (by rw[y,hb];simp[ei])];by_cases e3:p.form.kind=3
    ·have U:=H.mpr e3;have f:qK bs (k+1) p.form.kind=bs++[⟨k+1,3,false⟩]:=by simp[qK,e3]
     rw[zE (Or.inl U)];refine A (op++[k+1]) sp i ?_;rw[f];exact hs.push hk z (Or.inl U) ⟨fun _=>hb,fun _=>U⟩ ⟨fun e=>by omega,fun e=>by omega⟩
    ·have f:qK bs (k+1) p.form.kind=bs:=by
      rw[qK,zA (by omega),zA (by omega),zA (by omega)]
     have G:¬(idx p.form.kind=3\/idx p.form.kind=4\/idx p.form.kind=5):=by omega
     have n6:¬idx p.form.kind=6:=by omega
     have F:¬idx p.form.kind=7:=by omega
     rw[zA G,zA n6,zA F];refine A op sp i ?_;rw[f];exact hs.same hk z G F
   ·have i:Yj bs p.form.kind=false:=by rw[Yj,zA e0,zE et];simp[hb]
    have:¬op.length=0:=by rw[y];simpa using hb
    rw[zE (by simp[ei,this])];exact j i
  ·have V:¬(idx p.form.kind=1\/idx p.form.kind=2\/idx p.form.kind=3):=fun e=>et (e.imp i1.mp (Or.imp i2.mp H.mp));rcases hU bs with rfl | ⟨pre,b,rfl⟩
   ·have i:Yj [] p.form.kind=false:=by rw[Yj,zA e0,zA et,zE rfl]
    have:op.length=0:=by rw[y];rfl
    rw[zE (by simp[V,this])];exact j i
   ·have o:¬(pre++[b])=[]:=by simp
    have J:=ae pre b;have N:¬op.length=0:=by rw[y];simp
    rw[zA (by simp[V,N])];have G:¬p.form.kind=3:=fun e=>et (Or.inr (Or.inr e));by_cases e57:p.form.kind=5\/p.form.kind=7
    ·have i:Yj (pre++[b]) p.form.kind=true:=by rw[Yj,zA e0,zA et,zA o,zA (by omega)]
     have hi:idx p.form.kind=3\/idx p.form.kind=4\/idx p.form.kind=5:=Or.inr (e57.imp O.mpr i5.mpr);have f:qK (pre++[b]) (k+1) p.form.kind=(pre++[b])++[⟨k+1,p.form.kind,false⟩]:=by rw[qK,zE (Or.inr e57)]
     rw[zE hi];refine A (op++[k+1]) sp i ?_;rw[f];exact hs.push hk z hi ⟨fun e=>absurd (H.mp e) G,fun e=>absurd e o⟩ O
    ·have D:¬(idx p.form.kind=3\/idx p.form.kind=4\/idx p.form.kind=5):=by
      rintro (e | e | e)
      ·exact G (H.mp e)
      ·exact e57 (Or.inl (O.mp e))
      ·exact e57 (Or.inr (i5.mp e))
     rw[zA D];by_cases e6:p.form.kind=6
     ·have h6:=Z.mpr e6;rw[zE h6];have I:vQ op=b.line:=by rw[hs.rW];simp[vQ]
      have L:=hs.kind b (by simp);have M:Yj (pre++[b]) p.form.kind=(decide (b.kind=5) && !b.aB):=by rw[Yj,zA e0,zA et,zA o,zE e6,J]
      have f:qK (pre++[b]) (k+1) p.form.kind=pre++[⟨b.line,b.kind,true⟩]:=by
       rw[qK,zA (by omega),zE e6,zA o,J];simp
      by_cases hc:b.kind=5/\b.aB=false
      ·have i:Yj (pre++[b]) p.form.kind=true:=by rw[M];simp[hc.1,hc.2]
       rw[zA]
       ·refine A op (sp++[vQ op]) i ?_;rw[f];exact hs.aB hk z h6 hc.2
       ·rintro (h | h)
        ·rw[I,L]at h;simp[hc.1]at h
        ·have:=hs.uO.mp h;rw[hc.2]at this;cases this
      ·have i:Yj (pre++[b]) p.form.kind=false:=by
        rw[M];cases hb:b.aB with
        | true=>simp
        | false=>
         have:¬b.kind=5:=fun e=>hc ⟨e,hb⟩;simp[this]
       rw[zE]
       ·exact j i
       ·by_cases h5:b.kind=5
        ·refine Or.inr (hs.uO.mpr ?_);cases hb:b.aB with
         | true=>rfl
         | false=>exact absurd ⟨h5,hb⟩ hc
        ·refine Or.inl ?_;rw[I,L];simp[h5]
     ·rw[zA (fun e=>e6 (Z.mp e))];have i:Yj (pre++[b]) p.form.kind=true:=by rw[Yj,zA e0,zA et,zA o,zA e6]
      by_cases e4:p.form.kind=4
      ·have h7:=W.mpr e4;have f:qK (pre++[b]) (k+1) p.form.kind=pre:=by
        rw[qK,zA (by omega),zA e6,zE e4];simp
       rw[zE h7];refine A _ _ i ?_;rw[f];exact hs.pop hk z h7
      ·have f:qK (pre++[b]) (k+1) p.form.kind=pre++[b]:=by
        rw[qK,zA (by omega),zA e6,zA e4]
       have F:¬idx p.form.kind=7:=fun e=>e4 (W.mp e);rw[zA F];refine A op sp i ?_;rw[f];exact hs.same hk z D F
open Rt
theorem LN.len {ps:List PL} (h:LN ls k ps us):ps.length=us.length:=by
 induction h with
 | nil=>rfl
 | cons k p t ps us _ _ ih=>simp[ih]
theorem LN.get {ps:List PL} (h:LN ls k ps us):∀j (h1:j < ps.length) (h2:j < us.length),uB ls (k+j) ps[j] us[j]:=by
 induction h with
 | nil=>intro j h1;simp at h1
 | cons k p t ps us hp _ ih=>
  intro j h1 h2;cases j with
  | zero=>exact hp
  | succ j=>
   have:=ih j (by simpa using h1) (by simpa using h2);rw[show k+1+j=k+(j+1) by omega]at this;exact this
theorem uI (d:HF (first t) i):Xl t=decide (i=1\/i=2\/i=3):=by
 obtain⟨k,j,h,f,_⟩:=d;unfold Xl;rw[j,h,f,xO];simp[KV]
theorem BF {fm:qS} (h:kU t fm) (d:fm.kind=1\/fm.kind=2\/fm.kind=3):ve t 1=fm.name:=by
 cases h with
 | var x hx=>rfl
 | array x n hx hn h1 h2=>rfl
 | proc x ps hx hps hl=>rfl
 | _=>simp at d
theorem DQ {p:PL} (h:kU t p.form) (x:ByteArray):isDecl p x=Kk t x:=by
 obtain⟨G,j,i,f,F,D,A,z⟩:=vA p.form.kind;rw[isDecl,Kk,uI (Ya h)];by_cases hk:p.form.kind=1\/p.form.kind=2\/p.form.kind=3
 ·have d:idx p.form.kind=1\/idx p.form.kind=2\/idx p.form.kind=3:=hk.imp j.mpr (Or.imp i.mpr f.mpr);rw[BF h hk,me,qA d];rcases hk with hk | hk | hk <;> simp[hk]
 ·have d:¬(idx p.form.kind=1\/idx p.form.kind=2\/idx p.form.kind=3):=fun e=>hk (e.imp j.mp (Or.imp i.mp f.mp));rw[qP d];have y:¬p.form.kind=1:=fun e=>hk (Or.inl e);have o:¬p.form.kind=2:=fun e=>hk (Or.inr (Or.inl e));have k:¬p.form.kind=3:=fun e=>hk (Or.inr (Or.inr e));simp[y,o,k]
theorem decl_eq {ps:List PL} (h:LN ls k ps us) (x:ByteArray):∀n,Rt.declFrom n ps x=declFrom n us x:=by
 induction h with
 | nil=>intro n;rfl
 | cons k p t ps us hp _ ih=>
  intro n;rw[Rt.declFrom,declFrom,DQ hp.line,ih]
structure ZM (zL:List PL) (ls:List (List ByteArray)):Prop where
 ex:∃ps,zL=kb::ps/\LN ls 0 ps ls
 nested:nested ls=0
theorem ZM.len {zL:List PL} {ls:List (List ByteArray)} (h:ZM zL ls):zL.length=ls.length+1:=by
 obtain⟨ps,rfl,d⟩:=h.ex;simp[d.len]
theorem ZM.get {zL:List PL} {ls:List (List ByteArray)} (h:ZM zL ls) {l:Nat} (f:l < ls.length):∃p,zL[l+1]?=some p/\uB ls l p ls[l]:=by
 obtain⟨ps,rfl,d⟩:=h.ex;have:=d.len;refine⟨ps[l]'(by omega),by simp,?_⟩;have:=d.get l (by omega) f;simpa using this
theorem ZM.Xh {zL:List PL} (h:ZM zL ls) (x:ByteArray):xb zL x=decl ls x:=by
 obtain⟨ps,rfl,d⟩:=h.ex;exact decl_eq d x 1
theorem ZM.um {zL:List PL} (h:ZM zL ls):yA zL (0:Nat)=zF:=by
 obtain⟨ps,rfl,d⟩:=h.ex;rfl
theorem ZM.form {zL:List PL} {ls:List (List ByteArray)} (h:ZM zL ls) {l:Nat} (d:l < ls.length):kU ls[l] (yA zL ((l+1:Nat):Int)):=by
 obtain⟨p,i,f⟩:=h.get d;have:yA zL ((l+1:Nat):Int)=p.form:=by
  rw[yA,zA (by omega),xS,i];rfl
 rw[this];exact f.line
theorem ZM.bD {zL:List PL} (h:ZM zL ls) (x:ByteArray):(decl ls x=0/\yJ zL x=zF)\/(¬decl ls x=0/\∃hd:decl ls x-1 < ls.length,kU ls[decl ls x-1] (yJ zL x)):=by
 have d:=Qb ls x;rw[yJ,h.Xh];by_cases h0:decl ls x=0
 ·exact Or.inl ⟨h0,by rw[h0];exact h.um⟩
 ·refine Or.inr ⟨h0,by omega,?_⟩;have:=h.form (l:=decl ls x-1) (by omega);rw[show decl ls x-1+1=decl ls x by omega]at this;exact this
theorem KO {fm:qS} (h:kU t fm) (f:((first t).toList==[112,114,111,99])=true):fm.kind=3/\fm.params=t.drop 2:=by
 have i:=Ya h;have j:idx fm.kind=3:=by
  have:=i.2.2.2.1;rw[f]at this;simpa using this.symm
 have d:=(vA fm.kind).2.2.2.1.mp j;refine⟨d,?_⟩;cases h with
 | proc x ps hx hps hl=>rfl
 | _=>simp at d
theorem ZM.par {zL:List PL} (h:ZM zL ls) (k:0 < home ls (l+1)) (o:l < ls.length) (x:ByteArray):VS zL ((home ls (l+1):Nat):Int) x=kp (Vp ls l) x:=by
 have y:=tN ls (l+1);have i:=nN ls (l+1) k;obtain⟨d,j⟩:∃d,home ls (l+1)=d+1:=⟨home ls (l+1)-1,by omega⟩;have f:d < ls.length:=by omega
 rw[j,zu,yq f]at i;have:=KO (h.form f) i;rw[VS,Vp,j,zu,yq f,this.2];rfl
theorem ZM.named {zL:List PL} (h:ZM zL ls) (k:0 < home ls (l+1)) (j:l < ls.length) (i:yg x=true) (c:Bool):QK ls l x c=if c=true then ZW zL ((home ls (l+1):Nat):Int) x else Rt.isVar zL ((home ls (l+1):Nat):Int) x:=by
 rw[QK,zA (by rw[i];simp),ZW,Rt.isVar,h.par k j];cases hp:kp (Vp ls l) x with
 | true=>rw[zE rfl];cases c <;> rfl
 | false=>
  rw[zA (by simp)];rcases h.bD x with⟨h0,hz⟩| ⟨h0,hd,hli⟩
  ·rw[zE h0,hz];cases c <;> rfl
  ·rw[zA h0];obtain⟨z,y,o,_⟩:=Ya hli;obtain⟨_,f,d,_⟩:=vA (yJ zL x).kind;rw[yq hd,y,o];cases c with
   | true=>simp[d]
   | false=>simp[f]
theorem aX {zL:List PL} {ls:List (List ByteArray)} (h:ZM zL ls) {l:Nat} (j:0 < home ls (l+1)) (i:l < ls.length) (t:List ByteArray):∀f k,k+f=t.length->
  namesFrom ls l t f k=toksOK (Rt.isVar zL ((home ls (l+1):Nat):Int)) (ZW zL ((home ls (l+1):Nat):Int)) (t.drop k)
 | 0,k,hk=>by rw[zp (by omega)];rfl
 | f+1,k,hk=>by
  have d:k < t.length:=by omega
  rw[namesFrom,zZ d,toksOK,aX h j i t f (k+1) (by omega),qq d];congr 1;have o:(cellAt t k=true)↔first (t.drop (k+1))=qI:=by
   rw[cellAt,ZF,jG];have:first (t.drop (k+1))=ve t (k+1):=by simp[first,ve]
   rw[this];rfl
  by_cases hx:yg t[k]=true
  ·rw[h.named j i hx,zE hx];by_cases hcc:cellAt t k=true
   ·rw[zE hcc,zE (o.mp hcc)]
   ·rw[zA hcc,zA (fun e=>hcc (o.mpr e))]
  ·rw[zA hx,QK,zE (by simpa using hx)]
theorem Y0 {zL:List PL} {proc:Int} {e:List qM}:XP zL proc e=ZG (Rt.isVar zL proc) (ZW zL proc) e:=rfl
theorem KF (V A:ByteArray->Bool) (d:yg x=true) (r:List ByteArray):toksOK V A (x::r)=((if first r=qI then A x else V x) && toksOK V A r):=by rw[toksOK,zE d]
theorem db (l:List UInt8) (h:(⟨l.toArray⟩:ByteArray)∈KM):yg ⟨l.toArray⟩=false:=by
 have:kp KM ⟨l.toArray⟩=true:=by simp[kp];exact h
 simp[yg,this]
theorem aE (V A:ByteArray->Bool):∀(es:List (List qM)) (args:List (List ByteArray)),Bg es args->toksOK V A (joinC args)=es.all (ZG V A)
 | _,_,.nil=>rfl
 | _,_,.cons e p [] [] he .nil=>by simp[joinC,he.2.1]
 | _,_,.cons e p (e2::es) (q::qs) he h=>by
  have d:=aE V A (e2::es) (q::qs) h;rw[joinC,ZQ V A (by show ¬kS=qI;simp[kS,qI]),jI V A (show yg kS=false from ZV 44 (by decide)),d,<-he.2.1];simp only[kY]
theorem vG {r:List ByteArray} (lt:List UInt8) (h:x=⟨lt.toArray⟩) (j:(lt==[118,97,114])=false) (i:(lt==[97,114,114,97,121])=false) (f:(lt==[112,114,111,99])=false) (d:(lt==[99,97,108,108])=false):jZ ls l (x::r)=namesFrom ls l (x::r) r.length 1:=by
 have e:(first (x::r)).toList=lt:=by show x.toList=lt;rw[h,jl]
 rw[jZ,e,j,i,f,d];simp
theorem fA {t:List ByteArray}:∀f k,k+f=t.length->(twiceFrom t f k=false↔∀i,k<=i->i < t.length->kp (t.take i) (ve t i)=false)
 | 0,k,hk=>by
  constructor
  ·intro _ i j d;omega
  ·intro _;rfl
 | f+1,k,hk=>by
  rw[twiceFrom,Bool.or_eq_false_iff,fA f (k+1) (by omega)];constructor
  ·rintro ⟨j,d⟩ i x o;by_cases e:i=k
   ·subst e;exact j
   ·exact d i (by omega) o
  ·intro h;exact⟨h k (zB _) (by omega),fun i j d=>h i (by omega) d⟩
theorem ug (d:i < t.length):kp (t.take i) (ve t i)=false↔∀j,j < i->¬t[i]?=t[j]?:=by
 rw[qq d,yL];constructor
 ·intro h j f e;apply h;rw[zJ d,zJ (show j < t.length by omega)]at e;simp[kp];rw[List.mem_take_iff_getElem];exact⟨j,by omega,by simpa using e.symm⟩
 ·intro h e;simp[kp]at e;rw[List.mem_take_iff_getElem]at e;obtain⟨j,f,e⟩:=e;have:=h j (by omega);rw[zJ d,zJ (show j < t.length by omega)]at this;exact this (by rw[e])
theorem dP (t:List ByteArray):VN t=false↔bh t t.length:=by
 rw[VN,fA t.length 0 (by omega)];constructor
 ·intro h i j f d _;exact(ug d).mp (h i (by omega) d) j f
 ·intro h i _ d;exact(ug d).mpr (fun j f=>h i j f d d)
open Classical in
theorem CB {zL:List PL} (h:ZM zL ls) (H:l < ls.length) {p:PL} (D:uB ls l p ls[l]):jZ ls l ls[l]=qh zL (l+1) p:=by
 have M:Xl ls[l]=false->((first ls[l]).toList==[])=false->0 < home ls (l+1):=fun a b=>dc h.nested H a b;have o:=D.proc;have hli:=D.line;clear D;have j:=h.Xh;generalize ls[l]=t at *;obtain⟨R,A,T,I,G⟩:=p;simp only at hli o;have y:=Ya hli;have d:¬(idx A.kind=0\/idx A.kind=1\/idx A.kind=2\/idx A.kind=3)->∀k f,k+f=t.length->namesFrom ls l t f k=toksOK (Rt.isVar zL G) (ZW zL G) (t.drop k):=by
  intro z k f L;have F:0 < home ls (l+1):=M (by rw[uI y,qP];intro e;exact z (Or.inr e)) (by rw[y.1,qP];intro e;exact z (Or.inl e));rw[o z];exact aX h F H t f k L
 unfold qh;cases hli with
 | empty=>simp[jZ,first,ve,namesFrom,jF,XP]
 | var x hx=>
  have e:(first [Dy,x]).toList=[118,97,114]:=jl [118,97,114];rw[jZ,e,zE (by decide),zE (Or.inl rfl)];show decide (decl ls x=l+1)=decide (xb zL x=l+1);rw[j]
 | array x n hx z h1 h2=>
  have e:(first [nc,x,n]).toList=[97,114,114,97,121]:=jl [97,114,114,97,121];rw[jZ,e,zA (by decide),zE (by decide),zE (Or.inr rfl)];show decide (decl ls x=l+1)=decide (xb zL x=l+1);rw[j]
 | proc x ps hx hps hpl=>
  have e:(first (lK::x::ps)).toList=[112,114,111,99]:=jl [112,114,111,99];rw[jZ,e,zA (by decide),zA (by decide),zE (by decide),zA (by simp),zE rfl];show (decide (decl ls x=l+1) && !VN ps && (!(x.toList==[109,97,105,110])|| decide ((lK::x::ps).length=2)))=(decide (xb zL x=l+1) && (!((x.toList==QN) && decide (0 < ps.length)) && decide (bh ps ps.length)));rw[j,show QN=[109,97,105,110]from rfl];have J:VN ps=!decide (bh ps ps.length):=by
   by_cases hd:bh ps ps.length
   ·rw[(dP ps).mpr hd,qA hd];rfl
   ·rw[qP hd];cases htw:VN ps with
    | true=>rfl
    | false=>exact absurd ((dP ps).mp htw) hd
  rw[J];have hz:decide ((lK::x::ps).length=2)=!decide (0 < ps.length):=by
   rw[xO];simp
  rw[hz];cases decide (decl ls x=l+1) <;> cases (x.toList==[109,97,105,110]) <;> cases decide (bh ps ps.length) <;> cases decide (0 < ps.length) <;> rfl
 | end_=>
  rw[vG (x:=DH) [101,110,100] rfl (by decide) (by decide) (by decide) (by decide)];simp[namesFrom,jF,XP]
 | F8 q e he=>
  rw[vG (x:=Gi) [105,102] rfl (by decide) (by decide) (by decide) (by decide),d (by simp[idx]) 1 _ (by simp;omega)];show toksOK _ _ q=_;rw[<-he.2.1];simp[jF,Y0,ZG]
 | gb=>
  rw[vG (x:=uw) [101,108,115,101] rfl (by decide) (by decide) (by decide) (by decide)];simp[namesFrom,jF,XP]
 | Vg q e he=>
  rw[vG (x:=ez) [119,104,105,108,101] rfl (by decide) (by decide) (by decide) (by decide),d (by simp[idx]) 1 _ (by simp;omega)];show toksOK _ _ q=_;rw[<-he.2.1];simp[jF,Y0,ZG]
 | set1 x q e hx he=>
  rw[vG (x:=Zz) [115,101,116] rfl (by decide) (by decide) (by decide) (by decide),d (by simp[idx]) 1 _ (by simp;omega)];show toksOK _ _ (x::Ym::q)=_;rw[KF _ _ hx,zA (show ¬first (Ym::q)=qI by show ¬Ym=qI;simp[Ym,qI]),jI _ _ (show yg Ym=false from db [116,111] (by simp[KM])),<-he.2.1];simp[jF,Y0,ZG]
 | rj x q i u e hx hi he=>
  rw[vG (x:=Zz) [115,101,116] rfl (by decide) (by decide) (by decide) (by decide),d (by simp[idx]) 1 _ (by simp;omega)];show toksOK _ _ (x::qI::(q++kM::Ym::u))=_;rw[KF _ _ hx,zE (show first (qI::(q++kM::Ym::u))=qI from rfl),jI _ _ (show yg qI=false from ZV 91 (by decide)),ZQ _ _ (show ¬first (kM::Ym::u)=qI by show ¬kM=qI;simp[kM,qI]),
   jI _ _ (show yg kM=false from ZV 93 (by decide)),jI _ _ (show yg Ym=false from db [116,111] (by simp[KM])),<-hi.2.1,<-he.2.1];simp[jF,Y0,ZG]
 | print q e he=>
  rw[vG (x:=fV) [112,114,105,110,116] rfl (by decide) (by decide) (by decide) (by decide),d (by simp[idx]) 1 _ (by simp;omega)];show toksOK _ _ q=_;rw[<-he.2.1];simp[jF,Y0,ZG]
 | read x hx=>
  rw[vG (x:=oF) [114,101,97,100] rfl (by decide) (by decide) (by decide) (by decide),d (by simp[idx]) 1 _ (by simp)];show toksOK _ _ [x]=_;rw[KF _ _ hx,zA (show ¬first []=qI by simp[first,ve,qI])];simp[jF,Y0,ZG,toksOK]
 | call x args vs hx hv=>
  have e:(first (VY::x::joinC args)).toList=[99,97,108,108]:=jl [99,97,108,108];rw[jZ,e,zA (by decide),zA (by decide),zA (by decide),zE (by decide),d (by simp[idx]) 2 _ (by simp;omega)];show (Xr ls (VY::x::joinC args) && toksOK _ _ (joinC args))=_;rw[aE _ _ _ _ hv];have N:Xr ls (VY::x::joinC args)=XF zL ⟨12,x,0,[],[],vs⟩:=by
   rw[Xr,XF];show (if decl ls x=0 then false else if ((first (xU ls (decl ls x-1))).toList==[112,114,111,99])=false then false else decide ((parts (joinC args)).length=((xU ls (decl ls x-1)).drop 2).length))=(decide ((yJ zL x).kind=3) && decide ((yJ zL x).params.length=vs.length));rcases h.bD x with⟨h0,hz⟩| ⟨h0,hd,hli⟩
   ·rw[zE h0,hz];rfl
   ·rw[zA h0,yq hd];cases hpc:((first ls[decl ls x-1]).toList==[112,114,111,99])with
    | false=>
     rw[zE rfl];have:=(Ya hli).2.2.2.1;rw[hpc]at this;have O:=(vA (yJ zL x).kind).2.2.2.1;have:¬(yJ zL x).kind=3:=fun e=>by rw[O.mpr e]at this;cases this
     simp[this]
    | true=>
     rw[zA (by decide)];have:=KO hli hpc;rw[this.1,this.2,aP args hv.is,<-hv.len];simp[eY]
  rw[N];simp[jF,Y0];rfl
 | Jb=>
  rw[vG (x:=aK) [114,101,116,117,114,110] rfl (by decide) (by decide) (by decide) (by decide)];simp[namesFrom,jF,XP]
end Rf
end Go.Proofs.YthleadfkfnnadaaGreat
