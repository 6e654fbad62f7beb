/- The document's answer: how blocks lie in each other. -/
import Derived.Test.YthleadfkfnnadaaGreatRefG
set_option maxHeartbeats 4000000
set_option maxRecDepth 100000
set_option linter.unusedSimpArgs false
namespace Go.Proofs.YthleadfkfnnadaaGreat
open Go.RowKit
variable {ls:List (List ByteArray)} {op sp pre:List Nat} {S g cap l B k g' cap':Nat} {o:Obj} {v ov sv:Value} {w w1 wr:World}
theorem fw (l i:Nat) (t:List ByteArray) (h:jA w S g cap ls) (o:Lawful ls) (f:l < ls.length) (d:ls[l]=t) (j:i < t.length) (k:Rf.yg t[i]=true->0 < Rf.home ls (l+1)) :
  Calls Tryz.prog 142 #[.pointer (some ⟨S,0,none⟩),.int .i64 ((l:Int)+1),.int .i64 i] w fun e w'=>e=.returned (.bool (Rf.QK ls l t[i] (Rf.cellAt t i)))/\Below w.heap.size w w':=by
 subst d
 exact Aa l i h o f j k
theorem oC (h:jA w S g cap ls) (I:Lawful ls) (D:l < ls.length) (y:nh ls l D)
  (M:((Rf.first ls[l]).toList==[118,97,114])=false) (L:((Rf.first ls[l]).toList==[97,114,114,97,121])=false) (J:((Rf.first ls[l]).toList==[112,114,111,99])=false) (U:((Rf.first ls[l]).toList==[99,97,108,108])=false) :
  Calls Tryz.prog 83 #[.pointer (some ⟨S,0,none⟩),.int .i64 ((l:Int)+1)] w fun e w'=>e=.returned (.bool (Rf.jZ ls l ls[l]))/\Below w.heap.size w w':=by
 have A:=I.len
 have HL:=zD I
 have HH:=zD h
 have cT:=h.top
 have hf:=I.XO D
 have a2:=hf.1
 obtain⟨ad,c,cR,hv⟩:=h.row l D
 have a3:(l:Int) < (ls.length:Int):=by omega
 have a0:IntKind.i64.wrap ((l:Int)+1-1)=l:=by rw[show (l:Int)+1-1=(l:Int) by omega];exact zl _ ⟨by omega,by omega⟩
 have a1:IntKind.i64.wrap (l:Int)=l:=zl _ ⟨by omega,by omega⟩
 have d:=y.home (by unfold Rf.Xl;rw[M,L,J];rfl)
 have O:=zD d
 have hR:Rf.jZ ls l ls[l]=Rf.namesFrom ls l ls[l] (ls[l].length-1) 1:=by
  rw[Rf.jZ,zA (by rw[M];simp),zA (by rw[L];simp),zA (by rw[J];simp),zA (by rw[U];simp)]
 have HR:=zD hR
 have T:=zD (show ∀k (hk:k < ls[l].length),Rf.ve ls[l] k=ls[l][k]from fun k hk=>Rf.qq hk)
 clear h I hv hR d y
 generalize Rf.jZ ls l ls[l]=R at *
 go_enter Tryz.func83,Tryz.ntmps83
 go_wp2_with fail
 refine(xz l HH.u D A).mono ?_
 rintro e w1 ⟨rfl,x⟩
 have HS1:=qG (HH.u.zP x) x
 clear x cT cR
 have HQ:=gN M L J U
 generalize Rf.first ls[l]=z at *
 go_wp2_with fail
 generalize G:ls[l]=t at *
 have N:=zD G
 clear G
 go_loopw [10] (fun i wr=>∃k f:Nat,1<=k/\(k+f=t.length\/(f=0/\t.length<=k))/\k<=1000/\i=.int .i64 k/\Rf.namesFrom ls l t f k=R/\jA wr S g cap ls/\Below w.heap.size w wr) (fun i _=>t.length-(intOf i).toNat)
 case atStart=>exact⟨1,t.length-1,zB _,by omega,by omega,rfl,HR.u.symm,HS1.u.1,HS1.u.2⟩
 case round=>
  obtain⟨k,f,a5,hk,a4,rfl,Z,V,F⟩:=hrel
  have H:=qG V F
  have HT:=zD Z
  clear V F Z
  cases f with
  | zero=>
   have j:¬(k:Int) < (t.length:Int):=by omega
   go_wp2_with fail
   go_ret
   exact⟨by rw[<-HT.u];rfl,H.u.2⟩
  | succ f=>
   have j:k < t.length:=by omega
   have W:(k:Int) < (t.length:Int):=by omega
   rw[Rf.namesFrom,T.u k j]at HT
   go_wp2_with fail
   refine(fw l k t H.u.1 HL.u D N.u j (O.u k j)).mono ?_
   rintro e w2 ⟨rfl,o⟩
   have HS2:=qG (H.u.1.zP o) (H.u.2.trans (o.mono H.u.2.size))
   clear o
   cases hz:Rf.QK ls l t[k] (Rf.cellAt t k)with
   | false=>
    rw[hz]at HT
    go_wp2_with fail
    go_ret
    exact⟨by rw[<-HT.u];rfl,HS2.u.2⟩
   | true=>
    rw[hz,Vd]at HT
    go_wp2_with fail
    go_roundw
    case rel=>exact⟨k+1,f,by omega,by omega,by omega,by go_num,HT.u,HS2.u.1,HS2.u.2⟩
    case measure=>simp[intOf];omega
theorem rq (h:jA w S g cap ls) (L:Lawful ls) (F:l < ls.length) (x:nh ls l F)
  (T:((Rf.first ls[l]).toList==[118,97,114])=false) (O:((Rf.first ls[l]).toList==[97,114,114,97,121])=false) (N:((Rf.first ls[l]).toList==[112,114,111,99])=false) (M:((Rf.first ls[l]).toList==[99,97,108,108])=true) :
  Calls Tryz.prog 83 #[.pointer (some ⟨S,0,none⟩),.int .i64 ((l:Int)+1)] w fun e w'=>e=.returned (.bool (Rf.jZ ls l ls[l]))/\Below w.heap.size w w':=by
 have G:=L.len
 have HL:=zD L
 have HH:=zD h
 have cT:=h.top
 have hf:=L.XO F
 have a3:=hf.1
 obtain⟨ad,c,cR,hv⟩:=h.row l F
 have a4:(l:Int) < (ls.length:Int):=by omega
 have a1:IntKind.i64.wrap ((l:Int)+1-1)=l:=by rw[show (l:Int)+1-1=(l:Int) by omega];exact zl _ ⟨by omega,by omega⟩
 have a2:IntKind.i64.wrap (l:Int)=l:=zl _ ⟨by omega,by omega⟩
 have h2:=x.call M
 have d:=x.home (by unfold Rf.Xl;rw[T,O,N];rfl)
 have V:=zD d
 have hR:Rf.jZ ls l ls[l]=(Rf.Xr ls ls[l] && Rf.namesFrom ls l ls[l] (ls[l].length-2) 2):=by
  rw[Rf.jZ,zA (by rw[T];simp),zA (by rw[O];simp),zA (by rw[N];simp),zE M]
 have HR:=zD hR
 have Z:=zD (show ∀k (hk:k < ls[l].length),Rf.ve ls[l] k=ls[l][k]from fun k hk=>Rf.qq hk)
 clear h L hv hR d x
 generalize Rf.jZ ls l ls[l]=R at *
 go_enter Tryz.func83,Tryz.ntmps83
 go_wp2_with fail
 refine(xz l HH.u F G).mono ?_
 rintro e w1 ⟨rfl,D⟩
 have o:=qG (HH.u.zP D) D
 clear D cT cR
 have HQ:=gN T O N M
 generalize Rf.first ls[l]=z at *
 have W:=zD h2
 go_wp2_with fail
 refine(tj l o.u.1 HL.u F W.u).mono ?_
 rintro e w2 ⟨rfl,A⟩
 have HS2:=qG (o.u.1.zP A) (o.u.2.trans (A.mono o.u.2.size))
 clear A
 cases hc:Rf.Xr ls ls[l]with
 | false=>
 rw[hc]at HR
 go_wp2_with fail
 go_ret
 exact⟨by rw[HR.u];rfl,HS2.u.2⟩
 | true=>
 rw[hc,Vd]at HR
 clear hc
 go_wp2_with fail
 generalize I:ls[l]=t at *
 have U:=zD I
 clear I
 go_loopw [10] (fun i wr=>∃k f:Nat,2<=k/\(k+f=t.length\/(f=0/\t.length<=k))/\k<=1000/\i=.int .i64 k/\Rf.namesFrom ls l t f k=R/\jA wr S g cap ls/\Below w.heap.size w wr) (fun i _=>t.length-(intOf i).toNat)
 case atStart=>exact⟨2,t.length-2,zB _,by omega,by omega,rfl,HR.u.symm,HS2.u.1,HS2.u.2⟩
 case round=>
  obtain⟨k,f,a6,hk,a5,rfl,hT,hs,H⟩:=hrel
  have J:=qG hs H
  have HT:=zD hT
  clear hs H hT
  cases f with
  | zero=>
   have j:¬(k:Int) < (t.length:Int):=by omega
   go_wp2_with fail
   go_ret
   exact⟨by rw[<-HT.u];rfl,J.u.2⟩
  | succ f=>
   have j:k < t.length:=by omega
   have a0:(k:Int) < (t.length:Int):=by omega
   rw[Rf.namesFrom,Z.u k j]at HT
   go_wp2_with fail
   refine(fw l k t J.u.1 HL.u F U.u j (V.u k j)).mono ?_
   rintro e w3 ⟨rfl,y⟩
   have HS3:=qG (J.u.1.zP y) (J.u.2.trans (y.mono J.u.2.size))
   clear y
   cases hz:Rf.QK ls l t[k] (Rf.cellAt t k)with
   | false=>
    rw[hz]at HT
    go_wp2_with fail
    go_ret
    exact⟨by rw[<-HT.u];rfl,HS3.u.2⟩
   | true=>
    rw[hz,Vd]at HT
    go_wp2_with fail
    go_roundw
    case rel=>exact⟨k+1,f,by omega,by omega,by omega,by go_num,HT.u,HS3.u.1,HS3.u.2⟩
    case measure=>simp[intOf];omega
theorem wi (h:jA w S g cap ls) (i:Lawful ls) (d:l < ls.length) (f:nh ls l d) :
  Calls Tryz.prog 83 #[.pointer (some ⟨S,0,none⟩),.int .i64 ((l:Int)+1)] w fun e w'=>e=.returned (.bool (Rf.jZ ls l ls[l]))/\Below w.heap.size w w':=by
 by_cases q1:((Rf.first ls[l]).toList==[118,97,114])=true
 ·exact fQ l h i d (Or.inl q1)
 replace q1:=yL.mpr q1
 by_cases q2:((Rf.first ls[l]).toList==[97,114,114,97,121])=true
 ·exact fQ l h i d (Or.inr ⟨q1,q2⟩)
 replace q2:=yL.mpr q2
 by_cases q3:((Rf.first ls[l]).toList==[112,114,111,99])=true
 ·exact rp l h i d q1 q2 q3
 replace q3:=yL.mpr q3
 by_cases q4:((Rf.first ls[l]).toList==[99,97,108,108])=true
 ·exact rq h i d f q1 q2 q3 q4
 exact oC h i d f q1 q2 q3 (yL.mpr q4)
namespace Rf
def vQ (l:List Nat):Nat:=l.getLastD 0
def nestFrom (ls:List (List ByteArray)):List (List ByteArray)->Nat->List Nat->List Nat->Nat
 | [],n,op,_=>if op.length=0 then 0 else n
 | t::r,n,op,sp=>
  if ((first t).toList==[])=true then nestFrom ls r (n+1) op sp
  else if Xl t=!decide (op.length=0)then n+1
  else if kJ t=true then nestFrom ls r (n+1) (op++[n+1]) sp
  else if ((first t).toList==[101,108,115,101])=true then
   (if ((first (xU ls (vQ op-1))).toList==[105,102])=false\/(0 < sp.length/\vQ sp=vQ op)then n+1 else nestFrom ls r (n+1) op (sp++[vQ op]))
  else if ((first t).toList==[101,110,100])=true then nestFrom ls r (n+1) op.dropLast (if 0 < sp.length/\vQ sp=vQ op then sp.dropLast else sp)
  else nestFrom ls r (n+1) op sp
def nested (ls:List (List ByteArray)):Nat:=nestFrom ls ls 0 [] []
end Rf
theorem Tryz.eU:(Tryz.prog.info? 3).map (fun i=>(i.zero,i.size,i.bytes))=some (some (.int .i64 0),1,8):=by kernel_rfl
def iv (n:Nat):Value:=.int .i64 n
theorem eI (m:Nat) (h:m<=1000):IntKind.i64.wrap ((m:Int)+1-1)=(m:Int):=by
 rw[show (m:Int)+1-1=(m:Int) by omega];exact zl _ ⟨by omega,by omega⟩
theorem eJ (m:Nat) (h:m<=1000):IntKind.i64.wrap (m:Int)=(m:Int):=zl _ ⟨by omega,by omega⟩
theorem lP {e:TypeId} {size n:Nat} {xs:List Value} {row:Option Nat} (h:w.ownsRow B e size v n xs) (i:(w.alloc o).grownBy w1 row) (d:∀g,v.ownBlock=some g->¬row=some g):w1.ownsRow B e size v n xs:=by
 obtain⟨j,h2⟩:=h
 refine⟨j,?_⟩
 rcases h2 with h2 | ⟨g,cap,cur,hv,hgB,hh,r⟩
 ·exact Or.inl h2
 ·refine Or.inr ⟨g,cap,cur,hv,hgB,?_,r⟩
  have f:=zQ hh
  rw[i.block g (by simp;omega) (fun e=>d g (by rw[hv];rfl) e.symm)]
  rw[<-hh]
  exact((zI w.heap.size w).alloc (zB _) o).block g f
structure Zo (w wr:World) (k:Nat) (op sp:List Nat) (ov sv:Value):Prop where
 Fu:op.length<=k
 GS:sp.length<=k
 ops:∀o∈op,1<=o/\o<=k
 cf:wr.ownsRow w.heap.size 3 1 ov op.length (op.map iv)
 dx:wr.ownsRow w.heap.size 3 1 sv sp.length (sp.map iv)
 ne:∀g,ov.ownBlock=some g->¬sv.ownBlock=some g
 below:Below w.heap.size w wr
theorem Zo.step (h:Zo w wr k op sp ov sv):Zo w wr (k+1) op sp ov sv:=
 ⟨by have:=h.Fu;omega,by have:=h.GS;omega,fun o ho=>by have:=h.ops o ho;omega,h.cf,h.dx,h.ne,h.below⟩
theorem Zo.zP {w2:World} (h:Zo w wr k op sp ov sv) (d:Below wr.heap.size wr w2):Zo w w2 k op sp ov sv:=
 ⟨h.Fu,h.GS,h.ops,yG h.cf d,yG h.dx d,h.ne,h.below.trans (d.mono h.below.size)⟩
theorem Zo.CE (h:Zo w wr k op sp ov sv)
  (f:w1.ownsRow w.heap.size 3 1 (.slice (some ⟨g',0,none⟩) (op.length+1) cap') (op.length+1) (op.map iv++[iv (k+1)])) (d:(wr.alloc o).grownBy w1 ov.ownBlock) (hat:ov.ownBlock=some g'\/g'=wr.heap.size+1) :
  Zo w w1 (k+1) (op++[k+1]) sp (.slice (some ⟨g',0,none⟩) (op.length+1) cap') sv:=by
 refine⟨by have:=h.Fu;simp;omega,by have:=h.GS;omega,fun x hx=>?_,by rw[yB,ze];exact f,lP h.dx d (fun g hgg e=>h.ne g e hgg),fun g hgg e=>?_,qY h.below h.below.size h.cf d⟩
 ·simp at hx
  rcases hx with hx | rfl
  ·have:=h.ops x hx;omega
  ·omega
 ·simp[Value.ownBlock]at hgg
  subst hgg
  rcases hat with hat | hat
  ·exact h.ne _ hat e
  ·have:=(h.dx.lt _ e).2
   omega
theorem Zo.FQ {q:Nat} (h:Zo w wr k op sp ov sv) (i:sp.length+1<=k+1)
  (f:w1.ownsRow w.heap.size 3 1 (.slice (some ⟨g',0,none⟩) (sp.length+1) cap') (sp.length+1) (sp.map iv++[iv q])) (d:(wr.alloc o).grownBy w1 sv.ownBlock) (hat:sv.ownBlock=some g'\/g'=wr.heap.size+1) :
  Zo w w1 (k+1) op (sp++[q]) ov (.slice (some ⟨g',0,none⟩) (sp.length+1) cap'):=by
 refine⟨by have:=h.Fu;omega,by simp;omega,fun x hx=>by have:=h.ops x hx;omega,lP h.cf d h.ne,by rw[yB,ze];exact f,fun g hgg e=>?_,qY h.below h.below.size h.dx d⟩
 simp[Value.ownBlock]at e
 subst e
 rcases hat with hat | hat
 ·exact h.ne _ hgg hat
 ·have:=(h.cf.lt _ hgg).2
  omega
theorem Zo.Fs {o:Nat} (h:Zo w wr k (pre++[o]) sp (.slice (some ⟨g,0,none⟩) (pre.length+1) cap) sv) :
  Zo w wr k pre sp (.slice (some ⟨g,0,none⟩) pre.length cap) sv:=by
 refine⟨by have:=h.Fu;simp at this;omega,h.GS,fun x hx=>h.ops x (by simp[hx]),?_,h.dx,fun g' hg'=>h.ne g' hg',h.below⟩
 have:=h.cf
 rw[yB,ze]at this
 exact ownsRow_pop (by simp) this
theorem Zo.popS {o:Nat} (h:Zo w wr k op (pre++[o]) ov (.slice (some ⟨g,0,none⟩) (pre.length+1) cap)) :
  Zo w wr k op pre ov (.slice (some ⟨g,0,none⟩) pre.length cap):=by
 refine⟨h.Fu,by have:=h.GS;simp at this;omega,h.ops,h.cf,?_,fun g' hg'=>h.ne g' hg',h.below⟩
 have:=h.dx
 rw[yB,ze]at this
 exact ownsRow_pop (by simp) this
theorem XI (l:List Nat):l=[]\/∃pre o,l=pre++[o]:=by
 rcases ZC l with h | ⟨a,b,h⟩
 ·exact Or.inl h
 ·exact Or.inr ⟨a,b,by simpa using h⟩
theorem Jn (d:List Nat) (o:Nat):Rf.vQ (d++[o])=o:=by simp[Rf.vQ]
theorem K6 {o:Nat} (h:w.ownsRow B 3 1 v (pre++[o]).length ((pre++[o]).map iv)):∃g cap,v=.slice (some ⟨g,0,none⟩) (pre.length+1) cap/\pre.length+1<=cap/\w.cell? ⟨g,pre.length,none⟩=some (iv o):=by
 obtain⟨g,cap,f,_,_,i⟩:=yD h (j:=pre.length) (u:=iv o) (by simp)
 refine⟨g,cap,by simpa using f,?_,i⟩
 rcases h.2 with⟨d,_⟩| ⟨g',cap',cur,d,_,_,hn,_⟩
 ·rw[f]at d;cases d
 ·rw[f]at d;simp at d;simp at hn;omega
def HF (x:ByteArray) (i:Nat):Prop:=(x.toList==[])=decide (i=0)/\(x.toList==[118,97,114])=decide (i=1)/\(x.toList==[97,114,114,97,121])=decide (i=2)/\(x.toList==[112,114,111,99])=decide (i=3)/\
 (x.toList==[105,102])=decide (i=4)/\(x.toList==[119,104,105,108,101])=decide (i=5)/\(x.toList==[101,108,115,101])=decide (i=6)/\(x.toList==[101,110,100])=decide (i=7)
theorem YG (x:ByteArray):∃i,i<=8/\HF x i:=by
 by_cases h0:x.toList=[]
 ·exact⟨0,by omega,by unfold HF;rw[h0];decide⟩
 by_cases h1:x.toList=[118,97,114]
 ·exact⟨1,by omega,by unfold HF;rw[h1];decide⟩
 by_cases h2:x.toList=[97,114,114,97,121]
 ·exact⟨2,by omega,by unfold HF;rw[h2];decide⟩
 by_cases h3:x.toList=[112,114,111,99]
 ·exact⟨3,by omega,by unfold HF;rw[h3];decide⟩
 by_cases h4:x.toList=[105,102]
 ·exact⟨4,by omega,by unfold HF;rw[h4];decide⟩
 by_cases h5:x.toList=[119,104,105,108,101]
 ·exact⟨5,by omega,by unfold HF;rw[h5];decide⟩
 by_cases h6:x.toList=[101,108,115,101]
 ·exact⟨6,by omega,by unfold HF;rw[h6];decide⟩
 by_cases h7:x.toList=[101,110,100]
 ·exact⟨7,by omega,by unfold HF;rw[h7];decide⟩
 ·refine⟨8,by omega,?_⟩
  unfold HF
  simp[h0,h1,h2,h3,h4,h5,h6,h7]
namespace Rf
theorem Vt {i:Nat} (h:k < ls.length) (o:HF (first ls[k]) i):nestFrom ls (ls.drop k) k op sp =
  if i=0 then nestFrom ls (ls.drop (k+1)) (k+1) op sp
  else if decide (i=1\/i=2\/i=3)=!decide (op.length=0)then k+1
  else if i=3\/i=4\/i=5 then nestFrom ls (ls.drop (k+1)) (k+1) (op++[k+1]) sp
  else if i=6 then (if ((first (xU ls (vQ op-1))).toList==[105,102])=false\/(0 < sp.length/\vQ sp=vQ op)then k+1 else nestFrom ls (ls.drop (k+1)) (k+1) op (sp++[vQ op]))
  else if i=7 then nestFrom ls (ls.drop (k+1)) (k+1) op.dropLast (if 0 < sp.length/\vQ sp=vQ op then sp.dropLast else sp)
  else nestFrom ls (ls.drop (k+1)) (k+1) op sp:=by
 obtain⟨G,F,D,d,A,z,y,x⟩:=o
 rw[zZ h,nestFrom]
 have f:Xl ls[k]=decide (i=1\/i=2\/i=3):=by
  unfold Xl;rw[F,D,d,xO];simp[KV]
 have j:(kJ ls[k]=true)↔(i=3\/i=4\/i=5):=by
  unfold kJ;rw[d,A,z];simp[KV]
 rw[G,y,x,f]
 simp only[j,yS]
end Rf
theorem si (h:jA w S g cap ls) (hL:ls.length<=100) :
  Calls Tryz.prog 82 #[.pointer (some ⟨S,0,none⟩)] w fun e w'=>e=.returned (.int .i64 (Rf.nested ls))/\Below w.heap.size w w':=by
 obtain⟨i0,V,N,M,L⟩:=yi Tryz.eU
 have HH:=zD h
 clear h
 go_enter Tryz.func82,Tryz.ntmps82
 go_wp2
 go_loopw [3,4,5] (fun ov sv i wr=>∃(k:Nat) (op sp:List Nat),k<=ls.length/\i=.int .i64 ((k:Int)+1)/\Rf.nestFrom ls (ls.drop k) k op sp=Rf.nested ls/\Zo w wr k op sp ov sv)
  (fun _ _ i _=>ls.length+1-(intOf i).toNat)
 case atStart=>exact⟨0,[],[],zo _,rfl,rfl,⟨by simp,by simp,by simp,zW _ _ _ _,zW _ _ _ _,by simp[Value.ownBlock],zI _ _⟩⟩
 case round=>
  obtain⟨k,op,sp,hk,rfl,hT,hn⟩:=hrel
  have hs:=HH.u.zP hn.below
  have cT:=hs.top
  obtain⟨d7,a1,rfl⟩:=zK hn.cf
  obtain⟨b1,I,rfl⟩:=zK hn.dx
  have HN:=zD hn
  have HS:=zD hs
  by_cases hlt:k < ls.length
  ·have a6:(k:Int)+1<=(ls.length:Int):=by omega
   obtain⟨i,d5,d⟩:=YG (Rf.first ls[k])
   rw[Rf.Vt hlt d]at hT
   have HT:=zD hT
   clear hT hs hn
   go_wp2_with fail
   refine(xz k HS.u hlt hL).mono ?_
   rintro e w2 ⟨rfl,a8⟩
   have T:=HN.u.zP a8
   have HN2:=zD T
   have a2:=T.Fu
   have J:=T.GS
   have d6:=T.below.size
   clear a8 cT T
   generalize Rf.first ls[k]=x at *
   have hi9:i=0\/i=1\/i=2\/i=3\/i=4\/i=5\/i=6\/i=7\/i=8:=by omega
   clear d5
   rcases hi9 with rfl | rfl | rfl | rfl | rfl | rfl | rfl | rfl | rfl
   ·have f0:(x.toList==[])=true:=d.1
    have f1:(x.toList==[118,97,114])=false:=d.2.1
    have f2:(x.toList==[97,114,114,97,121])=false:=d.2.2.1
    have f3:(x.toList==[112,114,111,99])=false:=d.2.2.2.1
    have f4:(x.toList==[105,102])=false:=d.2.2.2.2.1
    have f5:(x.toList==[119,104,105,108,101])=false:=d.2.2.2.2.2.1
    have f6:(x.toList==[101,108,115,101])=false:=d.2.2.2.2.2.2.1
    have f7:(x.toList==[101,110,100])=false:=d.2.2.2.2.2.2.2
    rw[zE rfl]at HT
    go_wp2_with fail
    go_roundw
    case rel=>exact⟨k+1,op,sp,by omega,by go_num,HT.u,HN2.u.step⟩
    case measure=>simp[intOf];omega
   ·have f0:(x.toList==[])=false:=d.1
    have f1:(x.toList==[118,97,114])=true:=d.2.1
    have f2:(x.toList==[97,114,114,97,121])=false:=d.2.2.1
    have f3:(x.toList==[112,114,111,99])=false:=d.2.2.2.1
    have f4:(x.toList==[105,102])=false:=d.2.2.2.2.1
    have f5:(x.toList==[119,104,105,108,101])=false:=d.2.2.2.2.2.1
    have f6:(x.toList==[101,108,115,101])=false:=d.2.2.2.2.2.2.1
    have f7:(x.toList==[101,110,100])=false:=d.2.2.2.2.2.2.2
    by_cases ho:op.length=0
    ·have j:((op.length:Int)==0)=true:=by rw[xw];omega
     rw[zA (by omega),zA (by simp[ho])]at HT
     clear ho
     rw[zA (by omega),zA (by omega),zA (by omega)]at HT
     go_wp2_with fail
     go_roundw
     case rel=>exact⟨k+1,op,sp,by omega,by go_num,HT.u,HN2.u.step⟩
     case measure=>simp[intOf];omega
    ·have j:((op.length:Int)==0)=false:=by rw[zV];omega
     rw[zA (by omega),zE (by simp[ho])]at HT
     clear ho
     go_wp2_with fail
     go_ret
     exact⟨by rw[<-HT.u];exact km (by omega),HN2.u.below⟩
   ·have f0:(x.toList==[])=false:=d.1
    have f1:(x.toList==[118,97,114])=false:=d.2.1
    have f2:(x.toList==[97,114,114,97,121])=true:=d.2.2.1
    have f3:(x.toList==[112,114,111,99])=false:=d.2.2.2.1
    have f4:(x.toList==[105,102])=false:=d.2.2.2.2.1
    have f5:(x.toList==[119,104,105,108,101])=false:=d.2.2.2.2.2.1
    have f6:(x.toList==[101,108,115,101])=false:=d.2.2.2.2.2.2.1
    have f7:(x.toList==[101,110,100])=false:=d.2.2.2.2.2.2.2
    by_cases ho:op.length=0
    ·have j:((op.length:Int)==0)=true:=by rw[xw];omega
     rw[zA (by omega),zA (by simp[ho])]at HT
     clear ho
     rw[zA (by omega),zA (by omega),zA (by omega)]at HT
     go_wp2_with fail
     go_roundw
     case rel=>exact⟨k+1,op,sp,by omega,by go_num,HT.u,HN2.u.step⟩
     case measure=>simp[intOf];omega
    ·have j:((op.length:Int)==0)=false:=by rw[zV];omega
     rw[zA (by omega),zE (by simp[ho])]at HT
     clear ho
     go_wp2_with fail
     go_ret
     exact⟨by rw[<-HT.u];exact km (by omega),HN2.u.below⟩
   ·have f0:(x.toList==[])=false:=d.1
    have f1:(x.toList==[118,97,114])=false:=d.2.1
    have f2:(x.toList==[97,114,114,97,121])=false:=d.2.2.1
    have f3:(x.toList==[112,114,111,99])=true:=d.2.2.2.1
    have f4:(x.toList==[105,102])=false:=d.2.2.2.2.1
    have f5:(x.toList==[119,104,105,108,101])=false:=d.2.2.2.2.2.1
    have f6:(x.toList==[101,108,115,101])=false:=d.2.2.2.2.2.2.1
    have f7:(x.toList==[101,110,100])=false:=d.2.2.2.2.2.2.2
    by_cases ho:op.length=0
    ·have j:((op.length:Int)==0)=true:=by rw[xw];omega
     rw[zA (by omega),zA (by simp[ho])]at HT
     clear ho
     rw[zE (by omega)]at HT
     go_wp2_with (at_builtin;refine wpList_append_lies _ rfl (.tmp 46) (.tmp 48) 24 rfl w.heap.size 3 i0 _ 1 8 Tryz.underlying24 V N M L rfl (by decide) _ _ _ rfl (HN2.u.cf.alloc _) ⟨_,0,none⟩ 1 1 [.int .i64 ((k:Int)+1)] rfl rfl (cell_one_new _ _ _) (by simp[Value.oneCell']) (by omega) (by unfold maxLen;omega) (by omega) (by simp;omega) _ rfl ?_)
     intro g' cap' w3 z f hat G
     have HN3:=zD (HN2.u.CE (by exact z) f (by rcases hat with h | h;exact Or.inl h;exact Or.inr (by first | omega | (simp at h;omega))))
     clear z f hat G
     go_wp2_with fail
     go_roundw
     case rel=>exact⟨k+1,_,sp,by omega,by go_num,HT.u,HN3.u⟩
     case measure=>simp[intOf];omega
    ·have j:((op.length:Int)==0)=false:=by rw[zV];omega
     rw[zA (by omega),zE (by simp[ho])]at HT
     clear ho
     go_wp2_with fail
     go_ret
     exact⟨by rw[<-HT.u];exact km (by omega),HN2.u.below⟩
   ·have f0:(x.toList==[])=false:=d.1
    have f1:(x.toList==[118,97,114])=false:=d.2.1
    have f2:(x.toList==[97,114,114,97,121])=false:=d.2.2.1
    have f3:(x.toList==[112,114,111,99])=false:=d.2.2.2.1
    have f4:(x.toList==[105,102])=true:=d.2.2.2.2.1
    have f5:(x.toList==[119,104,105,108,101])=false:=d.2.2.2.2.2.1
    have f6:(x.toList==[101,108,115,101])=false:=d.2.2.2.2.2.2.1
    have f7:(x.toList==[101,110,100])=false:=d.2.2.2.2.2.2.2
    by_cases ho:op.length=0
    ·have j:((op.length:Int)==0)=true:=by rw[xw];omega
     rw[zA (by omega),zE (by simp[ho])]at HT
     clear ho
     go_wp2_with fail
     go_ret
     exact⟨by rw[<-HT.u];exact km (by omega),HN2.u.below⟩
    ·have j:((op.length:Int)==0)=false:=by rw[zV];omega
     rw[zA (by omega),zA (by simp[ho])]at HT
     clear ho
     rw[zE (by omega)]at HT
     go_wp2_with (at_builtin;refine wpList_append_lies _ rfl (.tmp 46) (.tmp 48) 24 rfl w.heap.size 3 i0 _ 1 8 Tryz.underlying24 V N M L rfl (by decide) _ _ _ rfl (HN2.u.cf.alloc _) ⟨_,0,none⟩ 1 1 [.int .i64 ((k:Int)+1)] rfl rfl (cell_one_new _ _ _) (by simp[Value.oneCell']) (by omega) (by unfold maxLen;omega) (by omega) (by simp;omega) _ rfl ?_)
     intro g' cap' w3 z f hat G
     have HN3:=zD (HN2.u.CE (by exact z) f (by rcases hat with h | h;exact Or.inl h;exact Or.inr (by first | omega | (simp at h;omega))))
     clear z f hat G
     go_wp2_with fail
     go_roundw
     case rel=>exact⟨k+1,_,sp,by omega,by go_num,HT.u,HN3.u⟩
     case measure=>simp[intOf];omega
   ·have f0:(x.toList==[])=false:=d.1
    have f1:(x.toList==[118,97,114])=false:=d.2.1
    have f2:(x.toList==[97,114,114,97,121])=false:=d.2.2.1
    have f3:(x.toList==[112,114,111,99])=false:=d.2.2.2.1
    have f4:(x.toList==[105,102])=false:=d.2.2.2.2.1
    have f5:(x.toList==[119,104,105,108,101])=true:=d.2.2.2.2.2.1
    have f6:(x.toList==[101,108,115,101])=false:=d.2.2.2.2.2.2.1
    have f7:(x.toList==[101,110,100])=false:=d.2.2.2.2.2.2.2
    by_cases ho:op.length=0
    ·have j:((op.length:Int)==0)=true:=by rw[xw];omega
     rw[zA (by omega),zE (by simp[ho])]at HT
     clear ho
     go_wp2_with fail
     go_ret
     exact⟨by rw[<-HT.u];exact km (by omega),HN2.u.below⟩
    ·have j:((op.length:Int)==0)=false:=by rw[zV];omega
     rw[zA (by omega),zA (by simp[ho])]at HT
     clear ho
     rw[zE (by omega)]at HT
     go_wp2_with (at_builtin;refine wpList_append_lies _ rfl (.tmp 46) (.tmp 48) 24 rfl w.heap.size 3 i0 _ 1 8 Tryz.underlying24 V N M L rfl (by decide) _ _ _ rfl (HN2.u.cf.alloc _) ⟨_,0,none⟩ 1 1 [.int .i64 ((k:Int)+1)] rfl rfl (cell_one_new _ _ _) (by simp[Value.oneCell']) (by omega) (by unfold maxLen;omega) (by omega) (by simp;omega) _ rfl ?_)
     intro g' cap' w3 z f hat G
     have HN3:=zD (HN2.u.CE (by exact z) f (by rcases hat with h | h;exact Or.inl h;exact Or.inr (by first | omega | (simp at h;omega))))
     clear z f hat G
     go_wp2_with fail
     go_roundw
     case rel=>exact⟨k+1,_,sp,by omega,by go_num,HT.u,HN3.u⟩
     case measure=>simp[intOf];omega
   ·have f0:(x.toList==[])=false:=d.1
    have f1:(x.toList==[118,97,114])=false:=d.2.1
    have f2:(x.toList==[97,114,114,97,121])=false:=d.2.2.1
    have f3:(x.toList==[112,114,111,99])=false:=d.2.2.2.1
    have f4:(x.toList==[105,102])=false:=d.2.2.2.2.1
    have f5:(x.toList==[119,104,105,108,101])=false:=d.2.2.2.2.2.1
    have f6:(x.toList==[101,108,115,101])=true:=d.2.2.2.2.2.2.1
    have f7:(x.toList==[101,110,100])=false:=d.2.2.2.2.2.2.2
    by_cases ho:op.length=0
    ·have j:((op.length:Int)==0)=true:=by rw[xw];omega
     rw[zA (by omega),zE (by simp[ho])]at HT
     clear ho
     go_wp2_with fail
     go_ret
     exact⟨by rw[<-HT.u];exact km (by omega),HN2.u.below⟩
    ·have j:((op.length:Int)==0)=false:=by rw[zV];omega
     rw[zA (by omega),zA (by simp[ho])]at HT
     clear ho
     rw[zA (by omega),zE rfl]at HT
     obtain⟨pre,o,rfl⟩:∃pre o,op=pre++[o]:=by
      rcases XI op with h | h
      ·subst h;simp at j
      ·exact h
     have b8:=HN2.u.ops o (by simp)
     obtain⟨F,rfl⟩:∃F,o=F+1:=⟨o-1,by omega⟩
     have a3:F < ls.length:=by omega
     obtain⟨g0,b0,Z,a5,cO⟩:=K6 HN2.u.cf
     simp only[xJ]at Z
     obtain⟨rfl,R,rfl⟩:=Z
     rw[Jn]at HT
     rw[R]at a2 j HN2 ⊢
     clear R
     replace cO:w2.cell? ⟨g0,pre.length,none⟩=some (.int .i64 ((F:Int)+1)):=cO
     have HP:=zD (show ∀x:Nat,(pre++[x]).length=pre.length+1 by intro x;simp)
     have d2:=eI pre.length (by omega)
     have d3:=eJ pre.length (by omega)
     have d1:(pre.length:Int) < (pre.length:Int)+1:=by omega
     have d0:(0:Int)<=(pre.length:Int):=by omega
     have c0:(pre.length:Int)<=(a1:Int):=by omega
     go_wp2_with fail
     refine(xz F (HH.u.zP HN2.u.below) a3 hL).mono ?_
     rintro e w3 ⟨rfl,a7⟩
     have HN3:=zD (HN2.u.zP a7)
     have b9:=HN3.u.below.size
     rw[zu,Rf.yq a3]at HT
     clear a7 cO
     generalize Rf.first ls[F]=y at *
     cases hy:(y.toList==[105,102])with
     | false=>
      rw[hy,zE (Or.inl rfl)]at HT
      go_wp2_with fail
      go_ret
      exact⟨by rw[<-HT.u];exact km (by omega),HN3.u.below⟩
     | true=>
      rcases XI sp with rfl | ⟨ps,q,rfl⟩
      ·rw[hy,zA (by simp)]at HT
       simp only[qQ]at J HN3 ⊢
       have A:w3.ownsRow w.heap.size 3 1 (.slice b1 0 I) 0 []:=HN3.u.dx
       go_wp2_with (at_builtin;refine wpList_append_lies _ rfl (.tmp 79) (.tmp 81) 24 rfl w.heap.size 3 i0 _ 1 8 Tryz.underlying24 V N M L rfl (by decide) _ _ _ rfl (A.alloc _) ⟨_,0,none⟩ 1 1 [.int .i64 ((F:Int)+1)] rfl rfl (cell_one_new _ _ _) (by simp[Value.oneCell']) (by omega) (by unfold maxLen;omega) (by omega) (by simp;omega) _ rfl ?_)
       intro g' cap' w4 D f hat U
       have HN4:=zD (HN3.u.FQ (q:=F+1) (g':=g') (cap':=cap') (by simp) (by exact D) f (by rcases hat with h | h;exact Or.inl h;exact Or.inr (by first | omega | (simp at h;omega))))
       clear D f hat U A
       go_wp2_with fail
       go_roundw
       case rel=>exact⟨k+1,_,_,by omega,by go_num,HT.u,by first | exact HN4.u | simpa using HN4.u⟩
       case measure=>simp[intOf];omega
      ·obtain⟨g1,a9,W,a4,cS⟩:=K6 HN3.u.dx
       simp only[xJ]at W
       obtain⟨rfl,H,rfl⟩:=W
       rw[Jn]at HT
       rw[H]at J HN3 ⊢
       have a0:=zD H
       clear H
       replace cS:w3.cell? ⟨g1,ps.length,none⟩=some (.int .i64 (q:Int)):=cS
       have b6:=eI ps.length (by omega)
       have b7:=eJ ps.length (by omega)
       have b5:(ps.length:Int) < (ps.length:Int)+1:=by omega
       have b4:(0:Int)<=(ps.length:Int):=by omega
       have b3:(ps.length:Int)<=(I:Int):=by omega
       have b2:(0:Int) < (ps.length:Int)+1:=by omega
       by_cases hqo:q=F+1
       ·have O:((q:Int)==(F:Int)+1)=true:=by rw[xw];omega
        rw[zE (Or.inr ⟨by simp,hqo⟩)]at HT
        clear hqo
        go_wp2_with fail
        go_ret
        exact⟨by rw[<-HT.u];exact km (by omega),HN3.u.below⟩
       ·have O:((q:Int)==(F:Int)+1)=false:=by rw[zV];omega
        rw[hy,zA (by simp[hqo])]at HT
        clear hqo
        have A:w3.ownsRow w.heap.size 3 1 (.slice (some ⟨g1,0,none⟩) (ps.length+1) I) (ps.length+1) ((ps++[q]).map iv):=by
         have:=HN3.u.dx
         rw[a0.u]at this
         exact this
        go_wp2_with (at_builtin;refine wpList_append_lies _ rfl (.tmp 79) (.tmp 81) 24 rfl w.heap.size 3 i0 _ 1 8 Tryz.underlying24 V N M L rfl (by decide) _ _ _ rfl (A.alloc _) ⟨_,0,none⟩ 1 1 [.int .i64 ((F:Int)+1)] rfl rfl (cell_one_new _ _ _) (by simp[Value.oneCell']) (by omega) (by unfold maxLen;omega) (by omega) (by simp;omega) _ rfl ?_)
        intro g' cap' w4 D f hat U
        have HN4:=zD (HN3.u.FQ (q:=F+1) (g':=g') (cap':=cap') (by rw[a0.u];omega) (by rw[a0.u,yB,yK];exact D) f (by rcases hat with h | h;exact Or.inl h;exact Or.inr (by first | omega | (simp at h;omega))))
        rw[a0.u]at HN4
        clear D f hat U A
        go_wp2_with fail
        go_roundw
        case rel=>exact⟨k+1,_,_,by omega,by go_num,HT.u,by first | exact HN4.u | simpa using HN4.u⟩
        case measure=>simp[intOf];omega
   ·have f0:(x.toList==[])=false:=d.1
    have f1:(x.toList==[118,97,114])=false:=d.2.1
    have f2:(x.toList==[97,114,114,97,121])=false:=d.2.2.1
    have f3:(x.toList==[112,114,111,99])=false:=d.2.2.2.1
    have f4:(x.toList==[105,102])=false:=d.2.2.2.2.1
    have f5:(x.toList==[119,104,105,108,101])=false:=d.2.2.2.2.2.1
    have f6:(x.toList==[101,108,115,101])=false:=d.2.2.2.2.2.2.1
    have f7:(x.toList==[101,110,100])=true:=d.2.2.2.2.2.2.2
    by_cases ho:op.length=0
    ·have j:((op.length:Int)==0)=true:=by rw[xw];omega
     rw[zA (by omega),zE (by simp[ho])]at HT
     clear ho
     go_wp2_with fail
     go_ret
     exact⟨by rw[<-HT.u];exact km (by omega),HN2.u.below⟩
    ·have j:((op.length:Int)==0)=false:=by rw[zV];omega
     rw[zA (by omega),zA (by simp[ho])]at HT
     clear ho
     rw[zA (by omega),zA (by omega),zE rfl]at HT
     obtain⟨pre,o,rfl⟩:∃pre o,op=pre++[o]:=by
      rcases XI op with h | h
      ·subst h;simp at j
      ·exact h
     have b8:=HN2.u.ops o (by simp)
     obtain⟨F,rfl⟩:∃F,o=F+1:=⟨o-1,by omega⟩
     have a3:F < ls.length:=by omega
     obtain⟨g0,b0,Z,a5,cO⟩:=K6 HN2.u.cf
     simp only[xJ]at Z
     obtain⟨rfl,R,rfl⟩:=Z
     rw[Jn]at HT
     rw[R]at a2 j HN2 ⊢
     clear R
     replace cO:w2.cell? ⟨g0,pre.length,none⟩=some (.int .i64 ((F:Int)+1)):=cO
     have HP:=zD (show ∀x:Nat,(pre++[x]).length=pre.length+1 by intro x;simp)
     have d2:=eI pre.length (by omega)
     have d3:=eJ pre.length (by omega)
     have d1:(pre.length:Int) < (pre.length:Int)+1:=by omega
     have d0:(0:Int)<=(pre.length:Int):=by omega
     have c0:(pre.length:Int)<=(a1:Int):=by omega
     rw[xo]at HT
     rcases XI sp with rfl | ⟨ps,q,rfl⟩
     ·rw[zA (by simp)]at HT
      simp only[qQ]at J HN2 ⊢
      have HNP:=zD (HN2.u.step.Fs)
      go_wp2_with fail
      go_roundw
      case rel=>exact⟨k+1,pre,[],by omega,by go_num,HT.u,HNP.u⟩
      case measure=>simp[intOf];omega
     ·obtain⟨g1,a9,W,a4,cS⟩:=K6 HN2.u.dx
      simp only[xJ]at W
      obtain⟨rfl,H,rfl⟩:=W
      rw[Jn]at HT
      rw[H]at J HN2 ⊢
      have a0:=zD H
      clear H
      replace cS:w2.cell? ⟨g1,ps.length,none⟩=some (.int .i64 (q:Int)):=cS
      have b6:=eI ps.length (by omega)
      have b7:=eJ ps.length (by omega)
      have b5:(ps.length:Int) < (ps.length:Int)+1:=by omega
      have b4:(0:Int)<=(ps.length:Int):=by omega
      have b3:(ps.length:Int)<=(I:Int):=by omega
      have b2:(0:Int) < (ps.length:Int)+1:=by omega
      by_cases hqo:q=F+1
      ·have O:((q:Int)==(F:Int)+1)=true:=by rw[xw];omega
       rw[zE ⟨by simp,hqo⟩,xo]at HT
       clear hqo
       have HNP:=zD (HN2.u.step.Fs.popS)
       go_wp2_with fail
       go_roundw
       case rel=>exact⟨k+1,pre,ps,by omega,by go_num,HT.u,HNP.u⟩
       case measure=>simp[intOf];omega
      ·have O:((q:Int)==(F:Int)+1)=false:=by rw[zV];omega
       rw[zA (by simp[hqo])]at HT
       clear hqo
       have HNP:=zD (HN2.u.step.Fs)
       go_wp2_with fail
       go_roundw
       case rel=>exact⟨k+1,pre,_,by omega,by go_num,HT.u,HNP.u⟩
       case measure=>simp[intOf];omega
   ·have f0:(x.toList==[])=false:=d.1
    have f1:(x.toList==[118,97,114])=false:=d.2.1
    have f2:(x.toList==[97,114,114,97,121])=false:=d.2.2.1
    have f3:(x.toList==[112,114,111,99])=false:=d.2.2.2.1
    have f4:(x.toList==[105,102])=false:=d.2.2.2.2.1
    have f5:(x.toList==[119,104,105,108,101])=false:=d.2.2.2.2.2.1
    have f6:(x.toList==[101,108,115,101])=false:=d.2.2.2.2.2.2.1
    have f7:(x.toList==[101,110,100])=false:=d.2.2.2.2.2.2.2
    by_cases ho:op.length=0
    ·have j:((op.length:Int)==0)=true:=by rw[xw];omega
     rw[zA (by omega),zE (by simp[ho])]at HT
     clear ho
     go_wp2_with fail
     go_ret
     exact⟨by rw[<-HT.u];exact km (by omega),HN2.u.below⟩
    ·have j:((op.length:Int)==0)=false:=by rw[zV];omega
     rw[zA (by omega),zA (by simp[ho])]at HT
     clear ho
     rw[zA (by omega),zA (by omega),zA (by omega)]at HT
     go_wp2_with fail
     go_roundw
     case rel=>exact⟨k+1,op,sp,by omega,by go_num,HT.u,HN2.u.step⟩
     case measure=>simp[intOf];omega
  ·have a6:¬(k:Int)+1<=(ls.length:Int):=by omega
   rw[zp (by omega),Rf.nestFrom]at hT
   have HT:=zD hT
   clear hT
   have d4:k=ls.length:=by omega
   by_cases ho:op.length=0
   ·have j:¬(0:Int) < (op.length:Int):=by omega
    rw[zE ho]at HT
    go_wp2_with fail
    go_ret
    exact⟨by rw[<-HT.u];rfl,HN.u.below⟩
   ·have j:(0:Int) < (op.length:Int):=by omega
    rw[zA ho]at HT
    subst d4
    go_wp2_with fail
    go_ret
    exact⟨by rw[<-HT.u];rfl,HN.u.below⟩
end Go.Proofs.YthleadfkfnnadaaGreat
