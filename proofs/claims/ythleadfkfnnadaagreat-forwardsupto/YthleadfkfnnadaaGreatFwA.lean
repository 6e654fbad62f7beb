/- The ends of blocks lie behind their elses: plain. -/
import Derived.Test.YthleadfkfnnadaaGreatRefR
import Derived.Test.YthleadfkfnnadaaGreatLwB
import Derived.Deep.AppendSrc
import Derived.Laws.IdiomStrings
import Derived.Test.YthleadfkfnnadaaGreatRef1
import Derived.Test.YthleadfkfnnadaaGreatMcB
import Derived.Test.YthleadfkfnnadaaGreatPrgM
set_option maxHeartbeats 4000000
set_option maxRecDepth 100000
set_option linter.unusedSimpArgs false
namespace Go.Proofs.YthleadfkfnnadaaGreat
open Go.RowKit
variable {o:ByteArray} {ls:List (List ByteArray)} {p q:List ByteArray} {xs:List Int} {P n B:Nat} {v fv vv cv ov:Value} {w w':World}
namespace Rf
structure Fr where
 proc:Nat
 args:List Int
 call:Int
structure Pl where
 zH:List Fr
 vars:List Int
 cells:List (List Int)
 read:Nat
 out:List Int
 line:Int
 fin:Int
def zFr:Fr:=⟨0,[],0⟩
def top (p:Pl):Fr:=p.zH.getD (p.zH.length-1) zFr
def XZ (ls:List (List ByteArray)) (l:Nat):List ByteArray:=(xU ls (l-1)).drop 2
def value (ls:List (List ByteArray)) (p:Pl) (x:ByteArray):Int:=
 if 0<=index (XZ ls (top p).proc) x then (top p).args.getD (index (XZ ls (top p).proc) x).toNat 0 else p.vars.getD (decl ls x) 0
structure BZ (ls:List (List ByteArray)) (f:Fr):Prop where
 lo:1<=f.proc
 hi:f.proc<=ls.length
 two:2<=(xU ls (f.proc-1)).length
 args:f.args.length=(xU ls (f.proc-1)).length-2
structure V9 (ls:List (List ByteArray)) (p:Pl):Prop where
 some:0 < p.zH.length
 VJ:p.zH.length<=100
 each:∀f∈p.zH,BZ ls f
 vars:p.vars.length=ls.length+1
 cells:p.cells.length=ls.length+1
theorem V9.top {ls:List (List ByteArray)} {p:Pl} (h:V9 ls p):BZ ls (top p):=by
 have d:=h.some
 unfold Rf.top
 rw[xL,zJ (by omega)]
 exact h.each _ (zj _)
theorem dn (xs:List ByteArray) (x:ByteArray):∀f k,k+f=xs.length->-1<=indexFrom xs x f k/\indexFrom xs x f k < xs.length
 | 0,k,h=>by rw[indexFrom];omega
 | f+1,k,h=>by
  have:=dn xs x f (k+1) (by omega)
  rw[indexFrom]
  split <;> omega
theorem uf (xs:List ByteArray) (x:ByteArray):-1<=index xs x/\index xs x < xs.length:=dn xs x _ _ (by omega)
end Rf
structure Dv (w:World) (P:Nat) (p:Rf.Pl):Prop where
 zH:∃b o cap,w.cell? ⟨P,0,none⟩=some (.slice (some ⟨b,o,none⟩) p.zH.length cap)/\∀i (h:i < p.zH.length),∃av,w.cell? ⟨b,o+i*3,none⟩=some (.int .i64 p.zH[i].proc)/\w.cell? ⟨b,o+i*3+1,none⟩=some av/\w.cell? ⟨b,o+i*3+2,none⟩=some (.int .i64 p.zH[i].call)/\kA w av p.zH[i].args
 vars:∃vv,w.cell? ⟨P,1,none⟩=some vv/\kA w vv p.vars
 cells:∃b o cap,w.cell? ⟨P,2,none⟩=some (.slice (some ⟨b,o,none⟩) p.cells.length cap)/\∀i (h:i < p.cells.length),∃cv,w.cell? ⟨b,o+i,none⟩=some cv/\kA w cv p.cells[i]
 read:w.cell? ⟨P,3,none⟩=some (.int .i64 p.read)
 out:∃ov,w.cell? ⟨P,4,none⟩=some ov/\kA w ov p.out
 line:w.cell? ⟨P,5,none⟩=some (.int .i64 p.line)
 fin:w.cell? ⟨P,6,none⟩=some (.int .i64 p.fin)
theorem Dv.zP {w w':World} {P:Nat} {p:Rf.Pl} (h:Dv w P p) (d:Below w.heap.size w w'):Dv w' P p:=by
 obtain⟨⟨b,o,cap,G,F⟩,⟨vv,y,x⟩,⟨J,A,f,I,H⟩,r,⟨ov,D,z⟩,l,e⟩:=h
 refine⟨⟨b,o,cap,cell_later d G,fun i hi=>?_⟩,⟨vv,cell_later d y,x.zP d⟩,⟨J,A,f,cell_later d I,fun i hi=>?_⟩,cell_later d r,⟨ov,cell_later d D,z.zP d⟩,cell_later d l,cell_later d e⟩
 ·obtain⟨L,k,j,N,M⟩:=F i hi
  exact⟨L,cell_later d k,cell_later d j,cell_later d N,M.zP d⟩
 ·obtain⟨cv,k,j⟩:=H i hi
  exact⟨cv,cell_later d k,j.zP d⟩
theorem Dv.top {w:World} {P:Nat} {p:Rf.Pl} (h:Dv w P p) {n:Nat} (i:p.zH.length=n+1):∃b o cap av,w.cell? ⟨P,0,none⟩=some (.slice (some ⟨b,o,none⟩) (n+1) cap)/\w.cell? ⟨b,o+n*3,none⟩=some (.int .i64 (Rf.top p).proc)/\w.cell? ⟨b,o+n*3+1,none⟩=some av/\w.cell? ⟨b,o+n*3+2,none⟩=some (.int .i64 (Rf.top p).call)/\kA w av (Rf.top p).args:=by
 obtain⟨b,o,cap,d,j⟩:=h.zH
 obtain⟨av,z,y,x,k⟩:=j n (by omega)
 have f:Rf.top p=p.zH[n]:=by
  unfold Rf.top
  rw[xL,show p.zH.length-1=n by omega,zJ (by omega)];rfl
 rw[i]at d
 rw[f]
 exact⟨b,o,cap,av,d,z,y,x,k⟩
theorem wK {S g cap:Nat} {p:Rf.Pl} (x:ByteArray) (h:jA w S g cap ls) (hL:Lawful ls) (hp:Dv w P p) (z:Rf.V9 ls p) :
  Calls Tryz.prog 118 #[.pointer (some ⟨S,0,none⟩),.pointer (some ⟨P,0,none⟩),.string x] w fun e w'=>e=.returned (.int .i64 (Rf.value ls p x))/\Below w.heap.size w w':=by
 obtain⟨n,hn⟩:∃n,p.zH.length=n+1:=⟨p.zH.length-1,by have:=z.some;omega⟩
 have a6:=z.top
 have a5:=z.VJ
 rw[hn]at a5
 have N:=z.vars
 obtain⟨b,o,cp,av,c0,c1,c2,c3,G⟩:=hp.top hn
 obtain⟨fl,fh,f2,fa⟩:=a6
 have M:Hd (Rf.value ls p x=_):=zD (by unfold Rf.value;rfl)
 have HP:=zD hp
 have HG:=zD h
 have L:=zD hL
 have a4:=zD G
 have V:=hL.len
 clear hp h hL z G hn
 generalize Rf.top p=fr at *
 obtain⟨k,R⟩:∃q,fr.proc=q+1:=⟨fr.proc-1,by omega⟩
 rw[R]at fl fh f2 fa M c1
 rw[zu]at f2 fa
 have f:k < ls.length:=by omega
 rw[Rf.yq f]at f2 fa
 rw[show ((k+1:Nat):Int)=(k:Int)+1 by omega]at c1
 have b8:IntKind.i64.wrap ((n:Int)+1-1)=n:=by rw[show (n:Int)+1-1=(n:Int) by omega];exact zl _ ⟨by omega,by omega⟩
 have b9:IntKind.i64.wrap (n:Int)=n:=zl _ ⟨by omega,by omega⟩
 have d2:(0:Int)<=(n:Int):=by omega
 have d1:(n:Int) < (n:Int)+1:=by omega
 have d0:(n:Int)<=1000:=by omega
 have b0:=zD fa
 have b1:=zD f2
 have a7:=zD N
 clear fa f2 N R fl fh
 obtain⟨D,j,rfl,G⟩:=a4.u
 clear G
 go_enter Tryz.func118,Tryz.ntmps118
 go_wp2_with fail
 go_region_held3 (fun w'=>w'.cell? ⟨P,0,none⟩=some (.slice (some ⟨b,o,none⟩) (n+1) cp)/\w'.cell? ⟨b,o+n*3,none⟩=some (.int .i64 ((k:Int)+1))/\w'.cell? ⟨b,o+n*3+1,none⟩=some (.slice D fr.args.length j)/\w'.cell? ⟨b,o+n*3+2,none⟩=some (.int .i64 fr.call)) (go_keep) (fail)
 have a2:=((zI w.heap.size w).alloc (zB _) (.cells #[.int .i64 ((k:Int)+1),.slice D fr.args.length j,.int .i64 fr.call] 130)).drew
 have I:(w.alloc (.cells #[.int .i64 ((k:Int)+1),.slice D fr.args.length j,.int .i64 fr.call] 130)).drew.heap[w.heap.size]?=some (.cells #[.int .i64 ((k:Int)+1),.slice D fr.args.length j,.int .i64 fr.call] 130 (0,0)):=zN w _
 generalize (w.alloc (.cells #[.int .i64 ((k:Int)+1),.slice D fr.args.length j,.int .i64 fr.call] 130)).drew=w1 at *
 have k0:=zC I 0 (by simp)
 simp only[yQ,zv]at k0
 have F:=qG a2 I
 clear a2 I c0 c1 c2 c3
 go_wp2_with fail
 refine(Jd k (HG.u.zP F.u.1) f V b1.u (L.u.XO f).1).mono ?_
 rintro e w2 ⟨pv,rfl,H,J⟩
 have U:(ls[k].drop 2).length<=1000:=by have:=(L.u.XO f).1;simp;omega
 have y:=qG (F.u.1.trans (J.mono (B':=w.heap.size) F.u.1.size)) (zU F.u.2 J)
 have a8:=zD H
 obtain⟨b7,b4,rfl,_⟩:=H.form
 clear J H F k0
 have Z:=Rf.uf (ls[k].drop 2) x
 have T:Rf.XZ ls (k+1)=ls[k].drop 2:=by rw[Rf.XZ,zu,Rf.yq f]
 rw[T]at M
 have a3:(fr.args.length:Int)=((ls[k].drop 2).length:Int):=by rw[b0.u];simp
 clear T
 generalize ls[k].drop 2=ps at *
 go_wp2_with fail
 refine(lr x a8.u (by omega)).mono ?_
 rintro e w' ⟨rfl,rfl⟩
 have b3:=zD a3
 generalize Rf.index ps x=ix at *
 have d4:=zD U
 have a9:=zD Z
 clear U a3 Z
 have k1:=zC y.u.2 1 (by simp)
 simp only[yQ,yH,zv]at k1
 by_cases hi:0<=ix
 ·rw[zE hi]at M
  obtain⟨i,rfl⟩:=yr hi
  have W:i < fr.args.length:=by have:=b3.u;have:=a9.u;omega
  have b5:(i:Int) < (fr.args.length:Int):=by omega
  obtain⟨ab,ao,ac,he,ci⟩:=(a4.u.zP y.u.1).get W
  simp only[xJ,jH]at he
  obtain⟨rfl,he⟩:=he
  clear he
  have HR:Hd (Rf.value ls p x=fr.args[i]):=zD (by rw[M.u];simp[W])
  generalize fr.args[i]=r at *
  go_wp2_with fail
  go_ret
  exact⟨by rw[HR.u];rfl,y.u.1⟩
 ·rw[zA hi]at M
  go_wp2_with fail
  refine(qg x (HG.u.zP y.u.1) L.u).mono ?_
  rintro e w3 ⟨rfl,a1⟩
  have A:=y.u.1.trans (a1.mono (B':=w.heap.size) y.u.1.size)
  obtain⟨vv,cv,O⟩:=(HP.u.zP A).vars
  have b2:=zD A
  have d3:=Rf.Qb ls x
  have a0:Rf.decl ls x < p.vars.length:=by have:=a7.u;omega
  obtain⟨vb,vo,vc,rfl,ci⟩:=O.get a0
  have HR:Hd (Rf.value ls p x=p.vars[Rf.decl ls x]):=zD (by rw[M.u];simp[a0])
  generalize p.vars[Rf.decl ls x]=r at *
  generalize Rf.decl ls x=d at *
  have b6:(d:Int) < (p.vars.length:Int):=by omega
  clear a1 A O k1
  go_wp2_with fail
  go_ret
  exact⟨by rw[HR.u];rfl,b2.u⟩
theorem Kd (h:kA w v xs) (H:xs.length<=1000000) :
  Calls Tryz.prog 58 #[v] w fun e w'=>Below w.heap.size w w'/\∃v',e=.returned v'/\w'.ownsRow w.heap.size 3 1 v' xs.length (xs.map (Value.int .i64)):=by
 obtain⟨D,z,y,x,F⟩:=yi Tryz.eU
 have G:=zD h
 obtain⟨I,cap,rfl,_⟩:=h
 have k:=(zI w.heap.size w).alloc (zB _) (.cells #[] 3)
 have i:(w.alloc (.cells #[] 3)).ownsRow w.heap.size 3 1 (.slice (some ⟨w.heap.size,0,none⟩) 0 0) 0 []:=World.ownsRow_made w #[] 0 (zB _) (by unfold maxLen;omega) rfl
 go_enter Tryz.func58,Tryz.ntmps58
 go_wp2_with (at_builtin;refine Qh _ rfl _ _ 24 24 rfl w.heap.size 3 D _ Tryz.underlying24 z y x (by omega) rfl _ _ _ rfl i _ xs.length (xs.map (Value.int .i64)) rfl (G.u.zP k).src ?c1 ?c2 ?_)
 case c1=>omega
 case c2=>simp
 intro v' w' d f
 have o:=k.grown f (by simp) (fun j hj=>by simp[Value.ownBlock]at hj;omega)
 have A:=qG d o
 clear d o f i k
 go_wp2_with fail
 go_ret
 exact⟨A.u.2,_,rfl,A.u.1⟩
end Go.Proofs.YthleadfkfnnadaaGreat
namespace Go.Proofs.YthleadfkfnnadaaGreat
variable {o:ByteArray} {ls:List (List ByteArray)} {p q:List ByteArray} {xs:List Int} {P n B:Nat} {v fv vv cv ov:Value} {w w':World}
namespace Rf
open Rt
theorem wU (i:Is 1 p) (d:kp kF o=true) (f:Is 1 q):split (p++o::q)=p.length:=by
 have h:=JL (kh i) (eb d) d (aj f rfl)
 rw[split,h,zA (by omega)]
theorem wV (i:Is 1 p) (d:kp kL o=true) (f:Is 2 q):split (p++o::q)=p.length:=by
 have h:=JL (kh i) (ba d) d (Yy f kL (Or.inl rfl) rfl)
 have j:=(aj (Is.s2 p o q i d f) rfl).last
 rw[split,j,zE (by omega),h,zA (by omega)]
theorem wT (j:Is 2 p) (d:kp vJ o=true) (i:Is 3 q):split (p++o::q)=p.length:=by
 have h:=JL (kh j) (ay d) d (vh i vJ (Or.inl rfl) rfl)
 have f:=Is.t2 p o q j d i
 have x:=(Yy f kF (Or.inr rfl) rfl).last
 have k:=(Yy f kL (Or.inl rfl) rfl).last
 rw[split,x,zE (by omega),k,zE (by omega),h]
theorem QD (h:Is 3 p):split p=-1:=by
 have i:=(vh h kF (Or.inr (Or.inr rfl)) rfl).last
 have f:=(vh h kL (Or.inr (Or.inl rfl)) rfl).last
 have d:=(vh h vJ (Or.inl rfl) rfl).last
 rw[split,i,zE (by omega),f,zE (by omega),d]
end Rf
end Go.Proofs.YthleadfkfnnadaaGreat
namespace Go.Proofs.YthleadfkfnnadaaGreat
open Go.RowKit
variable {o:ByteArray} {ls:List (List ByteArray)} {p q:List ByteArray} {xs:List Int} {P n B:Nat} {v fv vv cv ov:Value} {w w':World}
def FB (r:Int×Int) (w:World) (e:Ending) (w':World):Prop:=e=.returned (.tuple #[.int .i64 r.1,.int .i64 r.2])/\Below w.heap.size w w'
def Z5 (ls:List (List ByteArray)) (p:Rf.Pl) (r:Int×Int) (t:List ByteArray):Prop:=
 ∀(w:World) (S g cap P:Nat) (v:Value),jA w S g cap ls->Dv w P p->xA w v t->Calls Tryz.prog 154 #[.pointer (some ⟨S,0,none⟩),.pointer (some ⟨P,0,none⟩),v] w (FB r w)
theorem rb {p:Rf.Pl} {t:List ByteArray} {k:Nat} {a b:Int×Int} (I:Y8 t) (M:Rf.split t=k) (H:k < t.length) (V:Z5 ls p a (t.take k)) (U:Z5 ls p b (t.drop (k+1))) :
  Z5 ls p (if ¬a.2=0 then (0,a.2)else if ¬b.2=0 then (0,b.2)else Rf.two a.1 t[k].toList b.1) t:=by
 intro w S g cap P v T R F
 have HG:=zD T
 have W:=zD R
 have G:=zD F
 have HF:=zD I
 have Z:=qG V U
 have hl:=I.1
 obtain⟨ad,cp,rfl,O⟩:=F.form
 obtain⟨tb,d,rfl⟩:=F.qZ (by intro h;rw[h]at H;simp at H)
 clear T R F I V U
 have N:(k:Int) < (t.length:Int):=by omega
 have a0:(0:Int)<=(k:Int):=by omega
 go_enter Tryz.func154,Tryz.ntmps154
 go_wp2_with fail
 refine(JE G.u HF.u).mono ?_
 rintro e w1 ⟨rfl,z⟩
 rw[M]
 have i:=zD z
 clear z M
 go_wp2_with fail
 refine(Z.u.1 _ S g cap P _ (HG.u.zP i.u) (W.u.zP i.u) ((G.u.zP i.u).take k _ (by omega) (by omega))).mono ?_
 rintro e w2 ⟨rfl,y⟩
 have f:=zD (i.u.trans (y.mono (B':=w.heap.size) i.u.size))
 clear y
 obtain⟨L,a2⟩:=a
 obtain⟨J,b2⟩:=b
 by_cases ha:a2=0
 ·subst ha
  go_wp2_with fail
  all_goals
   refine(Z.u.2 _ S g cap P _ (HG.u.zP f.u) (W.u.zP f.u) (by first | exact xA.gone (by omega) rfl | exact(G.u.zP f.u).drop (k+1) _ _ rfl (by omega))).mono ?_
   rintro e w3 ⟨rfl,o⟩
   have j:=zD (f.u.trans (o.mono (B':=w.heap.size) f.u.size))
   clear o
   by_cases hb:b2=0
   ·subst hb
    obtain⟨ub,uo,uc,D,ct⟩:=(G.u.zP j.u).cell H
    simp only[xJ,zx,Z9,jH,jJ]at D
    obtain⟨⟨rfl,rfl⟩,D⟩:=D
    clear D
    generalize A:t[k]=x at *
    have HX:=zD A
    clear A
    go_wp2_with fail
    refine(D2 _ L J x).mono ?_
    rintro e w4 ⟨rfl,rfl⟩
    go_wp2_with fail
    go_ret2
    have A:=HX.u
    subst A
    exact⟨(qB (fun r:Int×Int=>Ending.returned (.tuple #[.int .i64 r.1,.int .i64 r.2])) (show (if ¬(0:Int)=0 then ((0:Int),(0:Int))else if ¬(0:Int)=0 then ((0:Int),(0:Int))else Rf.two L t[k].toList J)=Rf.two L t[k].toList J by simp)).symm,j.u⟩
   ·have a3:(b2 != 0)=true:=by simpa using hb
    go_wp2_with fail
    go_ret2
    exact⟨by simp,j.u⟩
 ·have a4:(a2 != 0)=true:=by simpa using ha
  go_wp2_with fail
  go_ret2
  exact⟨by simp,f.u⟩
theorem YX (h:w.ownsRow B 3 1 v xs.length (xR xs)):kA w v xs:=by
 obtain⟨o,cap,rfl⟩:=zK h
 by_cases e:xs=[]
 ·exact⟨o,cap,rfl,Or.inl e⟩
 ·have i:0 < xs.length:=kO.mpr e
  obtain⟨g,c,f,_,_,_⟩:=yD h (j:=0) (u:=.int .i64 xs[0]) (by simp[xR,i])
  injection f with h1 h2 h3
  subst h1 h3
  refine⟨some ⟨g,0,none⟩,cap,rfl,Or.inr ⟨g,0,rfl,fun j hj=>?_⟩⟩
  obtain⟨g',x,d,_,_,k⟩:=yD h (j:=j) (u:=.int .i64 xs[j]) (by simp[xR,hj])
  injection d with h1 _ _
  injection h1 with h1
  injection h1 with h1
  subst h1
  rw[xW]
  exact k
structure Bf (w:World) (fv vv cv ov:Value) (p:Rf.Pl):Prop where
 zH:∃b o cap,fv=.slice (some ⟨b,o,none⟩) p.zH.length cap/\∀i (h:i < p.zH.length),∃av,w.cell? ⟨b,o+i*3,none⟩=some (.int .i64 p.zH[i].proc)/\w.cell? ⟨b,o+i*3+1,none⟩=some av/\w.cell? ⟨b,o+i*3+2,none⟩=some (.int .i64 p.zH[i].call)/\kA w av p.zH[i].args
 vars:kA w vv p.vars
 cells:∃b o cap,cv=.slice (some ⟨b,o,none⟩) p.cells.length cap/\∀i (h:i < p.cells.length),∃x,w.cell? ⟨b,o+i,none⟩=some x/\kA w x p.cells[i]
 out:kA w ov p.out
theorem Bf.zP {w w':World} {fv vv cv ov:Value} {p:Rf.Pl} (h:Bf w fv vv cv ov p) (d:Below w.heap.size w w'):Bf w' fv vv cv ov p:=by
 obtain⟨⟨b,o,cap,D,A⟩,v,⟨H,z,f,G,F⟩,x⟩:=h
 refine⟨⟨b,o,cap,D,fun i hi=>?_⟩,v.zP d,⟨H,z,f,G,fun i hi=>?_⟩,x.zP d⟩
 ·obtain⟨I,k,j,L,J⟩:=A i hi
  exact⟨I,cell_later d k,cell_later d j,cell_later d L,J.zP d⟩
 ·obtain⟨y,k,j⟩:=F i hi
  exact⟨y,cell_later d k,j.zP d⟩
def jh (fv vv cv ov:Value) (p:Rf.Pl):Array Value:=#[fv,vv,cv,.int .i64 p.read,ov,.int .i64 p.line,.int .i64 p.fin]
theorem Bf.at {p:Rf.Pl} (h:Bf w fv vv cv ov p) {t:TypeId} (j:w.heap[P]?=some (.cells (jh fv vv cv ov p) t (0,0))):Dv w P p:=by
 have c:∀i (hi:i < 7),w.cell? ⟨P,i,none⟩=some ((jh fv vv cv ov p)[i]'(by simpa[jh] using hi)):=fun i hi=>zC j i (by simpa[jh] using hi)
 obtain⟨⟨b,o,cap,y,k⟩,v,⟨D,f,d,A,z⟩,x⟩:=h
 exact⟨⟨b,o,cap,by rw[<-y];exact c 0 (by omega),k⟩,⟨vv,c 1 (by omega),v⟩,⟨D,f,d,by rw[<-A];exact c 2 (by omega),z⟩,c 3 (by omega),⟨ov,c 4 (by omega),x⟩,c 5 (by omega),c 6 (by omega)⟩
structure Qg where
 fv:Value
 vv:Value
 cv:Value
 ov:Value
 xg:List Value
 kB:List Value
def frCells:List Value->List Rf.Fr->List Value
 | v::vs,f::fs=>.int .i64 f.proc::v::.int .i64 f.call::frCells vs fs
 | _,_=>[]
theorem Ke:∀(vs:List Value) (fs:List Rf.Fr),vs.length=fs.length->(frCells vs fs).length=fs.length*3
 | [],[],_=>rfl
 | [],_::_,h=>by simp at h
 | _::_,[],h=>by simp at h
 | v::vs,f::fs,h=>by
  have:=Ke vs fs (by simpa using h)
  simp only[frCells,yE,this]
  omega
theorem Jr:∀(vs:List Value) (fs:List Rf.Fr) (v:Value) (f:Rf.Fr),vs.length=fs.length->frCells (vs++[v]) (fs++[f])=frCells vs fs++[.int .i64 f.proc,v,.int .i64 f.call]
 | [],[],_,_,_=>rfl
 | [],_::_,_,_,h=>by simp at h
 | _::_,[],_,_,h=>by simp at h
 | v::vs,f::fs,v',f',h=>by
  have:=Jr vs fs v' f' (by simpa using h)
  simp only[yF,frCells,this]
theorem YN:∀(vs:List Value) (fs:List Rf.Fr) (h:vs.length=fs.length) (i:Nat) (hi:i < fs.length),(frCells vs fs)[i*3]?=some (.int .i64 fs[i].proc)/\(frCells vs fs)[i*3+1]?=some (vs[i]'(by rw[h];exact hi))/\(frCells vs fs)[i*3+2]?=some (.int .i64 fs[i].call)
 | [],[],_,i,hi=>by simp at hi
 | [],_::_,h,_,_=>by simp at h
 | _::_,[],h,_,_=>by simp at h
 | v::vs,f::fs,h,0,hi=>by simp[frCells]
 | v::vs,f::fs,h,i+1,hi=>by
  have:=YN vs fs (by simpa using h) i (by simpa using hi)
  simp only[frCells,show (i+1)*3=i*3+3 by omega]
  simpa using this
theorem dq:∀(vs:List Value) (fs:List Rf.Fr) (i:Nat) (g:List Int->List Int),frCells vs (fs.modify i (fun f=>⟨f.proc,g f.args,f.call⟩))=frCells vs fs
 | [],_,_,_=>by cases ‹List Rf.Fr› <;> rfl
 | _::_,[],i,_=>by cases i <;> rfl
 | v::vs,f::fs,0,g=>by simp[frCells]
 | v::vs,f::fs,i+1,g=>by simp only[Yl,frCells,dq vs fs i g]
theorem Cd (fs:List Rf.Fr) (i:Nat) (g:List Int->List Int):(fs.modify i (fun f=>⟨f.proc,g f.args,f.call⟩)).map Rf.Fr.args=(fs.map Rf.Fr.args).modify i g:=by
 induction fs generalizing i with
 | nil=>cases i <;> rfl
 | cons f fs ih=>cases i with
  | zero=>rfl
  | succ i=>simp[ih]
def jy (v:Value) (vs:List Value) (fs:List Rf.Fr):Rw:=⟨130,3,v,fs.length,frCells vs fs⟩
def YF (v:Value) (vs:List Value) (n:Nat):Rw:=⟨24,1,v,n,vs⟩
def yO (X:Qg) (p:Rf.Pl):List Rw:=
 [jy X.fv X.xg p.zH,zz X.vv p.vars,YF X.cv X.kB p.cells.length,zz X.ov p.out]++(List.zipWith zz X.xg (p.zH.map Rf.Fr.args)++List.zipWith zz X.kB p.cells)
structure vC (w:World) (B P:Nat) (p:Rf.Pl) (X:Qg):Prop where
 block:w.heap[P]?=some (.cells (jh X.fv X.vv X.cv X.ov p) 72 (0,0))
 own:Own w (yO X p)
 fl:X.xg.length=p.zH.length
 cl:X.kB.length=p.cells.length
 new:∀k∈xh (yO X p),B<=k
 here:B<=P
theorem vC.zP {w w':World} {B P:Nat} {p:Rf.Pl} {X:Qg} (h:vC w B P p X) (d:Below w.heap.size w w'):vC w' B P p X:=
 ⟨zU h.block d,h.own.zP d,h.fl,h.cl,h.new,h.here⟩
section
variable {w : World} {B P : Nat} {p : Rf.Pl} {X : Qg} (h : vC w B P p X)
include h
theorem vC.Jq:w.ownsRow 0 130 3 X.fv p.zH.length (frCells X.xg p.zH):=h.own.rows (jy X.fv X.xg p.zH) (by simp[yO])
theorem vC.wJ:w.ownsRow 0 3 1 X.vv p.vars.length (xR p.vars):=h.own.rows (zz X.vv p.vars) (by simp[yO])
theorem vC.eB:w.ownsRow 0 24 1 X.cv p.cells.length X.kB:=h.own.rows (YF X.cv X.kB p.cells.length) (by simp[yO])
theorem vC.CQ:w.ownsRow 0 3 1 X.ov p.out.length (xR p.out):=h.own.rows (zz X.ov p.out) (by simp[yO])
theorem vC.Gr (i:Nat) (f:i < p.zH.length):w.ownsRow 0 3 1 (X.xg[i]'(by rw[h.fl];exact f)) p.zH[i].args.length (xR p.zH[i].args):=by
 have d:i < X.xg.length:=by rw[h.fl];exact f
 refine h.own.rows (zz X.xg[i] p.zH[i].args) ?_
 unfold yO
 refine zb _ (zY _ ?_)
 have:(List.zipWith zz X.xg (p.zH.map Rf.Fr.args))[i]?=some (zz X.xg[i] p.zH[i].args):=by
  rw[je,zJ d,yt,zJ f]
  rfl
 exact qF this
theorem vC.Gl (i:Nat) (f:i < p.cells.length):w.ownsRow 0 3 1 (X.kB[i]'(by rw[h.cl];exact f)) p.cells[i].length (xR p.cells[i]):=by
 have d:i < X.kB.length:=by rw[h.cl];exact f
 refine h.own.rows (zz X.kB[i] p.cells[i]) ?_
 unfold yO
 refine zb _ (zb _ ?_)
 have:(List.zipWith zz X.kB p.cells)[i]?=some (zz X.kB[i] p.cells[i]):=by
  rw[je,zJ d,zJ f]
 exact qF this
theorem vC.val (I:0 < p.zH.length) (J:0 < p.cells.length):Bf w X.fv X.vv X.cv X.ov p:=by
 obtain⟨g,cap,z,_,_,_⟩:=yD h.Jq (YN X.xg p.zH h.fl 0 I).1
 obtain⟨L,x,o,_,_,_⟩:=yD h.eB (j:=0) (zJ (by rw[h.cl];exact J))
 refine⟨⟨g,0,cap,z,fun i hi=>?_⟩,YX h.wJ,⟨L,0,x,o,fun i hi=>?_⟩,YX h.CQ⟩
 ·obtain⟨H,G,F⟩:=YN X.xg p.zH h.fl i hi
  obtain⟨M,N,d,_,_,y⟩:=yD h.Jq H
  obtain⟨R,U,k,_,_,D⟩:=yD h.Jq G
  obtain⟨O,T,f,_,_,A⟩:=yD h.Jq F
  rw[z]at d k f
  injection d with d _ _
  injection d with d
  injection d with d
  injection k with k _ _
  injection k with k
  injection k with k
  injection f with f _ _
  injection f with f
  injection f with f
  subst d k f
  rw[xW]
  exact⟨_,y,D,A,YX (h.Gr i hi)⟩
 ·obtain⟨M,N,d,_,_,y⟩:=yD h.eB (j:=i) (zJ (by rw[h.cl];exact hi))
  rw[o]at d
  injection d with d _ _
  injection d with d
  injection d with d
  subst d
  rw[xW]
  exact⟨_,y,YX (h.Gl i hi)⟩
theorem vC.read (d:0 < p.zH.length) (f:0 < p.cells.length):Dv w P p:=(h.val d f).at h.block
end
end Go.Proofs.YthleadfkfnnadaaGreat
namespace Go.Proofs.YthleadfkfnnadaaGreat
variable {o:ByteArray} {ls:List (List ByteArray)} {p q:List ByteArray} {xs:List Int} {P n B:Nat} {v fv vv cv ov:Value} {w w':World}
namespace Rt
theorem pH (lk:Qw) (o:Nat) (x q:Int):(jR (lk.modify o (fun y=>(x,y.2))) q).2=(jR lk q).2:=by
 unfold jR
 split
 ·rfl
 ·rw[qW]
  cases lk[q.toNat]? with
  | none=>rfl
  | some y=>
   simp only[Qv,Xf,Zn]
   split <;> rfl
theorem QP (lk:Qw) (o:Nat) (f:Int×Int->Int×Int) (q:Int) (h:q≠o) (d:0<=q):jR (lk.modify o f) q=jR lk q:=by
 unfold jR
 rw[zA (by omega),zA (by omega),qW]
 cases lk[q.toNat]? with
 | none=>rfl
 | some y=>
  simp only[Qv,Xf,Zn]
  rw[zA (by omega)]
theorem gD (lk:Qw) (o:Nat) (x:Int) (h:o < lk.length):(jR (lk.modify o (fun y=>(y.1,x))) (o:Int)).2=x:=by
 unfold jR
 rw[zA (by omega),qW,xS,zJ h]
 simp
structure Zo (n:Nat) (bs:List Zx) (acc:List PL) (lk:Qw):Prop where
 inc:(bs.map (·.line)).Pairwise (· < ·)
 lt:∀x∈bs.map (·.line),1<=x/\x < n
 fwd:∀(j:Nat) (p:PL),acc[j]?=some p->p.form.kind=6->∃o:Nat,p.opener=(o:Int)/\(o∈bs.map (·.line)\/(o∉bs.map (·.line)/\o < n/\(j:Int)<=(jR lk o).2/\(jR lk o).2<=n))
theorem Vw {bs:List Zx} (h:bs≠[]):bs.map (·.line)=bs.dropLast.map (·.line)++[(jE bs).line]:=by
 have:jE bs=bs.getLast h:=by
  unfold jE
  rw[xk,xd h]
  rfl
 rw[this]
 conv=>lhs;rw[<-xj h]
 rw[yB]
 rfl
theorem KP (d:List Zx) (p:PL):(ym d p).form.kind=p.form.kind:=by rw[(XH d p).2]
theorem Zo.grow {bs bs':List Zx} {acc:List PL} {lk lk':Qw} {q:PL} (h:Zo n bs acc lk) (A:acc.length=n) (f:bs'.map (·.line)=bs.map (·.line)) (y:∀o:Nat,(jR lk' o).2=(jR lk o).2) (z:q.form.kind=6->∃o:Nat,q.opener=(o:Int)/\o∈bs.map (·.line)):Zo (n+1) bs' (acc++[q]) lk':=by
 refine⟨by rw[f];exact h.inc,fun x hx=>by rw[f]at hx;have:=h.lt x hx;omega,?_⟩
 intro j p d i
 rw[f]
 by_cases hlt:j < acc.length
 ·rw[yp hlt]at d
  obtain⟨o,e,h1⟩:=h.fwd j p d i
  refine⟨o,e,?_⟩
  rcases h1 with h1 | ⟨h1,h2,h3,h4⟩
  ·exact Or.inl h1
  ·exact Or.inr ⟨h1,by omega,by rw[y];exact h3,by rw[y];omega⟩
 ·rw[yU (by omega)]at d
  cases hjj:j-acc.length with
  | zero=>
   rw[hjj]at d
   simp at d
   subst d
   obtain⟨o,e,h1⟩:=z i
   exact⟨o,e,Or.inl h1⟩
  | succ k=>rw[hjj]at d;simp at d
theorem Zo.opens {bs:List Zx} {acc:List PL} {lk:Qw} {q:PL} {b:Zx} (h:Zo n bs acc lk) (A:acc.length=n) (D:0 < n) (z:b.line=n) (i:q.form.kind≠6):Zo (n+1) (bs++[b]) (acc++[q]) lk:=by
 have hm:(bs++[b]).map (·.line)=bs.map (·.line)++[n]:=by rw[yB,qp,Ye,z]
 refine⟨?_,?_,?_⟩
 ·rw[hm,qE]
  exact⟨h.inc,List.pairwise_singleton _ _,fun x hx y hy=>by have:=h.lt x hx;rw[yN.mp hy];exact this.2⟩
 ·intro x hx
  rw[hm]at hx
  rcases zd.mp hx with hx | hx
  ·have:=h.lt x hx;omega
  ·rw[yN.mp hx];omega
 ·intro j p d f
  rw[hm]
  by_cases hlt:j < acc.length
  ·rw[yp hlt]at d
   obtain⟨o,e,h1⟩:=h.fwd j p d f
   refine⟨o,e,?_⟩
   rcases h1 with h1 | ⟨h1,h2,h3,h4⟩
   ·exact Or.inl (zY _ h1)
   ·refine Or.inr ⟨fun hm=>?_,by omega,h3,by omega⟩
    rcases zd.mp hm with hm | hm
    ·exact h1 hm
    ·rw[yN.mp hm]at h2;omega
  ·rw[yU (by omega)]at d
   cases hjj:j-acc.length with
   | zero=>rw[hjj]at d;simp at d;subst d;exact absurd f i
   | succ k=>rw[hjj]at d;simp at d
theorem Zo.ends {bs:List Zx} {acc:List PL} {lk:Qw} {q:PL} (h:Zo n bs acc lk) (L:acc.length=n) (J:bs≠[]) (I:n<=lk.length) (H:q.form.kind≠6):Zo (n+1) bs.dropLast (acc++[q]) (lk.modify (jE bs).line (fun y=>(y.1,(n:Int)))):=by
 have z:=Vw J
 have f:=h.inc
 rw[z,qE]at f
 obtain⟨G,_,F⟩:=f
 have A:1<=(jE bs).line/\(jE bs).line < n:=h.lt _ (by rw[z];simp)
 have i:(jE bs).line∉bs.dropLast.map (·.line):=fun hm=>by have:=F _ hm _ (yN.mpr rfl);omega
 refine⟨G,fun x hx=>by have:=h.lt x (by rw[z];exact zY _ hx);omega,?_⟩
 intro j p d D
 by_cases hlt:j < acc.length
 ·rw[yp hlt]at d
  obtain⟨o,e,h1⟩:=h.fwd j p d D
  refine⟨o,e,?_⟩
  rw[z]at h1
  by_cases ho:o=(jE bs).line
  ·refine Or.inr ⟨by rw[ho];exact i,by omega,?_,?_⟩
   ·rw[ho,gD _ _ _ (by omega)];omega
   ·rw[ho,gD _ _ _ (by omega)];omega
  ·rw[QP _ _ _ _ (by omega) (by omega)]
   rcases h1 with h1 | ⟨h1,h2,h3,h4⟩
   ·rcases zd.mp h1 with h1 | h1
    ·exact Or.inl h1
    ·exact absurd (yN.mp h1) ho
   ·exact Or.inr ⟨fun hm=>h1 (zY _ hm),by omega,h3,by omega⟩
 ·rw[yU (by omega)]at d
  cases hjj:j-acc.length with
  | zero=>rw[hjj]at d;simp at d;subst d;exact absurd D H
  | succ k=>rw[hjj]at d;simp at d
theorem rO {bs:List Zx} {k:Int} (h:Yj bs k=true) (d:k=4\/k=6):bs≠[]:=by
 intro e
 unfold Yj at h
 rw[zA (by omega),zA (by omega),zE e]at h
 cases h
theorem Zo.step {len:Nat} {bs:List Zx} {acc:List PL} {lk:Qw} {p:PL} (h:Zo n bs acc lk) (A:acc.length=n) (I:0 < n) (F:n < len) (H:lk.length=len) (G:Yj bs p.form.kind=true) :
  Zo (n+1) (qK bs n p.form.kind) (acc++[ym bs p]) (Zu len lk (ym bs p) n):=by
 have d:=KP bs p
 by_cases h6:p.form.kind=6
 ·have x:=rO G (Or.inr h6)
  have z:=Vw x
  have i:(ym bs p).opener=((jE bs).line:Int):=by unfold ym;rw[zA x,zE (Or.inl h6)]
  have k:qK bs n p.form.kind=bs.dropLast++[⟨(jE bs).line,(jE bs).kind,true⟩]:=by
   unfold qK
   rw[zA (by omega),zE h6,zA x]
  have j:(jE bs).line∈bs.map (·.line):=by rw[z];simp
  have D:=h.lt _ j
  have f:Zu len lk (ym bs p) n=lk.modify (jE bs).line (fun y=>((n:Int),y.2)):=by
   unfold Zu
   rw[i,zE (by omega),d,zE h6]
   rfl
  rw[k,f]
  refine h.grow A ?_ (fun o=>pH _ _ _ _) (fun _=>⟨_,i,j⟩)
  rw[z,yB]
  rfl
 ·by_cases h4:p.form.kind=4
  ·have x:=rO G (Or.inl h4)
   have z:=Vw x
   have i:(ym bs p).opener=((jE bs).line:Int):=by unfold ym;rw[zA x,zE (Or.inr h4)]
   have j:(jE bs).line∈bs.map (·.line):=by rw[z];simp
   have D:=h.lt _ j
   have k:qK bs n p.form.kind=bs.dropLast:=by
    unfold qK
    rw[zA (by omega),zA h6,zE h4]
   have f:Zu len lk (ym bs p) n=lk.modify (jE bs).line (fun y=>(y.1,(n:Int))):=by
    unfold Zu
    rw[i,zE (by omega),d,zA h6,zE h4]
    rfl
   rw[k,f]
   exact h.ends A x (by omega) (by rw[d];exact h6)
  ·have f:Zu len lk (ym bs p) n=lk:=by
    unfold Zu
    rw[d,zA h6,zA h4]
    split <;> rfl
   rw[f]
   unfold qK
   by_cases h3:p.form.kind=3\/p.form.kind=5\/p.form.kind=7
   ·rw[zE h3]
    exact h.opens A I rfl (by rw[d];exact h6)
   ·rw[zA h3,zA h6,zA h4]
    exact h.grow A rfl (fun _=>rfl) (fun e=>absurd (d▸e) h6)
theorem od (len:Nat):∀(ps:List PL) (n:Nat) (bs:List Zx) (acc:List PL) (lk:Qw) (ls:List PL) (b2:List Zx),nestFrom ps n bs acc=(0,ls,b2)->0 < n->acc.length=n->n+ps.length=len->lk.length=len->Zo n bs acc lk->Zo len b2 ls (nestLk len ps n bs lk)
 | [],n,bs,acc,lk,ls,b2,h,_,_,hl,_,hi=>by
  simp[nestFrom]at h
  obtain⟨rfl,rfl⟩:=h
  have:n=len:=by simpa using hl
  subst this
  exact hi
 | p::r,n,bs,acc,lk,ls,b2,h,h0,hn,hl,hlk,hi=>by
  rw[nestFrom]at h
  split at h
  ·next ha=>
   rw[nestLk,zE ha]
   exact od len r (n+1) _ _ _ ls b2 h (by omega) (by simp[hn]) (by simp at hl;omega) (by rw[Jl,hlk]) (hi.step hn h0 (by simp at hl;omega) hlk ha)
  ·simp at h;omega
theorem Aj {ps ls:List PL} (h:nestFrom ps 1 [] [kb]=(0,ls,[])) (i:ps.length<=100):∀(n:Nat) (p:PL),ls[n]?=some p->p.form.kind=6->(n:Int)<=(jR (vS ps) p.opener).2/\(jR (vS ps) p.opener).2<=200:=by
 have f:=od (ps.length+1) ps 1 [] [kb] (List.replicate (ps.length+1) (0,0)) ls [] h (by omega) rfl (by omega) (by simp) ⟨by simp,by simp,fun j p hj hp=>by
  cases j with
  | zero=>simp at hj;subst hj;exact absurd hp (by decide)
  | succ j=>simp at hj⟩
 intro n p d hp
 obtain⟨o,e,h1⟩:=f.fwd n p d hp
 rcases h1 with h1 | ⟨_,_,h3,h4⟩
 ·simp at h1
 ·rw[e]
  exact⟨h3,by unfold vS;omega⟩
end Rt
end Go.Proofs.YthleadfkfnnadaaGreat
