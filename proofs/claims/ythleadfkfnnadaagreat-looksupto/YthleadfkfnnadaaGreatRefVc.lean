/- The document's answer: what a number or a name is worth. -/
import Derived.Test.YthleadfkfnnadaaGreatEqvF
import Derived.Test.YthleadfkfnnadaaGreatNames1
import Derived.Laws.IdiomStrings
set_option maxHeartbeats 4000000
set_option maxRecDepth 100000
set_option linter.unusedSimpArgs false
namespace Go.Proofs.YthleadfkfnnadaaGreat
open Rf Go.Proofs.Tryz
open Go.RowKit
variable {a r:Int×Int} {ls:List (List ByteArray)} {t:List ByteArray} {P:Nat} {w:World}
namespace Rf
structure Fr where
 proc:Nat
 args:List Int
 call:Int
structure Pl where
 zH:List Fr
 vars:List Int
 cells:List (List Int)
 read:Nat
 out:List Int
 line:Int
 fin:Int
def zFr:Fr:=⟨0,[],0⟩
def top (p:Pl):Fr:=p.zH.getD (p.zH.length-1) zFr
def XZ (ls:List (List ByteArray)) (l:Nat):List ByteArray:=(xU ls (l-1)).drop 2
def value (ls:List (List ByteArray)) (p:Pl) (x:ByteArray):Int:=
 if 0<=index (XZ ls (top p).proc) x then (top p).args.getD (index (XZ ls (top p).proc) x).toNat 0 else p.vars.getD (decl ls x) 0
structure BZ (ls:List (List ByteArray)) (f:Fr):Prop where
 lo:1<=f.proc
 hi:f.proc<=ls.length
 two:2<=(xU ls (f.proc-1)).length
 args:f.args.length=(xU ls (f.proc-1)).length-2
structure V9 (ls:List (List ByteArray)) (p:Pl):Prop where
 some:0 < p.zH.length
 VJ:p.zH.length<=100
 each:∀f∈p.zH,BZ ls f
 vars:p.vars.length=ls.length+1
 cells:p.cells.length=ls.length+1
theorem V9.top {ls:List (List ByteArray)} {p:Pl} (h:V9 ls p):BZ ls (top p):=by
 have d:=h.some;unfold Rf.top;rw[xL,zJ (by omega)];exact h.each _ (zj _)
theorem dn (xs:List ByteArray) (x:ByteArray):∀f k,k+f=xs.length->-1<=indexFrom xs x f k/\indexFrom xs x f k < xs.length
 | 0,k,h=>by rw[indexFrom];omega
 | f+1,k,h=>by
  have:=dn xs x f (k+1) (by omega);rw[indexFrom];split <;> omega
theorem uf (xs:List ByteArray) (x:ByteArray):-1<=index xs x/\index xs x < xs.length:=dn xs x _ _ (by omega)
end Rf
abbrev G5 (xa:Option Addr) (xc:Nat) (ya:Option Addr) (yc:Nat) (za:Option Addr) (zc:Nat) (oa:Option Addr) (oc:Nat) (p:Rf.Pl):Array Value:=#[.slice xa p.zH.length xc,.slice ya p.vars.length yc,.slice za p.cells.length zc,.int .i64 p.read,.slice oa p.out.length oc,.int .i64 p.line,.int .i64 p.fin]
structure Dv (w:World) (P:Nat) (p:Rf.Pl):Prop where
 zH:∃b o cap,w.cell? ⟨P,0,none⟩=some (.slice (some ⟨b,o,none⟩) p.zH.length cap)/\∀i (h:i < p.zH.length),∃av,w.cell? ⟨b,o+i*3,none⟩=some (.int .i64 p.zH[i].proc)/\w.cell? ⟨b,o+i*3+1,none⟩=some av/\w.cell? ⟨b,o+i*3+2,none⟩=some (.int .i64 p.zH[i].call)/\kA w av p.zH[i].args
 vars:∃vv,w.cell? ⟨P,1,none⟩=some vv/\kA w vv p.vars
 cells:∃b o cap,w.cell? ⟨P,2,none⟩=some (.slice (some ⟨b,o,none⟩) p.cells.length cap)/\∀i (h:i < p.cells.length),∃cv,w.cell? ⟨b,o+i,none⟩=some cv/\kA w cv p.cells[i]
 read:w.cell? ⟨P,3,none⟩=some (.int .i64 p.read)
 out:∃ov,w.cell? ⟨P,4,none⟩=some ov/\kA w ov p.out
 line:w.cell? ⟨P,5,none⟩=some (.int .i64 p.line)
 fin:w.cell? ⟨P,6,none⟩=some (.int .i64 p.fin)
theorem Dv.zP {w w':World} {P:Nat} {p:Rf.Pl} (h:Dv w P p) (d:Below w.heap.size w w'):Dv w' P p:=by
 obtain⟨⟨b,o,cap,G,F⟩,⟨vv,y,x⟩,⟨J,A,f,I,H⟩,r,⟨ov,D,z⟩,l,e⟩:=h;refine⟨⟨b,o,cap,cell_later d G,fun i hi=>?_⟩,⟨vv,cell_later d y,x.zP d⟩,⟨J,A,f,cell_later d I,fun i hi=>?_⟩,cell_later d r,⟨ov,cell_later d D,z.zP d⟩,cell_later d l,cell_later d e⟩
 ·obtain⟨L,k,j,N,M⟩:=F i hi;exact⟨L,cell_later d k,cell_later d j,cell_later d N,M.zP d⟩
 ·obtain⟨cv,k,j⟩:=H i hi;exact⟨cv,cell_later d k,j.zP d⟩
theorem Dv.top {w:World} {P:Nat} {p:Rf.Pl} (h:Dv w P p) {n:Nat} (i:p.zH.length=n+1):∃b o cap av,w.cell? ⟨P,0,none⟩=some (.slice (some ⟨b,o,none⟩) (n+1) cap)/\w.cell? ⟨b,o+n*3,none⟩=some (.int .i64 (Rf.top p).proc)/\w.cell? ⟨b,o+n*3+1,none⟩=some av/\w.cell? ⟨b,o+n*3+2,none⟩=some (.int .i64 (Rf.top p).call)/\kA w av (Rf.top p).args:=by
 obtain⟨b,o,cap,d,j⟩:=h.zH;obtain⟨av,z,y,x,k⟩:=j n (by omega);have f:Rf.top p=p.zH[n]:=by
  unfold Rf.top;rw[xL,show p.zH.length-1=n by omega,zJ (by omega)];rfl
 rw[i]at d;rw[f];exact⟨b,o,cap,av,d,z,y,x,k⟩
theorem wK {S g cap:Nat} {p:Rf.Pl} (x:ByteArray) (h:jA w S g cap ls) (hL:Lawful ls) (hp:Dv w P p) (z:V9 ls p):Calls Tryz.prog 118 #[.pointer (some ⟨S,0,none⟩),.pointer (some ⟨P,0,none⟩),.string x] w fun e w'=>e=.returned (.int .i64 (Rf.value ls p x))/\Below w.heap.size w w':=by
 obtain⟨n,hn⟩:∃n,p.zH.length=n+1:=⟨p.zH.length-1,by have:=z.some;omega⟩;have a6:=z.top;have a5:=z.VJ;rw[hn]at a5;have N:=z.vars;obtain⟨b,o,cp,av,c0,c1,c2,c3,G⟩:=hp.top hn;obtain⟨fl,fh,f2,fa⟩:=a6;have M:Hd (Rf.value ls p x=_):=zD (by unfold Rf.value;rfl);have HP:=zD hp;have HG:=zD h;have L:=zD hL;have a4:=zD G;have V:=hL.len;clear hp h hL z G hn;generalize Rf.top p=fr at *;obtain⟨k,R⟩:∃q,fr.proc=q+1:=⟨fr.proc-1,by omega⟩;rw[R]at fl fh f2 fa M c1;rw[zu]at f2 fa;have f:k < ls.length:=by omega
 rw[yq f]at f2 fa;rw[show ((k+1:Nat):Int)=(k:Int)+1 by omega]at c1;have b8:IntKind.i64.wrap ((n:Int)+1-1)=n:=by rw[show (n:Int)+1-1=(n:Int) by omega];exact zl _ ⟨by omega,by omega⟩
 have b9:IntKind.i64.wrap (n:Int)=n:=zl _ ⟨by omega,by omega⟩;have d2:(0:Int)<=(n:Int):=by omega
 have d1:(n:Int) < (n:Int)+1:=by omega
 have d0:(n:Int)<=1000:=by omega
 have b0:=zD fa;have b1:=zD f2;have a7:=zD N;clear fa f2 N R fl fh;obtain⟨D,j,rfl,G⟩:=a4.u;clear G;go_enter func118,ntmps118;go_wp2_with fail;go_region_held3 (fun w'=>w'.cell? ⟨P,0,none⟩=some (.slice (some ⟨b,o,none⟩) (n+1) cp)/\w'.cell? ⟨b,o+n*3,none⟩=some (.int .i64 ((k:Int)+1))/\w'.cell? ⟨b,o+n*3+1,none⟩=some (.slice D fr.args.length j)/\w'.cell? ⟨b,o+n*3+2,none⟩=some (.int .i64 fr.call)) (go_keep) (fail);have a2:=((zI w.heap.size w).alloc (zB _) (.cells #[.int .i64 ((k:Int)+1),.slice D fr.args.length j,.int .i64 fr.call] 130)).drew;have I:(w.alloc (.cells #[.int .i64 ((k:Int)+1),.slice D fr.args.length j,.int .i64 fr.call] 130)).drew.heap[w.heap.size]?=some (.cells #[.int .i64 ((k:Int)+1),.slice D fr.args.length j,.int .i64 fr.call] 130 (0,0)):=zN w _;generalize (w.alloc (.cells #[.int .i64 ((k:Int)+1),.slice D fr.args.length j,.int .i64 fr.call] 130)).drew=w1 at *;have k0:=zC I 0 (by simp);simp only[yQ,zv]at k0;have F:=qG a2 I;clear a2 I c0 c1 c2 c3;go_wp2_with fail;refine(Jd k (HG.u.zP F.u.1) f V b1.u (L.u.XO f).1).mono ?_;rintro e w2 ⟨pv,rfl,H,J⟩;have U:(ls[k].drop 2).length<=1000:=by have:=(L.u.XO f).1;simp;omega
 have y:=qG (F.u.1.trans (J.mono (B':=w.heap.size) F.u.1.size)) (zU F.u.2 J);have a8:=zD H;obtain⟨b7,b4,rfl,_⟩:=H.form;clear J H F k0;have Z:=uf (ls[k].drop 2) x;have T:XZ ls (k+1)=ls[k].drop 2:=by rw[XZ,zu,yq f]
 rw[T]at M;have a3:(fr.args.length:Int)=((ls[k].drop 2).length:Int):=by rw[b0.u];simp
 clear T;generalize ls[k].drop 2=ps at *;go_wp2_with fail;refine(lr x a8.u (by omega)).mono ?_;rintro e w' ⟨rfl,rfl⟩;have b3:=zD a3;generalize Rf.index ps x=ix at *;have d4:=zD U;have a9:=zD Z;clear U a3 Z;have k1:=zC y.u.2 1 (by simp);simp only[yQ,yH,zv]at k1;by_cases hi:0<=ix
 ·rw[zE hi]at M;obtain⟨i,rfl⟩:=yr hi;have W:i < fr.args.length:=by have:=b3.u;have:=a9.u;omega
  have b5:(i:Int) < (fr.args.length:Int):=by omega
  obtain⟨ab,ao,ac,he,ci⟩:=(a4.u.zP y.u.1).get W;simp only[xJ,jH]at he;obtain⟨rfl,he⟩:=he;clear he;have HR:Hd (Rf.value ls p x=fr.args[i]):=zD (by rw[M.u];simp[W]);generalize fr.args[i]=r at *;go_wp2;go_ret;exact⟨by rw[HR.u];rfl,y.u.1⟩
 ·rw[zA hi]at M;go_wp2_with fail;refine(qg x (HG.u.zP y.u.1) L.u).mono ?_;rintro e w3 ⟨rfl,a1⟩;have A:=y.u.1.trans (a1.mono (B':=w.heap.size) y.u.1.size);obtain⟨vv,cv,O⟩:=(HP.u.zP A).vars;have b2:=zD A;have d3:=Qb ls x;have a0:Rf.decl ls x < p.vars.length:=by have:=a7.u;omega
  obtain⟨vb,vo,vc,rfl,ci⟩:=O.get a0;have HR:Hd (Rf.value ls p x=p.vars[Rf.decl ls x]):=zD (by rw[M.u];simp[a0]);generalize p.vars[Rf.decl ls x]=r at *;generalize Rf.decl ls x=d at *;have b6:(d:Int) < (p.vars.length:Int):=by omega
  clear a1 A O k1;go_wp2;go_ret;exact⟨by rw[HR.u];rfl,b2.u⟩
theorem Kd {v:Value} {xs:List Int} (h:kA w v xs) (H:xs.length<=1000000):Calls Tryz.prog 58 #[v] w fun e w'=>Below w.heap.size w w'/\∃v',e=.returned v'/\w'.ownsRow w.heap.size 3 1 v' xs.length (xs.map (Value.int .i64)):=by
 obtain⟨D,z,y,x,F⟩:=yi eU;have G:=zD h;obtain⟨I,cap,rfl,_⟩:=h;have k:=(zI w.heap.size w).alloc (zB _) (.cells #[] 3);have i:(w.alloc (.cells #[] 3)).ownsRow w.heap.size 3 1 (.slice (some ⟨w.heap.size,0,none⟩) 0 0) 0 []:=World.ownsRow_made w #[] 0 (zB _) (by unfold maxLen;omega) rfl;go_enter func58,ntmps58;go_wp2_with (at_builtin;refine Qh _ rfl _ _ 24 24 rfl w.heap.size 3 D _ underlying24 z y x (by omega) rfl _ _ _ rfl i _ xs.length (xs.map (Value.int .i64)) rfl (G.u.zP k).src ?c1 ?c2 ?_)
 case c1=>omega
 case c2=>simp
 intro v' w' d f;have o:=k.grown f (by simp) (fun j hj=>by simp[Value.ownBlock]at hj;omega);have A:=qG d o;clear d o f i k;go_wp2;go_ret;exact⟨A.u.2,_,rfl,A.u.1⟩
def FB (r:Int×Int) (w:World) (e:Ending) (w':World):Prop:=e=.returned (.tuple #[.int .i64 r.1,.int .i64 r.2])/\Below w.heap.size w w'
def Z5 (ls:List (List ByteArray)) (p:Rf.Pl) (r:Int×Int) (t:List ByteArray):Prop:=
 ∀(w:World) (S g cap P:Nat) (v:Value),jA w S g cap ls->Dv w P p->xA w v t->Calls Tryz.prog 154 #[.pointer (some ⟨S,0,none⟩),.pointer (some ⟨P,0,none⟩),v] w (FB r w)
theorem rb {p:Rf.Pl} {k:Nat} {b:Int×Int} (I:Y8 t) (M:Rf.split t=k) (H:k < t.length) (V:Z5 ls p a (t.take k)) (U:Z5 ls p b (t.drop (k+1))):Z5 ls p (if ¬a.2=0 then (0,a.2)else if ¬b.2=0 then (0,b.2)else Rf.two a.1 t[k].toList b.1) t:=by
 intro w S g cap P v T R F;have HG:=zD T;have W:=zD R;have G:=zD F;have HF:=zD I;have Z:=qG V U;have hl:=I.1;obtain⟨ad,cp,rfl,O⟩:=F.form;obtain⟨tb,d,rfl⟩:=F.qZ (by intro h;rw[h]at H;simp at H);clear T R F I V U;have N:(k:Int) < (t.length:Int):=by omega
 have a0:(0:Int)<=(k:Int):=by omega
 go_enter func154,ntmps154;go_wp2_with fail;refine(JE G.u HF.u).mono ?_;rintro e w1 ⟨rfl,z⟩;rw[M];have i:=zD z;clear z M;go_wp2_with fail;refine(Z.u.1 _ S g cap P _ (HG.u.zP i.u) (W.u.zP i.u) ((G.u.zP i.u).take k _ (by omega) (by omega))).mono ?_;rintro e w2 ⟨rfl,y⟩;have f:=zD (i.u.trans (y.mono (B':=w.heap.size) i.u.size));clear y;obtain⟨L,a2⟩:=a;obtain⟨J,b2⟩:=b;by_cases ha:a2=0
 ·subst ha;go_wp2_with fail
  all_goals
   refine(Z.u.2 _ S g cap P _ (HG.u.zP f.u) (W.u.zP f.u) (by first | exact xA.gone (by omega) rfl | exact(G.u.zP f.u).drop (k+1) _ _ rfl (by omega))).mono ?_;rintro e w3 ⟨rfl,o⟩;have j:=zD (f.u.trans (o.mono (B':=w.heap.size) f.u.size));clear o;by_cases hb:b2=0
   ·subst hb;obtain⟨ub,uo,uc,D,ct⟩:=(G.u.zP j.u).cell H;simp only[xJ,zx,Z9,jH,jJ]at D;obtain⟨⟨rfl,rfl⟩,D⟩:=D;clear D;generalize A:t[k]=x at *;have HX:=zD A;clear A;go_wp2_with fail;refine(D2 L J x).mono ?_;rintro e w4 ⟨rfl,rfl⟩;go_wp2_with fail;go_ret2;have A:=HX.u;subst A;exact⟨(qB (fun r:Int×Int=>Ending.returned (.tuple #[.int .i64 r.1,.int .i64 r.2])) (show (if ¬(0:Int)=0 then ((0:Int),(0:Int))else if ¬(0:Int)=0 then ((0:Int),(0:Int))else Rf.two L t[k].toList J)=Rf.two L t[k].toList J by simp)).symm,j.u⟩
   ·have a3:(b2 != 0)=true:=by simpa using hb
    go_wp2_with fail;go_ret2;exact⟨by simp,j.u⟩
 ·have a4:(a2 != 0)=true:=by simpa using ha
  go_wp2_with fail;go_ret2;exact⟨by simp,f.u⟩
theorem rZ {p:Rf.Pl} (z:Y8 t) (F:Rf.split t=-1) (i:0 < t.length) (hx:(t[0].toList==[45])=true) (M:Z5 ls p a (t.drop 1)):Z5 ls p (wrap64 (-a.1),a.2) t:=by
 intro w S g cap P v L J y;have T:=zD L;have O:=zD J;have A:=zD y;have U:=zD z;have R:=zD M;have hl:=z.1;obtain⟨ad,cp,rfl,I⟩:=y.form;obtain⟨tb,d,rfl⟩:=y.qZ (by intro h;rw[h]at i;simp at i);clear L J y z M;have H:(0:Int) < (t.length:Int):=by omega
 have G:(1:Int)<=(t.length:Int):=by omega
 go_enter func154,ntmps154;go_wp2_with fail;refine(JE A.u U.u).mono ?_;rintro e w1 ⟨rfl,j⟩;rw[F];obtain⟨Z,V,W,o,N⟩:=(A.u.zP j).cell i;simp only[xJ,zx,Z9,jH,jJ]at o;obtain⟨⟨rfl,rfl⟩,o⟩:=o;clear o;have f:=zD j;clear j F;simp only[qO]at N;generalize t[0]=x at *;go_wp2_with fail
 all_goals
  refine(R.u _ S g cap P _ (T.u.zP f.u) (O.u.zP f.u) (by first | exact xA.gone (by omega) rfl | exact(A.u.zP f.u).drop 1 _ _ rfl (by omega))).mono ?_;rintro e w2 ⟨rfl,k⟩;have D:=zD (f.u.trans (k.mono (B':=w.heap.size) f.u.size));clear k;go_wp2_with fail;go_ret2;exact⟨rfl,D.u⟩
theorem rY {p:Rf.Pl} (D:Y8 t) (G:Rf.split t=-1) (j:2<=t.length) (hx:(t[0].toList==[45])=false) (hy:(t[0].toList==[40])=true) (N:Z5 ls p a ((t.take (t.length-1)).drop 1)):Z5 ls p a t:=by
 intro w S g cap P v M L y;have U:=zD M;have R:=zD L;have z:=zD y;have V:=zD D;have T:=zD N;have hl:=D.1;obtain⟨ad,cp,rfl,J⟩:=y.form;obtain⟨tb,d,rfl⟩:=y.qZ (by intro h;rw[h]at j;simp at j);clear M L y D N;have A:0 < t.length:=by omega
 have I:(0:Int) < (t.length:Int):=by omega
 have H:(1:Int)<=(t.length:Int):=by omega
 go_enter func154,ntmps154;go_wp2_with fail;refine(JE z.u V.u).mono ?_;rintro e w1 ⟨rfl,i⟩;rw[G];obtain⟨ub,W,Z,o,O⟩:=(z.u.zP i).cell A;simp only[xJ,zx,Z9,jH,jJ]at o;obtain⟨⟨rfl,rfl⟩,o⟩:=o;clear o;have f:=zD i;clear i G;simp only[qO]at O;generalize t[0]=x at *;go_wp2_with fail
 all_goals
  refine(T.u _ S g cap P _ (U.u.zP f.u) (R.u.zP f.u) (by first | exact(z.u.zP f.u).Ad 1 (t.length-1) _ _ (by omega) rfl (by omega)| exact(z.u.zP f.u).Ad 1 (t.length-1) _ _ (by omega) (by omega) (by omega))).mono ?_;rintro e w2 ⟨rfl,k⟩;have F:=zD (f.u.trans (k.mono (B':=w.heap.size) f.u.size));clear k;go_wp2_with fail;go_ret2;exact⟨rfl,F.u⟩
theorem ra {p:Rf.Pl} (hL:Lawful ls) (G:V9 ls p) (hf:Y8 t) (hs:Rf.split t=-1) (H:3<=t.length) (hx:(t[0].toList==[45])=false) (hy:(t[0].toList==[40])=false) (h1:Z5 ls p a ((t.take (t.length-1)).drop 2)) (hr:r=if ¬a.2=0 then ((0:Int),a.2)else if a.1 < 0\/((p.cells.getD (Rf.decl ls t[0]) []).length:Int)<=a.1 then (0,3)else ((p.cells.getD (Rf.decl ls t[0]) []).getD a.1.toNat 0,0)):Z5 ls p r t:=by
 intro w S g cap P v hG hP hV;have HG:=zD hG;have HP:=zD hP;have T:=zD hV;have HF:=zD hf;have HI:=zD h1;have V:=zD hL;have U:=zD G;have hl:=hf.1;obtain⟨ad,cp,rfl,b0⟩:=hV.form;obtain⟨tb,f,rfl⟩:=hV.qZ (by intro h;rw[h]at H;simp at H);have HR:=zD hr;clear hG hP hV hf h1 hL G hr;have a0:0 < t.length:=by omega
 have a7:(0:Int) < (t.length:Int):=by omega
 have a6:(1:Int) < (t.length:Int):=by omega
 go_enter func154,ntmps154;go_wp2_with fail;refine(JE T.u HF.u).mono ?_;rintro e w1 ⟨rfl,D⟩;rw[hs];have HC:Hd (∀w',xA w' (.slice (some ⟨tb,f,none⟩) t.length cp) t->w'.cell? ⟨tb,f,none⟩=some (.string t[0])):=zD (by
  intro w' h;obtain⟨b',o',cap',y,c0⟩:=h.cell a0;simp at y;obtain⟨⟨rfl,rfl⟩,rfl⟩:=y;exact c0)
 have ct:=HC.u _ (T.u.zP D);have k:=zD D;clear D hs;generalize t[0]=x at *;go_wp2_with fail
 all_goals
  refine(HI.u _ S g cap P _ (HG.u.zP k.u) (HP.u.zP k.u) (by first | exact(T.u.zP k.u).Ad 2 (t.length-1) _ _ (by omega) rfl (by omega)| exact(T.u.zP k.u).Ad 2 (t.length-1) _ _ (by omega) (by omega) (by omega))).mono ?_;rintro e w2 ⟨rfl,N⟩;have j:=zD (k.u.trans (N.mono (B':=w.heap.size) k.u.size));clear N ct;obtain⟨a1,a2⟩:=a;by_cases ha:a2=0
  ·subst ha;have R:=HC.u _ (T.u.zP j.u);obtain⟨cb,co,cc,cv,M⟩:=(HP.u.zP j.u).cells;have a3:=Qb ls x;have z:Rf.decl ls x < p.cells.length:=by have:=U.u.cells;omega
   obtain⟨dv,cd,L⟩:=M (Rf.decl ls x) z;have J:p.cells.getD (Rf.decl ls x) []=p.cells[Rf.decl ls x]:=by simp[z]
   have o:=zD (HR.u.trans (zA (by simp)));rw[J]at o;generalize p.cells[Rf.decl ls x]=cl at *;clear J M HR;obtain⟨d,hd⟩:∃d,d=Rf.decl ls x:=⟨_,rfl⟩;have HD:=zD hd;rw[<-hd]at cd z;clear hd a3;have a9:(d:Int) < (p.cells.length:Int):=by omega
   have b3:(0:Int)<=(d:Int):=by omega
   have b1:p.cells.length<=1000:=by have:=U.u.cells;have:=V.u.len;omega
   have Z:=zD L;obtain⟨a4,O,rfl,_⟩:=L;have HK:=XX cv R cd;go_wp2_with fail;go_region_held3 (fun w'=>w'.cell? ⟨P,2,none⟩=some (.slice (some ⟨cb,co,none⟩) p.cells.length cc)/\w'.cell? ⟨tb,f,none⟩=some (.string x)/\w'.cell? ⟨cb,co+d,none⟩=some (.slice a4 cl.length O)) (first | go_keep | exact⟨cell_later (yh hb3) HK.u.1,cell_later (yh hb3) HK.u.2.1,cell_later (yh hb3) HK.u.2.2⟩) ((go_at_call 84;refine(qg x ((HG.u.zP j.u).zP (zh _)) V.u).mono ?_;rintro e w3 ⟨rfl,hb3⟩;rw[<-HD.u]));have A:=yh hb3;have W:=zD (Z.u.zP A);have F:=zD (j.u.trans (A.mono (B':=w.heap.size) j.u.size));clear hb3 A Z R cv cd;by_cases hlo:a1 < 0
   ·go_wp2_with fail;go_ret2;exact⟨by rw[o.u.trans (zE (Or.inl hlo))];rfl,F.u⟩
   ·by_cases hhi:(cl.length:Int)<=a1
    ·go_wp2_with fail;go_ret2;exact⟨by rw[o.u.trans (zE (Or.inr hhi))];rfl,F.u⟩
    ·obtain⟨i,rfl⟩:=yr (show 0<=a1 by omega);have I:i < cl.length:=by omega
     obtain⟨ib,io,ic,y,ci⟩:=W.u.get I;simp only[xJ,jH]at y;obtain⟨rfl,y⟩:=y;clear y;have a5:Hd (r=(cl[i],0)):=zD (o.u.trans ((zA (show ¬((i:Int) < 0\/(cl.length:Int)<=(i:Int)) by omega)).trans (by simp[I])));have a8:(i:Int) < (cl.length:Int):=by omega
     have b2:(0:Int)<=(i:Int):=by omega
     generalize cl[i]=rv at *;go_wp2_with fail;go_ret2;exact⟨by rw[a5.u];rfl,F.u⟩
  ·have b4:(a2 != 0)=true:=by simpa using ha
   go_wp2_with fail;go_ret2;exact⟨by rw[HR.u.trans (zE ha)];rfl,j.u⟩
theorem ey {p:Rf.Pl} (T:Lawful ls) (o:V9 ls p) (z:Y8 t) (J:Rf.split t=-1) (i:0 < t.length) (D:t.length<=1) (hx:(t[0].toList==[45])=false) (hy:(t[0].toList==[40])=false) (L:r=if xi t[0]=true then (Rf.worth t[0],(0:Int))else (Rf.value ls p t[0],0)):Z5 ls p r t:=by
 intro w S g cap P v U R A;have HG:=zD U;have HP:=zD R;have V:=zD A;have HF:=zD z;have G:=zD T;have F:=zD o;have hl:=z.1;obtain⟨ad,cp,rfl,O⟩:=A.form;obtain⟨I,d,rfl⟩:=A.qZ (by intro h;rw[h]at i;simp at i);have a0:=z.2 _ (zj i);have j:t[0].size<=maxLen:=by unfold maxLen;omega
 have W:=zD L;clear U R A z T o L;have M:(0:Int) < (t.length:Int):=by omega
 have a1:¬(1:Int) < (t.length:Int):=by omega
 clear D;have HT:Hd (∀w' c,xA w' (.slice (some ⟨I,d,none⟩) t.length c) t->w'.cell? ⟨I,d,none⟩=some (.string t[0])):=zD (by
  intro w' c h;obtain⟨b',o',cap',N,c0⟩:=h.cell i;simp at N;obtain⟨⟨rfl,rfl⟩,rfl⟩:=N;exact c0)
 go_enter func154,ntmps154;go_wp2_with fail;refine(JE V.u HF.u).mono ?_;rintro e w1 ⟨rfl,k⟩;rw[J];have ct:=HT.u _ _ (V.u.zP k);have f:=zD k;clear k J;generalize t[0]=x at *;go_wp2_with fail;refine(Yv x j).mono ?_;rintro e w2 ⟨rfl,rfl⟩;cases hn:xi x with
 | true=>
  go_wp2_with fail;refine(bx x j).mono ?_;rintro e Z ⟨rfl,rfl⟩;go_wp2_with fail;go_ret2;exact⟨by rw[W.u.trans (zE hn)];rfl,f.u⟩
 | false=>
  go_wp2_with fail;refine(wK x (HG.u.zP f.u) G.u (HP.u.zP f.u) F.u).mono ?_;rintro e Z ⟨rfl,y⟩;have H:=zD (f.u.trans (y.mono (B':=w.heap.size) f.u.size));clear y;go_wp2_with fail;go_ret2;exact⟨by rw[W.u.trans (zA (by rw[hn];simp))];rfl,H.u⟩
end Go.Proofs.YthleadfkfnnadaaGreat
