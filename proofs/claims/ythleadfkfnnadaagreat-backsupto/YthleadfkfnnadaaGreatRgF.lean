/- The document's answer: the step of a print. -/
import Derived.Test.YthleadfkfnnadaaGreatPlH
set_option maxHeartbeats 4000000
set_option maxRecDepth 100000
set_option linter.unusedSimpArgs false
namespace Go.Proofs.YthleadfkfnnadaaGreat
open Rf Go.Proofs.Tryz
open Go.RowKit
variable {r:Int×Int} {ls:List (List ByteArray)} {t:List ByteArray} {S g cap P B n d:Nat} {X:Qg} {p p':Rf.Pl} {v:Value} {w0 w w':World}
structure JW (w0 w:World) (S g cap:Nat) (ls:List (List ByteArray)) (P:Nat) (p:Rf.Pl) (X:Qg):Prop where
 src:jA w0 S g cap ls
 iB:Below w0.heap.size w0 w
 pl:vC w w0.heap.size P p X
theorem JW.JZ (h:JW w0 w S g cap ls P p X):jA w S g cap ls:=h.src.zP h.iB
theorem JW.zP {w0 w w':World} {S g cap:Nat} {ls:List (List ByteArray)} {P:Nat} {p:Rf.Pl} {X:Qg} (h:JW w0 w S g cap ls P p X) (d:Below w.heap.size w w'):JW w0 w' S g cap ls P p X:=⟨h.src,h.iB.trans (d.mono (B':=w0.heap.size) h.iB.size),h.pl.zP d⟩
theorem JW.to {X':Qg} (h:JW w0 w S g cap ls P p X) (d:vC w' w0.heap.size P p' X'/\Below w0.heap.size w w'):JW w0 w' S g cap ls P p' X':=⟨h.src,h.iB.trans d.2,d.1⟩
theorem vC.top {w:World} {B P:Nat} {p:Rf.Pl} {X:Qg} (h:vC w B P p X) {n:Nat} (I:p.zH.length=n+1):∃b cap pv,X.xg[n]?=some pv/\X.fv=.slice (some ⟨b,0,none⟩) (n+1) cap/\w.cell? ⟨P,0,none⟩=some (.slice (some ⟨b,0,none⟩) (n+1) cap)/\w.cell? ⟨b,n*3,none⟩=some (.int .i64 (Rf.top p).proc)/\
  w.cell? ⟨b,n*3+1,none⟩=some pv/\w.cell? ⟨b,n*3+2,none⟩=some (.int .i64 (Rf.top p).call)/\w.ownsRow 0 3 1 pv (Rf.top p).args.length (xR (Rf.top p).args):=by
 have i:n < p.zH.length:=by omega
 have H:Rf.top p=p.zH[n]:=by
  unfold Rf.top;rw[xL,show p.zH.length-1=n by omega,zJ (by omega)];rfl
 obtain⟨G,F,D⟩:=YN X.xg p.zH h.fl n i;obtain⟨b,cap,j,_,_,A⟩:=yD h.Jq G;obtain⟨L,x,f,_,_,z⟩:=yD h.Jq F;obtain⟨J,o,d,_,_,y⟩:=yD h.Jq D;have k:w.cell? ⟨P,0,none⟩=some X.fv:=zC h.block 0 (by simp[jh]);rw[j]at f d k;injection f with f _ _;injection f with f;injection f with f;injection d with d _ _;injection d with d;injection d with d;subst f d;rw[I]at j k;rw[H];exact⟨b,cap,_,zJ _,j,k,A,z,y,h.Gr n i⟩
theorem pX (x:ByteArray) (v:Int) (h:JW w0 w S g cap ls P p X) (hL:Lawful ls) (G:V9 ls p):Calls Tryz.prog 155 #[.pointer (some ⟨S,0,none⟩),.pointer (some ⟨P,0,none⟩),.string x,.int .i64 v] w fun e w'=>e=.returned (.tuple #[])/\JW w0 w' S g cap ls P (Rf.vV ls p x v) X:=by
 obtain⟨n,hn⟩:∃n,p.zH.length=n+1:=⟨p.zH.length-1,by have:=G.some;omega⟩;have b2:=G.top;have a9:=G.VJ;rw[hn]at a9;have Z:=G.vars;obtain⟨b,cp,f4,D,b1,c0,c1,c2,c3,T⟩:=h.pl.top hn;have a7:=zD D;obtain⟨fl,fh,f2,fa⟩:=b2;have W:Hd (Rf.vV ls p x v=_):=zD (by unfold Rf.vV;rfl);have HG:=zD h;have U:=zD hL;have d2:=zD T;have HN:=zD hn;have a3:=hL.len;clear h hL G b1 D;obtain⟨y,a0⟩:∃q,(Rf.top p).proc=q+1:=⟨(Rf.top p).proc-1,by omega⟩;rw[a0]at fl fh f2 fa W c1;rw[zu]at f2 fa;have k:y < ls.length:=by omega
 rw[yq k]at f2 fa;rw[show ((y+1:Nat):Int)=(y:Int)+1 by omega]at c1;have d7:IntKind.i64.wrap ((n:Int)+1-1)=n:=by rw[show (n:Int)+1-1=(n:Int) by omega];exact zl _ ⟨by omega,by omega⟩
 have d8:IntKind.i64.wrap (n:Int)=n:=zl _ ⟨by omega,by omega⟩;have f1:(0:Int)<=(n:Int):=by omega
 have f0:(n:Int) < (n:Int)+1:=by omega
 have d9:(n:Int)<=1000:=by omega
 have b9:=zD fa;have d0:=zD f2;have b6:=zD Z;obtain⟨I,o,R⟩:=zK T;have V:=zD R;rw[R]at c2;generalize (Rf.top p).call=fcall at *;generalize b3:(Rf.top p).args=farg at *;clear fa f2 Z a0 fl fh T R hn;go_enter func155,ntmps155;go_wp2_with fail;go_region_held3 (fun w'=>w'.cell? ⟨P,0,none⟩=some (.slice (some ⟨b,0,none⟩) (n+1) cp)/\w'.cell? ⟨b,n*3,none⟩=some (.int .i64 ((y:Int)+1))/\w'.cell? ⟨b,n*3+1,none⟩=some (.slice I farg.length o)/\w'.cell? ⟨b,n*3+2,none⟩=some (.int .i64 fcall)) (go_keep) (fail);have O:=((zI w.heap.size w).alloc (zB _) (.cells #[.int .i64 ((y:Int)+1),.slice I farg.length o,.int .i64 fcall] 130)).drew;have M:(w.alloc (.cells #[.int .i64 ((y:Int)+1),.slice I farg.length o,.int .i64 fcall] 130)).drew.heap[w.heap.size]?=some (.cells #[.int .i64 ((y:Int)+1),.slice I farg.length o,.int .i64 fcall] 130 (0,0)):=zN w _;generalize (w.alloc (.cells #[.int .i64 ((y:Int)+1),.slice I farg.length o,.int .i64 fcall] 130)).drew=w1 at *;have k0:=zC M 0 (by simp);simp only[yQ,zv]at k0;have J:=XX (HG.u.zP O) M (yG d2.u O);clear O M c0 c1 c2 c3;go_wp2_with fail;refine(Jd y J.u.1.JZ k a3 d0.u (U.u.XO k).1).mono ?_;rintro e w2 ⟨pv,rfl,D,L⟩;have a2:(ls[y].drop 2).length<=1000:=by have:=(U.u.XO k).1;simp;omega
 have A:=XX (J.u.1.zP L) (zU J.u.2.1 L) (yG J.u.2.2 L);have b7:=zD D;obtain⟨d6,d3,rfl,_⟩:=D.form;clear L D J k0;have a4:=uf (ls[y].drop 2) x;have a1:XZ ls (y+1)=ls[y].drop 2:=by rw[XZ,zu,yq k]
 rw[a1]at W;have a6:(farg.length:Int)=((ls[y].drop 2).length:Int):=by rw[b9.u];simp
 clear a1;generalize ls[y].drop 2=ps at *;go_wp2_with fail;refine(lr x b7.u (by omega)).mono ?_;rintro e w' ⟨rfl,rfl⟩;have d1:=zD a6;generalize Rf.index ps x=ix at *;have f5:=zD a2;have b8:=zD a4;clear a2 a6 a4;have k1:=zC A.u.2.1 1 (by simp);simp only[yQ,yH,zv]at k1;by_cases hi:0<=ix
 ·rw[zE hi]at W;obtain⟨i,rfl⟩:=yr hi;have b0:i < farg.length:=by have:=d1.u;have:=b8.u;omega
  have d4:(i:Int) < (farg.length:Int):=by omega
  have a8:n < p.zH.length:=by rw[HN.u];omega
  obtain⟨ab,b5,N,_,_,ci⟩:=yD A.u.2.2 (j:=i) (u:=.int .i64 farg[i]) (by simp[xR,b0]);rw[V.u]at N;injection N with e1 _ e2;subst e1 e2;obtain⟨cc,H⟩:=yW A.u.2.2 (g:=ab) (by rw[V.u];rfl);have z:=zS H i;have HF:=zD (A.u.1.to (A.u.1.pl.setArg a8 a7.u (g:=ab) (by rw[V.u];rfl) i v));have HR:Hd (Rf.vV ls p x v={ p with zH:=p.zH.modify n (fun f=>⟨f.proc,f.args.set i v,f.call⟩) }):=zD (by rw[W.u,HN.u];rfl);generalize farg[i]=r at *;clear H;go_wp2_with fail;refine zT (v:=.tuple #[]) ?_ rfl ⟨rfl,by rw[HR.u];exact HF.u⟩;simp[results,results155,go_sem]
 ·rw[zA hi]at W;go_wp2_with fail;refine(qg x A.u.1.JZ U.u).mono ?_;rintro e w3 ⟨rfl,a5⟩;have F:=A.u.1.zP a5;have f3:=Qb ls x;have b4:Rf.decl ls x < p.vars.length:=by have:=b6.u;omega
  obtain⟨vb,vc,N,_,_,ci⟩:=yD F.pl.wJ (j:=Rf.decl ls x) (u:=.int .i64 p.vars[Rf.decl ls x]) (by simp[xR,b4]);obtain⟨cc,H⟩:=yW F.pl.wJ (g:=vb) (by rw[N];rfl);have z:=zS H (Rf.decl ls x);have cv:w3.cell? ⟨P,1,none⟩=some X.vv:=zC F.pl.block 1 (by simp[jh]);rw[N]at cv;have HF:=zD (F.to (F.pl.Fl (g:=vb) (by rw[N];rfl) (Rf.decl ls x) v));generalize p.vars[Rf.decl ls x]=r at *;generalize Rf.decl ls x=d at *;have d5:(d:Int) < (p.vars.length:Int):=by omega
  clear a5 F H N k1;go_wp2_with fail;go_end0;exact⟨rfl,by rw[W.u];exact HF.u⟩
theorem JW.read {w0 w:World} {S g cap:Nat} {ls:List (List ByteArray)} {P:Nat} {p:Rf.Pl} {X:Qg} (h:JW w0 w S g cap ls P p X) (d:V9 ls p):Dv w P p:=h.pl.read d.some (by have:=d.cells;omega)
theorem mn (h:JW w0 w S g cap ls P p X) (D:xA w0 v t) (G:Y8 t) (W:Lawful ls) (j:V9 ls p) (T:Rf.behind t=2) (k:3<=t.length) (N:Z5 ls p r (t.drop 3)) (i:p'=if r.2=0 then Rf.vV ls p t[1] r.1 else p):Calls Tryz.prog 96 #[.pointer (some ⟨S,0,none⟩),.pointer (some ⟨P,0,none⟩),v] w fun e w'=>e=.returned (.int .i64 r.2)/\JW w0 w' S g cap ls P p' X:=by
 have L:=zD h;have H:=zD (D.zP h.iB);have HF:=zD G;have I:=zD W;have z:=zD j;have HW:=zD N;have hl:=G.1;obtain⟨ad,cp,rfl,V⟩:=D.form;obtain⟨M,d,rfl⟩:=D.qZ (by intro h;rw[h]at k;simp at k);have F:1 < t.length:=by omega
 have R:(1:Int) < (t.length:Int):=by omega
 have O:(3:Int)<=(t.length:Int):=by omega
 have HC:Hd (∀w',xA w' (.slice (some ⟨M,d,none⟩) t.length cp) t->w'.cell? ⟨M,d+1,none⟩=some (.string t[1])):=zD (by
  intro w' h;obtain⟨b',o',cap',U,c0⟩:=h.cell F;simp at U;obtain⟨⟨rfl,rfl⟩,rfl⟩:=U;exact c0)
 have y:=zD i;clear h D G W j N i;generalize t[1]=x at *;go_enter func96,ntmps96;go_wp2_with fail;refine(Jw H.u HF.u).mono ?_;rintro e w' ⟨rfl,rfl⟩;rw[T];clear T;go_wp2_with fail
 all_goals
  refine(HW.u _ S g cap P _ L.u.JZ (L.u.read z.u) (by first | exact xA.gone (by omega) rfl | exact H.u.drop 3 _ _ rfl (by omega))).mono ?_;rintro e w2 ⟨rfl,f⟩;have A:=zD (L.u.zP f);have ct:=HC.u _ (H.u.zP f);clear f;obtain⟨Z,r2⟩:=r;by_cases hr:r2=0
  ·subst hr;go_wp2_with fail;refine(pX x Z A.u I.u z.u).mono ?_;rintro e w3 ⟨rfl,o⟩;have J:=zD o;clear o;go_wp2;go_ret;exact⟨rfl,by rw[y.u.trans (zE (by first | rfl | trivial))];exact J.u⟩
  ·have a0:(r2==0)=false:=by simpa using hr
   go_wp2;go_ret;exact⟨rfl,by rw[y.u.trans (zA hr)];exact A.u⟩
theorem vC.bW (h:vC w B P p X) (f:d < p.cells.length):∃cb cc pv,X.kB[d]?=some pv/\w.cell? ⟨P,2,none⟩=some (.slice (some ⟨cb,0,none⟩) p.cells.length cc)/\w.cell? ⟨cb,d,none⟩=some pv/\w.ownsRow 0 3 1 pv (p.cells.getD d []).length (xR (p.cells.getD d [])):=by
 obtain⟨cb,cc,k,_,_,x⟩:=yD h.eB (j:=d) (zJ (by rw[h.cl];exact f));have o:w.cell? ⟨P,2,none⟩=some X.cv:=zC h.block 2 (by simp[jh]);have i:p.cells.getD d []=p.cells[d]:=by simp[f]
 rw[k]at o;exact⟨cb,cc,_,zJ (by rw[h.cl];exact f),o,x,by rw[i];exact h.Gl d f⟩
theorem vC.EH (h:vC w B P p X) (j:d < p.cells.length) {pv:Value} (f:X.kB[d]?=some pv) (i:pv.ownBlock=some g) (c:Nat) (x:Int):vC (w.setCell ⟨g,c,none⟩ (.int .i64 x)) B P { p with cells:=p.cells.set d ((p.cells.getD d []).set c x) } X/\Below B w (w.setCell ⟨g,c,none⟩ (.int .i64 x)):=by
 have:=h.Fo j f i c x;rw[show p.cells.getD d []=p.cells[d] by simp[j]];exact this
theorem mj {k:Nat} {a:Int×Int} (h:JW w0 w S g cap ls P p X) (hV:xA w0 v t) (hf:Y8 t) (hL:Lawful ls) (a3:V9 ls p) (hk:Rf.behind t=k) (d6:4<=k) (a4:k < t.length) (W:Z5 ls p a ((t.take (k-1)).drop 3)) (V:Z5 ls p r (t.drop (k+1))) (b0:1 < t.length) (te:Int)  (Z:te=if a.2=0 then (if r.2=0 then (if a.1 < 0\/((p.cells.getD (Rf.decl ls t[1]) []).length:Int)<=a.1 then 3 else 0)else r.2)else a.2) (a0:p'=if a.2=0 then (if r.2=0 then (if a.1 < 0\/((p.cells.getD (Rf.decl ls t[1]) []).length:Int)<=a.1 then p else { p with cells:=p.cells.set (Rf.decl ls t[1]) ((p.cells.getD (Rf.decl ls t[1]) []).set a.1.toNat r.1) })else p)else p):Calls Tryz.prog 96 #[.pointer (some ⟨S,0,none⟩),.pointer (some ⟨P,0,none⟩),v] w fun e w'=>e=.returned (.int .i64 te)/\JW w0 w' S g cap ls P p' X:=by
 have HI:=zD h;have HV:=zD (hV.zP h.iB);have HF:=zD hf;have a8:=zD hL;have H:=zD a3;have HW:=qG W V;have hl:=hf.1;obtain⟨ad,cp,rfl,d1⟩:=hV.form;obtain⟨tb,f,rfl⟩:=hV.qZ (by intro h;rw[h]at a4;simp at a4);have b6:(1:Int) < (t.length:Int):=by omega
 have HC:Hd (∀w',xA w' (.slice (some ⟨tb,f,none⟩) t.length cp) t->w'.cell? ⟨tb,f+1,none⟩=some (.string t[1])):=zD (by
  intro w' h;obtain⟨b',o',cap',J,c0⟩:=h.cell b0;simp at J;obtain⟨⟨rfl,rfl⟩,rfl⟩:=J;exact c0)
 have U:=qG Z a0;clear h hV hf hL a3 W V Z a0;generalize t[1]=x at *;have b7:(k:Int) < (t.length:Int):=by omega
 have b8:(4:Int)<=(k:Int):=by omega
 go_enter func96,ntmps96;go_wp2_with fail;refine(Jw HV.u HF.u).mono ?_;rintro e w' ⟨rfl,rfl⟩;rw[hk];have d7:((k:Int)==2)=false:=by rw[zV];omega
 clear hk;go_wp2_with fail;refine(HW.u.1 _ S g cap P _ HI.u.JZ (HI.u.read H.u) (by first | exact HV.u.Ad 3 (k-1) _ _ (by omega) rfl (by omega)| exact HV.u.Ad 3 (k-1) _ _ (by omega) (by omega) (by omega))).mono ?_;rintro e w2 ⟨rfl,R⟩;have D:=qG (HI.u.zP R) (HV.u.zP R);clear R;obtain⟨a1,a2⟩:=a;obtain⟨r1,r2⟩:=r;by_cases ha:a2=0
 ·subst ha;go_wp2_with fail
  all_goals
   refine(HW.u.2 _ S g cap P _ D.u.1.JZ (D.u.1.read H.u) (by first | exact xA.gone (by omega) rfl | exact D.u.2.drop (k+1) _ _ rfl (by omega))).mono ?_;rintro e w3 ⟨rfl,O⟩;have G:=qG (D.u.1.zP O) (D.u.2.zP O);clear O;by_cases hr:r2=0
   ·subst hr;have ct:=HC.u _ G.u.2;have b2:=Qb ls x;have M:Rf.decl ls x < p.cells.length:=by have:=H.u.cells;omega
    have d3:p.cells.length<=1000:=by have:=H.u.cells;have:=a8.u.len;omega
    have o:=qG (U.u.1.trans ((zE (by first | rfl | trivial)).trans (zE (by first | rfl | trivial)))) (U.u.2.trans ((zE (by first | rfl | trivial)).trans (zE (by first | rfl | trivial))));obtain⟨cb,cc,pv,I,c2,cd,y⟩:=G.u.1.pl.bW M;obtain⟨d,hd⟩:∃d,d=Rf.decl ls x:=⟨_,rfl⟩;have HD:=zD hd;rw[<-hd]at o cd M I y;clear hd b2 U;obtain⟨b3,a7,L⟩:=zK y;have T:=XX y I L;rw[L]at cd;generalize a5:p.cells.getD d []=cl at *;have b5:=zD a5;clear a5;have d0:(d:Int) < (p.cells.length:Int):=by omega
    have f0:(0:Int)<=(d:Int):=by omega
    have HK:=XX c2 ct cd;clear y I L;go_wp2_with fail;go_region_held3 (fun w'=>w'.cell? ⟨P,2,none⟩=some (.slice (some ⟨cb,0,none⟩) p.cells.length cc)/\w'.cell? ⟨tb,f+1,none⟩=some (.string x)/\w'.cell? ⟨cb,d,none⟩=some (.slice b3 cl.length a7)) (first | go_keep | exact⟨cell_later (yh hb4) HK.u.1,cell_later (yh hb4) HK.u.2.1,cell_later (yh hb4) HK.u.2.2⟩) ((go_at_call 84;refine(qg x (G.u.1.JZ.zP (zh _)) a8.u).mono ?_;rintro e w4 ⟨rfl,hb4⟩;rw[<-HD.u]));have N:=yh hb4;have A:=qG (G.u.1.zP N) (yG T.u.1 N);clear hb4 N c2 ct cd;by_cases hlo:a1 < 0\/(cl.length:Int)<=a1
    ·by_cases hneg:a1 < 0
     ·go_wp2;go_ret;exact⟨by rw[o.u.1.trans (zE hlo)];rfl,by rw[o.u.2.trans (zE hlo)];exact A.u.1⟩
     ·have d9:(cl.length:Int)<=a1:=by omega
      go_wp2;go_ret;exact⟨by rw[o.u.1.trans (zE hlo)];rfl,by rw[o.u.2.trans (zE hlo)];exact A.u.1⟩
    ·obtain⟨i,rfl⟩:=yr (show 0<=a1 by omega);have b1:i < cl.length:=by omega
     obtain⟨ib,ic,J,_,_,ci⟩:=yD A.u.2 (j:=i) (u:=.int .i64 cl[i]) (by simp[xR,b1]);obtain⟨f2,a6⟩:=yW A.u.2 (g:=ib) (by rw[J];rfl);have z:=zS a6 i;have F:=A.u.1.pl.EH M T.u.2.1 (g:=ib) (by rw[J];rfl) i r1;rw[b5.u]at F;have b4:=zD (A.u.1.to F);rw[T.u.2.2]at J;injection J with e1 _ e2;subst e1 e2;have a9:=qG (o.u.1.trans (zA hlo)) (o.u.2.trans (zA hlo));have b9:(i:Int) < (cl.length:Int):=by omega
     have d8:(0:Int)<=(i:Int):=by omega
     have d4:¬(i:Int) < 0:=by omega
     have d5:¬(cl.length:Int)<=(i:Int):=by omega
     clear a6 F hlo;generalize cl[i]=J8 at *;go_wp2;go_ret;exact⟨by rw[a9.u.1];rfl,by rw[a9.u.2];exact b4.u⟩
   ·have d2:(r2 != 0)=true:=by simpa using hr
    go_wp2;go_ret;exact⟨by rw[U.u.1.trans ((zE (by first | rfl | trivial)).trans (zA hr))];rfl,by rw[U.u.2.trans ((zE (by first | rfl | trivial)).trans (zA hr))];exact G.u.1⟩
 ·have f1:(a2 != 0)=true:=by simpa using ha
  go_wp2;go_ret;exact⟨by rw[U.u.1.trans (zA ha)];rfl,by rw[U.u.2.trans (zA ha)];exact D.u.1⟩
theorem ET {e:TypeId} {size:Nat} {ad:Option Addr} {xs:List Value} (h:w.ownsRow B e size (.slice ad n cap) n xs):n<=cap:=by
 rcases h.2 with⟨d,_⟩| ⟨g,c,cur,d,_,_,hnc,_⟩
 ·injection d with _ h1 h2;omega
 ·injection d with _ _ h2;omega
theorem nI (h:JW w0 w S g cap ls P p X) (j:p.zH.length=1):Calls Tryz.prog 98 #[.pointer (some ⟨S,0,none⟩),.pointer (some ⟨P,0,none⟩)] w fun e w'=>e=.returned (.int .i64 1)/\JW w0 w' S g cap ls P p X:=by
 obtain⟨b,A,y,d,f,D,x,o,k,i⟩:=h.pl.top (n:=0) j;have z:=zD h;clear h j d f x o k i;go_enter func98,ntmps98;go_wp2;go_ret;exact⟨rfl,z.u⟩
theorem nH (n c:Nat) (h:JW w0 w S g cap ls P p X) (I:p.zH.length=n+1+1) (a1:n<=100) (R:(Rf.top p).call=(c:Int)+1) (a6:c < ls.length) (T:Lawful ls) (i:Rf.nested ls=0):Calls Tryz.prog 98 #[.pointer (some ⟨S,0,none⟩),.pointer (some ⟨P,0,none⟩)] w fun e w'=>e=.returned (.int .i64 0)/\∃X',JW w0 w' S g cap ls P { p with zH:=p.zH.dropLast,line:=(Rf.jc ls (c+1):Nat) } X':=by
 obtain⟨b,cp,a9,M,y,c0,c1,c2,U,N⟩:=h.pl.top (n:=n+1) I;have V:=zD h;have F:=T.len;rw[R]at U;have L:=h.pl.block;have c5:w.cell? ⟨P,5,none⟩=some (.int .i64 p.line):=zC L 5 (by simp[jh]);have z:=zS L;have J:=qG I y;have O:n+1+1<=cp:=by have:=h.pl.Jq;rw[y,I]at this;exact ET this
 have a5:(n:Int)+1<=(cp:Int):=by omega
 have a0:IntKind.i64.wrap ((n:Int)+1+1-1)=(n:Int)+1:=by rw[show (n:Int)+1+1-1=(n:Int)+1 by omega];exact zl _ ⟨by omega,by omega⟩
 have Z:IntKind.i64.wrap ((n:Int)+1)=(n:Int)+1:=zl _ ⟨by omega,by omega⟩;have a3:(0:Int)<=(n:Int)+1:=by omega
 have a2:(n:Int)+1 < (n:Int)+1+1:=by omega
 have x:((n:Int)+1+1==1)=false:=by rw[zV];omega
 have a4:IntKind.i64.wrap ((c:Int)+1+1)=(c:Int)+1+1:=zl _ ⟨by omega,by omega⟩;have HG:Hd (∀w',jA w' S g cap ls->Calls Tryz.prog 94 #[.pointer (some ⟨S,0,none⟩),.int .i64 ((c:Int)+1+1)] w' fun e w''=>e=.returned (.int .i64 (Rf.jc ls (c+1)))/\Below w'.heap.size w' w''):=zD (fun w' hG=>by
  have:=ai (c+1) hG (by omega) F i;rw[show ((c+1:Nat):Int)+1=(c:Int)+1+1 by omega]at this;exact this)
 clear h I M y c1 c2 N L R T i;go_enter func98,ntmps98;go_wp2_with fail;refine(HG.u _ V.u.JZ).mono ?_;rintro e w1 ⟨rfl,G⟩;have o:=V.u.zP G;have D:=o.to (o.pl.Qj (Rf.jc ls (c+1):Nat));obtain⟨H,f,k⟩:∃H f,p.zH=H++[f]:=by
  have x:p.zH≠[]:=by intro e;have:=J.u.1;rw[e]at this;simp at this
  exact⟨p.zH.dropLast,p.zH.getLast x,(xj x).symm⟩
 have A:H.length=n+1:=by have:=J.u.1;rw[k]at this;simp at this;omega
 have d:=D.pl.CG H f k b cp (by rw[A];exact J.u.2);rw[A]at d;have W:=qG (D.to d) (show p.zH.dropLast=H by rw[k,xo]);have j:=o.pl.block;have a7:w1.cell? ⟨P,5,none⟩=some (.int .i64 p.line):=zC j 5 (by simp[jh]);have a8:w1.cell? ⟨P,0,none⟩=some (.slice (some ⟨b,0,none⟩) (n+1+1) cp):=by have:=zC j 0 (by simp[jh]);rw[this];exact qB some J.u.2
 have z1:=zS j;clear j d k A o D G c0 U c5 z;go_wp2;go_ret;exact⟨rfl,_,by rw[W.u.2];exact W.u.1⟩
theorem JM (ls:List (List ByteArray)) (L:Nat) (h:L < ls.length) (f:ls.length<=100) (d:Rf.nested ls=0) (S g cap:Nat):∀w',jA w' S g cap ls->Calls Tryz.prog 94 #[.pointer (some ⟨S,0,none⟩),.int .i64 ((L:Int)+1+1)] w' fun e w''=>e=.returned (.int .i64 (Rf.jc ls (L+1)))/\Below w'.heap.size w' w'':=fun w' hG=>by
 have:=ai (L+1) hG (by omega) f d;rw[show ((L+1:Nat):Int)+1=(L:Int)+1+1 by omega]at this;exact this
theorem Xm {tb to cp i:Nat} (h:xA w (.slice (some ⟨tb,to,none⟩) t.length cp) t) (f:i < t.length):w.cell? ⟨tb,to+i,none⟩=some (.string t[i]):=by
 obtain⟨b',k,cap',d,j⟩:=h.cell f;simp at d;obtain⟨⟨rfl,rfl⟩,rfl⟩:=d;exact j
theorem fX (L:Nat) {iv:Value} {qo:List Int} (h:JW w0 w S g cap ls P p X) (F:xA w0 v t) (hi:kA w0 iv qo) (d8:qo.length<=100) (hL:Lawful ls) (J:V9 ls p) (f:Rf.nested ls=0) (M:p.line=(L:Int)+1) (a8:L < ls.length) (O:2<=t.length) (d4:(t[0].toList==[114,101,97,100])=true) (te:Int) (H:te=if qo.length<=p.read then 4 else 0) (I:p'=if qo.length<=p.read then p else { Rf.vV ls p t[1] (qo.getD p.read 0)with read:=p.read+1,line:=(Rf.jc ls (L+1):Nat) }):Calls Tryz.prog 99 #[.pointer (some ⟨S,0,none⟩),.pointer (some ⟨P,0,none⟩),v,iv] w fun e w'=>e=.returned (.int .i64 te)/\JW w0 w' S g cap ls P p' X:=by
 have HI:=zD h;have b0:=qG F hi;have b6:=zD (hi.zP h.iB);have N:=hL.len;have b4:=zD hL;have b1:=zD J;have G:=qG H I;have HG:=zD (JM ls L a8 N f S g cap);have z:=h.pl.block;have c5:w.cell? ⟨P,5,none⟩=some (.int .i64 ((L:Int)+1)):=by have:=zC z 5 (by simp[jh]);rw[this];exact qB (fun x=>some (Value.int .i64 x)) M
 have c3:w.cell? ⟨P,3,none⟩=some (.int .i64 p.read):=zC z 3 (by simp[jh]);have A:=F.zP h.iB;obtain⟨ad,cp,rfl,d1⟩:=F.form;obtain⟨tb,d,rfl⟩:=F.qZ (by intro h;rw[h]at O;simp at O);have a7:0 < t.length:=by omega
 have R:1 < t.length:=by omega
 have c0:=Xm A a7;have c1:=Xm A R;rw[qO]at c0;obtain⟨d2,b7,rfl⟩:∃a c,iv=.slice a qo.length c:=by obtain⟨a,c,e,_⟩:=hi;exact⟨a,c,e⟩
 have Z:=zD (show ∀w',Below w0.heap.size w0 w'->w'.cell? ⟨tb,d+1,none⟩=some (.string t[1])from fun w' hb=>Xm (F.zP hb) R);have d0:(0:Int) < (t.length:Int):=by omega
 have b9:(1:Int) < (t.length:Int):=by omega
 clear h F hi hL J H I z A f M;generalize t[0]=x0 at *;generalize t[1]=x1 at *;by_cases hr:qo.length<=p.read
 ·have a6:(qo.length:Int)<=(p.read:Int):=by omega
  have j:=qG (G.u.1.trans (zE hr)) (G.u.2.trans (zE hr));clear G;go_enter func99,ntmps99;go_wp2;go_ret;exact⟨by rw[j.u.1];rfl,by rw[j.u.2];exact HI.u⟩
 ·have a6:¬(qo.length:Int)<=(p.read:Int):=by omega
  have o:p.read < qo.length:=by omega
  have b8:(p.read:Int) < (qo.length:Int):=by omega
  have j:=qG (G.u.1.trans (zA hr)) (G.u.2.trans (zA hr));clear G;obtain⟨ib,io,ic,he,ci⟩:=b6.u.get o;simp only[xJ,jH]at he;obtain⟨rfl,he⟩:=he;clear he;have a1:=zD (show ∀w',Below w0.heap.size w0 w'->w'.cell? ⟨ib,io+p.read,none⟩=some (.int .i64 qo[p.read])from fun w' hb=>by
   obtain⟨b2,o2,c2,U,a9⟩:=(b0.u.2.zP hb).get o;simp only[xJ,zx,Z9,jH,jJ]at U;obtain⟨⟨rfl,rfl⟩,_⟩:=U;exact a9)
  have W:=zD (show qo.getD p.read 0=qo[p.read] by simp[o]);generalize qo[p.read]=val at *;have d7:IntKind.i64.wrap ((L:Int)+1+1)=(L:Int)+1+1:=zl _ ⟨by omega,by omega⟩;have d3:IntKind.i64.wrap ((p.read:Int)+1)=(p.read:Int)+1:=zl _ ⟨by omega,by omega⟩;have d6:(0:Int)<=(p.read:Int):=by omega
  go_enter func99,ntmps99;go_wp2_with fail;have T:(Rf.vV ls p x1 val).read=p.read/\(Rf.vV ls p x1 val).line=p.line:=by unfold Rf.vV;split <;> exact⟨rfl,rfl⟩
  have a4:=zD T;clear T;have a0:=zD (show ∀w',JW w0 w' S g cap ls P (Rf.vV ls p x1 val) X->w'.cell? ⟨P,3,none⟩=some (.int .i64 p.read)/\(∀i,w'.frozen? ⟨P,i,none⟩=false)/\w'.cell? ⟨P,5,none⟩=some (.int .i64 p.line)from fun w' hI=>by
   have z:=hI.pl.block;have a3:=zC z 3 (by simp[jh]);have a5:=zC z 5 (by simp[jh]);refine⟨?_,zS z,?_⟩
   ·rw[a3];exact qB (fun x:Nat=>some (Value.int .i64 (x:Int))) a4.u.1
   ·rw[a5];exact qB (fun x=>some (Value.int .i64 x)) a4.u.2)
  go_region_held3 (fun w'=>w'.cell? ⟨tb,d+1,none⟩=some (.string x1)/\w'.cell? ⟨P,3,none⟩=some (.int .i64 p.read)/\w'.cell? ⟨ib,io+p.read,none⟩=some (.int .i64 val)) (first | go_keep | exact⟨Z.u _ hI1.iB,(a0.u _ hI1).1,a1.u _ hI1.iB⟩) ((go_at_call 155;refine(pX x1 val (HI.u.zP (zh _)) b4.u b1.u).mono ?_;rintro e w1 ⟨rfl,hI1⟩));obtain⟨b3,bz,b5⟩:=a0.u _ hI1;have D:=hI1.to (hI1.pl.EG (p.read+1));rw[show ((p.read+1:Nat):Int)=(p.read:Int)+1 by omega]at D;have a2:=zD D;clear hI1 D c0 c1 c3 c5 ci;go_wp2_with fail;refine(HG.u _ a2.u.JZ).mono ?_;rintro e w3 ⟨rfl,V⟩;have k:=a2.u.zP V;have y:=k.pl.block;have d5:w3.cell? ⟨P,5,none⟩=some (.int .i64 (Rf.vV ls p x1 val).line):=zC y 5 (by simp[jh]);have z3:=zS y;have HF:=zD (k.to (k.pl.Qj (Rf.jc ls (L+1):Nat)));clear k y V b3 bz b5;go_wp2;go_ret;exact⟨by rw[j.u.1];rfl,by rw[j.u.2,W.u];exact HF.u⟩
theorem cV (L:Nat) (iv:Value) (h:JW w0 w S g cap ls P p X) (R:xA w0 v t) (hL:Lawful ls) (H:V9 ls p) (j:Rf.nested ls=0) (I:p.line=(L:Int)+1) (T:L < ls.length) (a0:Rf.other ls L<=ls.length) (J:2<=t.length) (b2:(t[0].toList==[114,101,97,100])=false) (b4:(t[0].toList==[112,114,105,110,116])=false) (hw:Z5 ls p r (t.drop 1)) (a1:∃a n c,iv=.slice a n c) (G:p'=if r.2=0 then { p with line:=(Rf.jc ls (if r.1=0 then Rf.other ls L else L+1):Nat) }else p):Calls Tryz.prog 99 #[.pointer (some ⟨S,0,none⟩),.pointer (some ⟨P,0,none⟩),v,iv] w fun e w'=>e=.returned (.int .i64 r.2)/\JW w0 w' S g cap ls P p' X:=by
 have HI:=zD h;have z:=hL.len;have a3:=zD H;have W:=zD G;have HW:=zD hw;have HG:=zD (JM ls L T z j S g cap);have a2:=zD (show ∀w',jA w' S g cap ls->Calls Tryz.prog 157 #[.pointer (some ⟨S,0,none⟩),.int .i64 ((L:Int)+1)] w' fun e w''=>e=.returned (.int .i64 (Rf.other ls L))/\Below w'.heap.size w' w'' from fun w' hG=>AW L hG T z);have a4:=zD (show ∀w',jA w' S g cap ls->Calls Tryz.prog 94 #[.pointer (some ⟨S,0,none⟩),.int .i64 ((Rf.other ls L:Nat)+1)] w' fun e w''=>e=.returned (.int .i64 (Rf.jc ls (Rf.other ls L)))/\Below w'.heap.size w' w'' from fun w' hG=>ai (Rf.other ls L) hG a0 z j);have hq:=h.pl.block;have c5:w.cell? ⟨P,5,none⟩=some (.int .i64 ((L:Int)+1)):=by have:=zC hq 5 (by simp[jh]);rw[this];exact qB (fun x=>some (Value.int .i64 x)) I
 have D:=R.zP h.iB;obtain⟨ad,cp,rfl,a8⟩:=R.form;obtain⟨tb,d,rfl⟩:=R.qZ (by intro h;rw[h]at J;simp at J);have M:0 < t.length:=by omega
 have c0:=Xm D M;rw[qO]at c0;have U:=zD (show ∀w',Below w0.heap.size w0 w'->w'.cell? ⟨tb,d,none⟩=some (.string t[0])from fun w' hb=>by have:=Xm (R.zP hb) M;rw[qO]at this;exact this);have HV:=zD D;obtain⟨b0,a9,a5,rfl⟩:=a1;have a7:(0:Int) < (t.length:Int):=by omega
 have a6:(1:Int)<=(t.length:Int):=by omega
 have b6:IntKind.i64.wrap ((L:Int)+1+1)=(L:Int)+1+1:=zl _ ⟨by omega,by omega⟩;have b5:IntKind.i64.wrap ((Rf.other ls L:Nat)+1:Int)=(Rf.other ls L:Nat)+1:=zl _ ⟨by omega,by omega⟩;clear h R hL H G hq D j I hw;generalize t[0]=x0 at *;go_enter func99,ntmps99;go_wp2_with fail
 all_goals
  refine(HW.u _ S g cap P _ HI.u.JZ (HI.u.read a3.u) (by first | exact xA.gone (by omega) rfl | exact HV.u.drop 1 _ _ rfl (by omega))).mono ?_;rintro e w2 ⟨rfl,O⟩;have o:=zD (HI.u.zP O);have ct:=U.u _ o.u.iB;clear O;obtain⟨r1,r2⟩:=r;by_cases hr:r2=0
  ·subst hr;have y:=zD (W.u.trans (zE (by first | rfl | trivial)));by_cases hz:r1=0
   ·subst hz;have F:=zD (y.u.trans (qB (fun k:Nat=>({ p with line:=(Rf.jc ls k:Nat) }:Rf.Pl)) (zE (by first | rfl | trivial))));clear W y;go_wp2_with fail;refine(a2.u _ o.u.JZ).mono ?_;rintro e w3 ⟨rfl,N⟩;have V:=zD (o.u.zP N);clear N;go_wp2_with fail;refine(a4.u _ V.u.JZ).mono ?_;rintro e Z ⟨rfl,A⟩;have f:=V.u.zP A;have i:=f.pl.block;have d5:Z.cell? ⟨P,5,none⟩=some (.int .i64 p.line):=zC i 5 (by simp[jh]);have z4:=zS i;have HF:=zD (f.to (f.pl.Qj (Rf.jc ls (Rf.other ls L):Nat)));clear f i A;go_wp2;go_ret;exact⟨rfl,by rw[F.u];exact HF.u⟩
   ·have b1:(r1==0)=false:=by simpa using hz
    have F:=zD (y.u.trans (qB (fun k:Nat=>({ p with line:=(Rf.jc ls k:Nat) }:Rf.Pl)) (zA hz)));clear W y;go_wp2_with fail;refine(HG.u _ o.u.JZ).mono ?_;rintro e Z ⟨rfl,A⟩;have f:=o.u.zP A;have i:=f.pl.block;have d5:Z.cell? ⟨P,5,none⟩=some (.int .i64 p.line):=zC i 5 (by simp[jh]);have z4:=zS i;have HF:=zD (f.to (f.pl.Qj (Rf.jc ls (L+1):Nat)));clear f i A;go_wp2;go_ret;exact⟨rfl,by rw[F.u];exact HF.u⟩
  ·have b3:(r2 != 0)=true:=by simpa using hr
   have y:=zD (W.u.trans (zA hr));clear W;go_wp2;go_ret;exact⟨rfl,by rw[y.u];exact o.u⟩
theorem dy (L:Nat) (iv:Value) (h:JW w0 w S g cap ls P p X) (hV:xA w0 v t) (hL:Lawful ls) (V:V9 ls p) (z:Rf.nested ls=0) (Z:p.line=(L:Int)+1) (b6:L < ls.length) (d0:p.out.length<=50) (a1:2<=t.length) (d9:(t[0].toList==[114,101,97,100])=false) (f1:(t[0].toList==[112,114,105,110,116])=true) (hw:Z5 ls p r (t.drop 1)) (b4:∃a n c,iv=.slice a n c) (te:Int) (O:te=if r.2=0 then (if 50<=p.out.length then 6 else 0)else r.2) (T:p'=if r.2=0 then (if 50<=p.out.length then p else { p with out:=p.out++[r.1],line:=(Rf.jc ls (L+1):Nat) })else p):Calls Tryz.prog 99 #[.pointer (some ⟨S,0,none⟩),.pointer (some ⟨P,0,none⟩),v,iv] w fun e w'=>e=.returned (.int .i64 te)/\∃X',JW w0 w' S g cap ls P p' X':=by
 obtain⟨i0,b5,b2,b1,b0⟩:=yi XL;have HI:=zD h;have a0:=hL.len;have b7:=zD V;have N:=qG O T;have HW:=zD hw;have HG:=zD (JM ls L b6 a0 z S g cap);have R:=h.pl.block;have c5:w.cell? ⟨P,5,none⟩=some (.int .i64 ((L:Int)+1)):=by have:=zC R 5 (by simp[jh]);rw[this];exact qB (fun x=>some (Value.int .i64 x)) Z
 have J:=hV.zP h.iB;obtain⟨ad,cp,rfl,d3⟩:=hV.form;obtain⟨tb,d,rfl⟩:=hV.qZ (by intro h;rw[h]at a1;simp at a1);have a2:0 < t.length:=by omega
 have c0:=Xm J a2;rw[qO]at c0;have a8:=zD (show ∀w',Below w0.heap.size w0 w'->w'.cell? ⟨tb,d,none⟩=some (.string t[0])from fun w' hb=>by have:=Xm (hV.zP hb) a2;rw[qO]at this;exact this);have HV:=zD J;obtain⟨d8,d7,b9,rfl⟩:=b4;obtain⟨d6,b8,U⟩:=zK h.pl.CQ;have M:=zD U;have d2:(0:Int) < (t.length:Int):=by omega
 have d1:(1:Int)<=(t.length:Int):=by omega
 have f2:IntKind.i64.wrap ((L:Int)+1+1)=(L:Int)+1+1:=zl _ ⟨by omega,by omega⟩;clear h hV hL V T O R J z Z hw U;generalize t[0]=x0 at *;go_enter func99,ntmps99;go_wp2_with fail
 all_goals
  refine(HW.u _ S g cap P _ HI.u.JZ (HI.u.read b7.u) (by first | exact xA.gone (by omega) rfl | exact HV.u.drop 1 _ _ rfl (by omega))).mono ?_;rintro e w2 ⟨rfl,a5⟩;have k:=zD (HI.u.zP a5);have ct:=a8.u _ k.u.iB;have I:=k.u.pl.block;have c4:w2.cell? ⟨P,4,none⟩=some X.ov:=zC I 4 (by simp[jh]);rw[M.u]at c4;have A:=k.u.pl.CQ;rw[M.u]at A;have a6:=zQ I;clear a5 I;obtain⟨r1,r2⟩:=r;by_cases hr:r2=0
  ·subst hr;have i:=qG (N.u.1.trans (zE (by first | rfl | trivial))) (N.u.2.trans (zE (by first | rfl | trivial)));by_cases h50:50<=p.out.length
   ·have a7:((p.out.length:Int)==50)=true:=by rw[xw];omega
    have D:=qG (i.u.1.trans (zE h50)) (i.u.2.trans (zE h50));clear N i A;go_wp2;go_ret;exact⟨by rw[D.u.1];rfl,X,by rw[D.u.2];exact k.u⟩
   ·have a7:((p.out.length:Int)==50)=false:=by rw[zV];omega
    have D:=qG (i.u.1.trans (zA h50)) (i.u.2.trans (zA h50));clear N i;go_wp2_with (at_builtin;refine wpList_append_lies _ rfl _ _ 24 rfl 0 3 i0 _ 1 8 underlying24 b5 b2 b1 b0 rfl (by decide) _ _ _ rfl (A.alloc _) ⟨w2.heap.size,0,none⟩ 1 1 [.int .i64 r1] rfl rfl (cell_one_new _ _ _) (by simp[Value.oneCell']) (by omega) (by unfold maxLen;omega) (by omega) (zo _) (w2.heap.size+1) (by simp) ?_);intro g' cap' w4 y f hat W;rw[<-M.u]at f hat;have j:=k.u;have hB:=j.iB.size;have a3:=(zI w2.heap.size w2).alloc (zB _) (.cells #[.int .i64 r1] 3);have o:=j.pl.EK hB a3 r1 f (.slice (some ⟨g',0,none⟩) (p.out.length+1) cap') y (fun q R=>by simp[Value.ownBlock]at R;subst R;rcases hat with h | h;exact Or.inl h;exact Or.inr (by omega));have H:w4.heap[P]?=some (.cells (jh X.fv X.vv X.cv X.ov p) 72 (0,0)):=by
     have b3:X.ov.ownBlock≠some P:=fun e=>j.pl.apart (qU (r:=zz X.ov p.out) (by simp[yO]) e) rfl;rw[f.block P (by simp;omega) (xK b3),ki _ _ a6];exact j.pl.block
    have d4:w4.cell? ⟨P,4,none⟩=some X.ov:=zC H 4 (by simp[jh]);have z4:=zS H;have a9:=zD (j.to o);clear o H a3 j y f hat W A c4;go_wp2_with fail;refine(HG.u _ a9.u.JZ).mono ?_;rintro e w5 ⟨rfl,a4⟩;have F:=a9.u.zP a4;have G:=F.pl.block;have d5:w5.cell? ⟨P,5,none⟩=some (.int .i64 p.line):=zC G 5 (by simp[jh]);have z5:=zS G;have HF:=zD (F.to (F.pl.Qj (Rf.jc ls (L+1):Nat)));clear F G a4;go_wp2;go_ret;exact⟨by rw[D.u.1];rfl,_,by rw[D.u.2];exact HF.u⟩
  ·have f0:(r2 != 0)=true:=by simpa using hr
   have i:=qG (N.u.1.trans (zA hr)) (N.u.2.trans (zA hr));clear N A;go_wp2;go_ret;exact⟨by rw[i.u.1];rfl,X,by rw[i.u.2];exact k.u⟩
end Go.Proofs.YthleadfkfnnadaaGreat
