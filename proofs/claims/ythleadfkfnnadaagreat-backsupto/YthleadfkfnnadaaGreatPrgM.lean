/- The program within a machine: its rows, its links; Line, Declaration, Param, IsVariable, IsArray, IsStop. -/
import Derived.Test.YthleadfkfnnadaaGreatNames6
set_option maxHeartbeats 4000000
set_option maxRecDepth 100000
set_option linter.unusedSimpArgs false
namespace Go.Proofs.YthleadfkfnnadaaGreat
open Rt Go.Proofs.Tryz
open Go.RowKit
variable {cs:List (List Value)} {zL:List Rt.PL} {P B:Nat} {lk:Qw} {lv:Value} {w w':World}
def Gx (s:ByteArray) (w:World) (e:Ending) (w':World):Prop:=
  Below w.heap.size w w'/\∃er ln zL,Rt.qx s=(er,ln,zL)/\
    ((¬er=0/\e=.returned (.tuple #[.agg #[zg],.int .i64 er,.int .i64 ln]))\/
     (er=0/\ln=0/\zL.length<=101/\∃lv cs,e=.returned (.tuple #[.agg #[lv],.int .i64 0,.int .i64 0])/\w'.ownsRow w.heap.size 145 12 lv zL.length cs.flatten/\ja w' w.heap.size zL cs/\VL w' lv (Xb s)))
theorem Ee (h:qH w P zL lv cs) (J:Lk0 cs):VL w lv (List.replicate zL.length (0,0)):=by
 intro g n cap e i x hx;have hi:i < zL.length:=by
  by_cases hi:i < zL.length
  ·exact hi
  ·rw[xt (by simp;omega)]at hx;cases hx
 rw[zJ (by simpa using hi)]at hx;simp at hx;subst hx;have G:=KL hi;have H:(zL.take i).length=i:=by simp;omega
 have A:=h.lines;rw[G]at A;obtain⟨M,c,L,k,o,_,_,_⟩:=A.part;obtain⟨F,D⟩:=J c (by rw[k];simp);have f:∀j u,c[j]?=some u->w.cell? ⟨g,i*12+j,none⟩=some u:=by
  intro j u z;have I:cs.flatten[i*12+j]?=some u:=by
   rw[k,Xj,yU (by omega),o,H,vY,Qz,yp (qy.1 z).1];exact z
  obtain⟨g',cap',d,_,_,y⟩:=yD h.own I;rw[e]at d;simp at d;rw[d.1];exact y
 exact⟨f 9 _ F,f 10 _ D⟩
theorem Qs {N:Nat} {o:Obj} (h:w.heap[N]?=some o) (d:Below B w w') (f:N < B):w'.heap[N]?=some o:=by rw[d.block N f];exact h
theorem Vj {s:ByteArray} (h:Rt.ZE s=false):s.size<=40000/\(Rt.lines s).length<=100:=by
 simp[Rt.ZE]at h;have:=Rt.ch s;omega
theorem wm (s:ByteArray) (hs:s.size<=maxLen):Calls Tryz.prog 42 #[.string s] w (Gx s w):=by
 have V:=(zI w.heap.size w).alloc (zB _) (.cells #[zg] 76);have a6:=zN w (.cells #[zg] 76);cases hl:Rt.ZE s with
 | true=>
  have HE:Hd (Rt.qx s=(1,0,[])):=zD (by unfold Rt.qx;rw[zE hl]);have I:=zD V;clear V a6;go_enter func42,ntmps42;go_wp2_with fail;refine(dQ s hs).mono ?_;rintro e w1 ⟨rfl,rfl⟩;rw[hl];clear hl;go_wp2_with fail;refine zT (v:=.tuple #[.agg #[zg],.int .i64 1,.int .i64 0]) ?_ rfl ⟨I.u,1,0,[],HE.u,Or.inl ⟨by decide,rfl⟩⟩;simp[results,results42,go_sem]
 | false=>
  obtain⟨a7,b4⟩:=Vj hl;have U:=V.alloc (by simp) (.cells #[zg] 76);have W:=yR a6 (.cells #[zg] 76);have a5:=qD w (.cells #[zg] 76) (.cells #[zg] 76);have a0:=zD (show Rt.qx s=Rt.Yq (Rt.rForms 0 (Rt.lines s) [Rt.kb]).1 (Rt.rForms 0 (Rt.lines s) [Rt.kb]).2 (Rt.lines s).length by unfold Rt.qx;rw[zA (by rw[hl];simp)]);clear V a6;go_enter func42,ntmps42;go_wp2_with fail;refine(dQ s hs).mono ?_;rintro e w1 ⟨rfl,rfl⟩;rw[hl];clear hl;go_wp2_with fail;refine(iU s a5 a7 b4).mono ?_;rintro e w2 ⟨F,(⟨hf,rfl,lv,cs,D,a1⟩| ⟨hf,rfl,_⟩)⟩
  ·have G:=Qs W F (by omega);have a2:=U.trans (F.mono (B':=w.heap.size) (by omega));have Z:=zD (a0.u.trans (show Rt.Yq (Rt.rForms 0 (Rt.lines s) [Rt.kb]).1 (Rt.rForms 0 (Rt.lines s) [Rt.kb]).2 (Rt.lines s).length=_ from zA (by rw[hf];simp)));obtain⟨a9,O,J,b5⟩:=Xn (Rt.lines s) 0 [Rt.kb] (Rt.rForms 0 (Rt.lines s) [Rt.kb]).2 (Rt.YM a7) (by simp[Rt.kb];exact ZS (by omega)) (Z6 hf rfl);have b0:=zD (show Xb s=Rt.vS ((Rt.rForms 0 (Rt.lines s) [Rt.kb]).2.drop 1)from rfl);have a3:=zD (Ee D a1);clear a0 U W a5 F hf a1;generalize (Rt.rForms 0 (Rt.lines s) [Rt.kb]).2=zL at *;subst b5;simp only[ZB]at D O;simp only[ZB,Z7,Zb,yE]at b0 a3;have a4:J.length=(Rt.lines s).length:=by simp at a9;omega
   have y:=zD Z.u;simp only[ZB,Z7,Zb]at y;have b6:=zQ D.block;have M:∀k,lv.ownBlock=some k->w.heap.size+1 < k:=fun k hk=>by have:=(D.own.lt k hk).1;omega
   clear Z;go_wp2_with fail;refine(ft D (by omega) a3.u (by simp)).mono ?_;rintro e w3 ⟨A,er,ls,bs,L,hcase⟩;have f:w3.heap[w.heap.size]?=some (.cells #[zg] 76 (0,0)):=by
    rw[A.block w.heap.size (by omega) (fun e=>by have:=M _ e.symm;omega)];exact G
   have d:Below w.heap.size w w3:=a2.trans ⟨A.os,A.tape,A.output,A.size,fun k hk=>A.block k (by omega) (fun e=>by have:=M _ e.symm;omega)⟩;rw[L]at y;simp only at y;have T:=Vu J 1 [] [Rt.kb] ls bs (by simp[Rt.kb];exact ZS (by omega)) (fun p hp=>O p (by simp[hp]));clear G a2 D A;rcases hcase with⟨rfl,rfl,rfl,⟨cs3,hpr3⟩,hlk3⟩| ⟨rfl,hbs,rfl⟩| ⟨her,rfl⟩
   ·obtain⟨a8,b3⟩:=T L (by omega);have j:=zD (y.u.trans (show Rt.vH 0 ls [] (Rt.lines s).length=Rt.jV ls from rfl));clear y L T O;have N:ls.length<=101:=by simp at a8;omega
    clear a8 a4 a9;go_wp2_with fail;refine(gy hpr3 N b3).mono ?_;have b2:=zD hlk3;clear hlk3;rintro e w4 ⟨h,(⟨h4,rfl⟩| ⟨h4,h5,rfl⟩| ⟨h4,h5,rfl⟩)⟩
    ·have R:=zD (j.u.trans (show Rt.jV ls=(4,(Rt.nameErr ls 1 (ls.drop 1):Int),[]) by unfold Rt.jV;rw[zE h4]));have i:=zU f h;have z:=zC i 0 (by simp);have f0:=zS i 0;simp at z;have I:=zD ((d.trans (h.mono (B':=w.heap.size) d.size)).setCell (p:=⟨w.heap.size,0,none⟩) (zB _) zg);clear j h4 f i h d hpr3;go_wp2_with fail;refine zT (v:=.tuple #[.agg #[zg],.int .i64 4,.int .i64 _]) ?_ rfl ⟨I.u,_,_,_,R.u,Or.inl ⟨by decide,rfl⟩⟩;simp[results,results42,go_sem,z]
    ·have R:=zD (j.u.trans (show Rt.jV ls=(4,0,[]) by unfold Rt.jV;rw[zA (by rw[h4];simp),zE h5]));have i:=zU f h;have z:=zC i 0 (by simp);have f0:=zS i 0;simp at z;have I:=zD ((d.trans (h.mono (B':=w.heap.size) d.size)).setCell (p:=⟨w.heap.size,0,none⟩) (zB _) zg);clear j h4 h5 f i h d hpr3;go_wp2_with fail;refine zT (v:=.tuple #[.agg #[zg],.int .i64 4,.int .i64 0]) ?_ rfl ⟨I.u,_,_,_,R.u,Or.inl ⟨by decide,rfl⟩⟩;simp[results,results42,go_sem,z]
    ·have R:=zD (j.u.trans (show Rt.jV ls=(0,0,ls) by unfold Rt.jV;rw[zA (by rw[h4];simp),zA (by rw[h5];simp)]));have o:=hpr3.zP h;have i:=zU f h;have z:=zC i 0 (by simp);have f0:=zS i 0;have cP:=zC o.block 0 (by simp);simp at z cP;obtain⟨H,x,rfl⟩:=zK o.own;have hK:Qc w4 (w4.setCell ⟨w.heap.size,0,none⟩ (.slice H ls.length x)) (w.heap.size+1+1) w.heap.size:=fun t size n v xs _ hv=>yn (qL hv (by show w.heap.size < _;omega) _) (by omega);have HF:=qG (yn (b':=w.heap.size) (qL o.own (a:=⟨w.heap.size,0,none⟩) (by show w.heap.size < _;omega) (.slice H ls.length x)) (by omega)) (hK.lines _ _ o.lines);have I:=zD ((d.trans (h.mono (B':=w.heap.size) d.size)).setCell (p:=⟨w.heap.size,0,none⟩) (zB _) (.slice H ls.length x));have b1:Hd (VL (w4.setCell ⟨w.heap.size,0,none⟩ (.slice H ls.length x)) (.slice H ls.length x) (Xb s)):=by
      refine zD ?_;rw[b0.u];refine(b2.u.zP hpr3.own h).same (fun g hg=>zO w4 ⟨w.heap.size,0,none⟩ _ g ?_);have:=(o.own.lt g hg).1;show g≠w.heap.size;omega
     clear j h4 h5 f i h d hpr3 o hK M;go_wp2_with fail;refine zT (v:=.tuple #[.agg #[.slice H ls.length x],.int .i64 0,.int .i64 0]) ?_ rfl ⟨I.u,_,_,_,R.u,Or.inr ⟨rfl,rfl,N,_,_,rfl,HF.u.1,HF.u.2,b1.u⟩⟩;simp[results,results42,go_sem,z]
   ·have j:=zD (y.u.trans (show Rt.vH 0 ls bs (Rt.lines s).length=(3,((Rt.lines s).length:Int),[]) by unfold Rt.vH;rw[zA (by simp),zE hbs]));have z:=zC f 0 (by simp);have f0:=zS f 0;simp at z;have I:=zD (d.setCell (p:=⟨w.heap.size,0,none⟩) (zB _) zg);have HR:=zD a4;clear y f d T L O hbs a4;go_wp2_with fail;refine zT (v:=.tuple #[.agg #[zg],.int .i64 3,.int .i64 J.length]) ?_ rfl ⟨I.u,_,_,_,j.u,Or.inl ⟨by decide,by rw[HR.u]⟩⟩;simp[results,results42,go_sem,z]
   ·have j:=zD (y.u.trans (show Rt.vH er ls bs (Rt.lines s).length=(3,(er:Int),[]) by unfold Rt.vH;rw[zE her]));have z:=zC f 0 (by simp);have f0:=zS f 0;simp at z;have I:=zD (d.setCell (p:=⟨w.heap.size,0,none⟩) (zB _) zg);clear y f d T L O her;go_wp2_with fail;refine zT (v:=.tuple #[.agg #[zg],.int .i64 3,.int .i64 er]) ?_ rfl ⟨I.u,_,_,_,j.u,Or.inl ⟨by decide,rfl⟩⟩;simp[results,results42,go_sem,z]
  ·have G:=Qs W F (by omega);have Z:=zD (a0.u.trans (show Rt.Yq (Rt.rForms 0 (Rt.lines s) [Rt.kb]).1 (Rt.rForms 0 (Rt.lines s) [Rt.kb]).2 (Rt.lines s).length=_ from zE hf));have z:=zC G 0 (by simp);have f0:=zS G 0;simp at z;have I:=zD ((U.trans (F.mono (B':=w.heap.size) (by omega))).setCell (p:=⟨w.heap.size,0,none⟩) (zB _) zg);clear a0 U W a5 F hf G;generalize (Rt.rForms 0 (Rt.lines s) [Rt.kb]).1=ln at *;go_wp2_with fail;refine zT (v:=.tuple #[.agg #[zg],.int .i64 2,.int .i64 ln]) ?_ rfl ⟨I.u,_,_,_,Z.u,Or.inl ⟨by decide,rfl⟩⟩;simp[results,results42,go_sem,z]
structure vu (w:World) (P B:Nat) (zL:List Rt.PL) (lk:Qw) (lv:Value) (cs:List (List Value)):Prop where
 lt:P < w.heap.size
 cell:w.cell? ⟨P,0,none⟩=some lv
 own:w.ownsRow B 145 12 lv zL.length cs.flatten
 lines:ja w B zL cs
 gE:VL w lv lk
 len:lk.length=zL.length
theorem vu.zP {w w':World} {P B:Nat} {zL:List Rt.PL} {lk:Qw} {lv:Value} {cs:List (List Value)} (h:vu w P B zL lk lv cs) (d:Below w.heap.size w w'):vu w' P B zL lk lv cs:=
 ⟨zX h.lt d.size,cell_later d h.cell,yG h.own d,(xZ d).lines _ _ h.lines,h.gE.zP h.own d,h.len⟩
theorem vu.get {acc:List Rt.PL} {p:Rt.PL} {r:List Rt.PL} (h:vu w P B (acc++p::r) lk lv cs):∃g cap a0 a1 a2 a3 c0 c1 c2 c3 xe xf,lv=.slice (some ⟨g,0,none⟩) (acc++p::r).length cap/\g < w.heap.size/\
   GN w g (acc.length*12) (.slice a0 p.yY.length c0) (.int .i64 p.form.kind) (.string p.form.name) (.int .i64 p.form.cells) (.slice a1 p.form.params.length c1) (.slice a2 p.form.index.length c2) (.slice a3 p.form.values.length c3) (.int .i64 p.depth) (.int .i64 p.opener) (.int .i64 xe) (.int .i64 xf) (.int .i64 p.proc)/\FF w g (acc.length*12)/\
   w.ownsRow B 188 2 (.slice a0 p.yY.length c0) p.yY.length (qa p.yY)/\
   qk w B #[.int .i64 p.form.kind,.string p.form.name,.int .i64 p.form.cells,.slice a1 p.form.params.length c1,.slice a2 p.form.index.length c2,.slice a3 p.form.values.length c3] p.form:=by
 obtain⟨c1,c,c2,G,R,_,T,_⟩:=h.lines.part;obtain⟨tv,fv,xe,xf,f,I,J⟩:=T;have F:=J;obtain⟨pv,iv,vv,Z,D,W,V,U,_⟩:=J;obtain⟨a0,O,rfl⟩:=zK I;obtain⟨a1,N,rfl⟩:=zK W;obtain⟨a2,M,rfl⟩:=zK V;obtain⟨a3,L,rfl⟩:=zK U;subst D;have x:∀j u,c[j]?=some u->cs.flatten[acc.length*12+j]?=some u:=by
  intro j u A;rw[G,Xj,yU (by omega),R,vY,Qz,yp (qy.1 A).1];exact A
 have k:=h.own;obtain⟨g,cap,y,hg,z,_⟩:=yD k (x 0 _ (by rw[f];rfl));have d:∀j u,c[j]?=some u->w.cell? ⟨g,acc.length*12+j,none⟩=some u:=by
  intro j u A;obtain⟨g',cap',o,_,_,H⟩:=yD k (x j u A);rw[y]at o;simp at o;rw[o.1];exact H
 have i:∀j,w.frozen? ⟨g,j,none⟩=false:=by
  intro j;rw[y]at k;exact k.frozenAt j
 refine⟨g,cap,a0,a1,a2,a3,O,N,M,L,xe,xf,y,z,⟨?_,?_,?_,?_,?_,?_,?_,?_,?_,?_,?_,?_⟩,⟨i _,i _,i _,i _,i _,i _,i _,i _,i _,i _,i _,i _⟩,I,F⟩
 ·exact d 0 _ (by rw[f];rfl)
 ·exact d 1 _ (by rw[f];rfl)
 ·exact d 2 _ (by rw[f];rfl)
 ·exact d 3 _ (by rw[f];rfl)
 ·exact d 4 _ (by rw[f];rfl)
 ·exact d 5 _ (by rw[f];rfl)
 ·exact d 6 _ (by rw[f];rfl)
 ·exact d 7 _ (by rw[f];rfl)
 ·exact d 8 _ (by rw[f];rfl)
 ·exact d 9 _ (by rw[f];rfl)
 ·exact d 10 _ (by rw[f];rfl)
 ·exact d 11 _ (by rw[f];rfl)
theorem vu.at {w:World} {P B:Nat} {zL:List Rt.PL} {lk:Qw} {lv:Value} {cs:List (List Value)} (h:vu w P B zL lk lv cs) {i:Nat} (x:i < zL.length):∃g cap a0 a1 a2 a3 c0 c1 c2 c3 xe xf,lv=.slice (some ⟨g,0,none⟩) zL.length cap/\g < w.heap.size/\
   GN w g (i*12) (.slice a0 zL[i].yY.length c0) (.int .i64 zL[i].form.kind) (.string zL[i].form.name) (.int .i64 zL[i].form.cells) (.slice a1 zL[i].form.params.length c1) (.slice a2 zL[i].form.index.length c2) (.slice a3 zL[i].form.values.length c3) (.int .i64 zL[i].depth) (.int .i64 zL[i].opener) (.int .i64 xe) (.int .i64 xf) (.int .i64 zL[i].proc)/\
   w.ownsRow B 188 2 (.slice a0 zL[i].yY.length c0) zL[i].yY.length (qa zL[i].yY)/\
   qk w B #[.int .i64 zL[i].form.kind,.string zL[i].form.name,.int .i64 zL[i].form.cells,.slice a1 zL[i].form.params.length c1,.slice a2 zL[i].form.index.length c2,.slice a3 zL[i].form.values.length c3] zL[i].form:=by
 have f:=KL x;have o:(zL.take i).length=i:=by simp;omega
 have k:=h;rw[f]at k;obtain⟨g,cap,a0,a1,a2,a3,c0,c1,c2,c3,xe,xf,d,A,j,_,z,y⟩:=k.get;rw[<-f]at d;rw[o]at j;exact⟨g,cap,a0,a1,a2,a3,c0,c1,c2,c3,xe,xf,d,A,j,z,y⟩
theorem vu.Q3 (h:vu w P B zL lk lv cs):∃ad cap,lv=.slice ad zL.length cap/\w.cell? ⟨P,0,none⟩=some (.slice ad zL.length cap):=by
 obtain⟨ad,cap,rfl⟩:=zK h.own;exact⟨ad,cap,rfl,h.cell⟩
def Dq (B:Nat) (pl:Rt.PL) (x:Int×Int) (w:World) (e:Ending) (w':World):Prop:=∃a0 a1 a2 a3 c0 c1 c2 c3,e=.returned (.agg #[.slice a0 pl.yY.length c0,.int .i64 pl.form.kind,.string pl.form.name,.int .i64 pl.form.cells,.slice a1 pl.form.params.length c1,.slice a2 pl.form.index.length c2,.slice a3 pl.form.values.length c3,.int .i64 pl.depth,.int .i64 pl.opener,.int .i64 x.1,.int .i64 x.2,.int .i64 pl.proc])/\w'.ownsRow B 188 2 (.slice a0 pl.yY.length c0) pl.yY.length (qa pl.yY)/\qk w' B #[.int .i64 pl.form.kind,.string pl.form.name,.int .i64 pl.form.cells,.slice a1 pl.form.params.length c1,.slice a2 pl.form.index.length c2,.slice a3 pl.form.values.length c3] pl.form/\Below w.heap.size w w'
theorem gG (d:Below w.heap.size w w'):Dq B Rt.kb (0,0) w (.returned (.agg #[.slice none 0 0,.int .i64 0,.string ⟨#[]⟩,.int .i64 0,.slice none 0 0,.slice none 0 0,.slice none 0 0,.int .i64 0,.int .i64 0,.int .i64 0,.int .i64 0,.int .i64 0])) w':=
 ⟨none,none,none,none,0,0,0,0,rfl,zW _ _ _ _,vM,d⟩
theorem pF {n:Int} (h:n < 0\/(lk.length:Int)<=n):Rt.jR lk n=(0,0):=by
 unfold Rt.jR;split
 ·rfl
 ·rw[xt (by omega)];rfl
theorem Kp (n:Int) (h:vu w P B zL lk lv cs):Calls Tryz.prog 90 #[.pointer (some ⟨P,0,none⟩),.int .i64 n] w (Dq B (yM zL n) (Rt.jR lk n) w):=by
 obtain⟨ad,cap,y,cP⟩:=h.Q3;have M:=h.lt;have H:=qG h.gE h.len;by_cases h0:n < 0
 ·have F:=zD (Ql (zL:=zL) (Or.inl h0));have D:=zD (pF (lk:=lk) (Or.inl h0));clear h;go_enter func90,ntmps90;go_wp2_with fail;refine zT (v:=.agg #[.slice none 0 0,.int .i64 0,.string ⟨#[]⟩,.int .i64 0,.slice none 0 0,.slice none 0 0,.slice none 0 0,.int .i64 0,.int .i64 0,.int .i64 0,.int .i64 0,.int .i64 0]) ?_ rfl (by rw[F.u,D.u];exact gG ((zI _ _).alloc (zB _) _));simp[results,results90,go_sem]
 by_cases h1:(zL.length:Int)<=n
 ·have F:=zD (Ql (zL:=zL) (Or.inr h1));have D:=zD (pF (lk:=lk) (Or.inr (by rw[H.u.2];exact h1)));clear h;go_enter func90,ntmps90;go_wp2_with fail;refine zT (v:=.agg #[.slice none 0 0,.int .i64 0,.string ⟨#[]⟩,.int .i64 0,.slice none 0 0,.slice none 0 0,.slice none 0 0,.int .i64 0,.int .i64 0,.int .i64 0,.int .i64 0,.int .i64 0]) ?_ rfl (by rw[F.u,D.u];exact gG ((zI _ _).alloc (zB _) _));simp[results,results90,go_sem]
 obtain⟨k,rfl⟩:=yr (show 0<=n by omega);have o:k < zL.length:=by omega
 obtain⟨g,cap',Z,W,V,U,T,R,O,N,J,I,d,L,⟨d0,d1,d2,d3,d4,d5,d6,d7,d8,d9,G,a4⟩,x,A⟩:=h.at o;have f:=y.symm.trans d;simp at f;obtain⟨rfl,rfl⟩:=f;have F:=zD (QQ o);have z:k < lk.length:=by rw[h.len];exact o
 obtain⟨j,i⟩:=h.gE g _ cap d k lk[k] (zJ z);rw[d9]at j;rw[G]at i;injection j with j;injection j with _ j;injection i with i;injection i with _ i;have D:Hd (Rt.jR lk (k:Int)=(J,I)):=by
  refine zD ?_;unfold Rt.jR;rw[zA (by omega)];simp only[xS];rw[zJ z,j,i];rfl
 have HF:=qG x A;clear j i;clear h A x y d;generalize zL[k]=pl at *;go_enter func90,ntmps90;go_wp2_with fail;refine zT (v:=.agg #[.slice Z pl.yY.length T,.int .i64 pl.form.kind,.string pl.form.name,.int .i64 pl.form.cells,.slice W pl.form.params.length R,.slice V pl.form.index.length O,.slice U pl.form.values.length N,.int .i64 pl.depth,.int .i64 pl.opener,.int .i64 J,.int .i64 I,.int .i64 pl.proc]) ?_ rfl (by rw[F.u,D.u];exact⟨Z,W,V,U,T,R,O,N,rfl,yG HF.u.1 ((zI _ _).alloc (zB _) _),(xZ (B:=B) ((zI _ _).alloc (zB _) _)).form HF.u.2,(zI _ _).alloc (zB _) _⟩);simp[results,results90,go_sem]
theorem XE (x:ByteArray) (h:vu w P B zL lk lv cs) (A:zL.length<=101):Calls Tryz.prog 143 #[.pointer (some ⟨P,0,none⟩),.string x] w fun e w'=>e=.returned (.int .i64 (Rt.xb zL x))/\w'=w:=by
 obtain⟨ad,cap,d,Z⟩:=h.Q3;have G:=zD h;have z:=zD d;clear h d;go_enter func143,ntmps143;go_wp2;go_loop [5] (fun i=>∃k:Nat,1<=k/\k<=zL.length+1/\i=.int .i64 k/\Rt.declFrom k (zL.drop k) x=Rt.xb zL x) (fun i=>zL.length+1-(intOf i).toNat)
 case atStart=>exact⟨1,zB _,by omega,rfl,rfl⟩
 case round=>
  obtain⟨k,F,N,rfl,D⟩:=hrel;have y:=zD D;clear D;by_cases hlt:k < zL.length
  ·obtain⟨g,cap',a0,a1,a2,a3,U,T,R,O,I,H,d,_,⟨_,W,V,_⟩,_,_⟩:=G.u.at hlt;have f:=z.u.symm.trans d;simp at f;obtain⟨rfl,rfl⟩:=f;have o:(k:Int) < (zL.length:Int):=by omega
   cases hd:Rt.isDecl zL[k] x with
   | true=>
    have HE:=zD (bH y.u hlt hd);unfold Rt.isDecl at hd;simp only[zy,YC,yS]at hd;obtain⟨hk3,hnm⟩:=hd;have j:=QB hnm;clear hnm d;generalize zL[k].form.name=nm at *;generalize zL[k].form.kind=kx at *;rcases hk3 with (hk3 | hk3)| hk3
    all_goals
     subst hk3;go_wp2;go_ret;exact⟨by rw[HE.u];rfl,rfl⟩
   | false=>
    have HE:=zD (VV y.u hlt hd);unfold Rt.isDecl at hd;clear d;generalize zL[k].form.name=nm at *;generalize zL[k].form.kind=kx at *;by_cases hnm:nm=x
    ·have hk3:¬kx=1/\¬kx=2/\¬kx=3:=by simpa[hnm,and_assoc] using hd
     have M:(kx==1)=false:=by simpa using hk3.1
     have L:(kx==2)=false:=by simpa using hk3.2.1
     have J:(kx==3)=false:=by simpa using hk3.2.2
     clear hk3 hd hnm;go_wp2;go_round
     case rel=>exact⟨k+1,by omega,by omega,by go_num,HE.u⟩
     case measure=>simp[intOf];omega
    ·have j:=KI hnm;clear hd hnm;go_wp2
     all_goals
      go_round
      case rel=>exact⟨k+1,by omega,by omega,by go_num,HE.u⟩
      case measure=>simp[intOf];omega
  ·have HE:=zD (bI y.u hlt);have o:¬(k:Int) < (zL.length:Int):=by omega
   go_wp2;go_ret;exact⟨by rw[HE.u];simp,rfl⟩
theorem FI (n:Int) (x:ByteArray) (h:vu w P B zL lk lv cs) (O:(Rt.yA zL n).params.length<=1000):Calls Tryz.prog 191 #[.pointer (some ⟨P,0,none⟩),.int .i64 n,.string x] w fun e w'=>e=.returned (.int .i64 (YW zL n x))/\Below w.heap.size w w':=by
 go_enter func191,ntmps191;go_wp2_with fail;refine(Kp _ h).mono ?_;rintro e w2 ⟨L,y,H,G,F,cap1,f,d,rfl,_,A,D⟩;rw[Zk]at A ⊢;generalize (Rt.jR lk n).1=xe at *;generalize (Rt.jR lk n).2=xf at *;generalize (yM zL n).depth=dp at *;generalize (yM zL n).opener=opn at *;generalize (yM zL n).proc=pr at *;generalize (yM zL n).yY.length=tl at *;obtain⟨V,iv,vv,vs,o,T,b2,b3,_⟩:=A;have J:V=.slice y (Rt.yA zL n).params.length cap1:=by simp at o;exact o.1.symm
 subst J;have U:=zD D;have HO:=zD T;have HI:=zD (show YW zL n x=Rt.parFrom 0 (Rt.yA zL n).params x from rfl);clear h D T b2 b3 o;generalize (Rt.yA zL n)=fm at *;have Z:=VA L tl F fm.kind fm.name fm.cells y fm.params.length cap1 H fm.index.length f G fm.values.length d dp opn xe xf pr;have W:=uq (.int .i64 fm.kind) (.string fm.name) (.int .i64 fm.cells) y fm.params.length cap1 (.slice H fm.index.length f) (.slice G fm.values.length d);go_wp2;go_loop [8] (fun i=>∃k:Nat,k<=fm.params.length/\i=.int .i64 k/\Rt.parFrom k (fm.params.drop k) x=YW zL n x) (fun i=>fm.params.length-(intOf i).toNat)
 case atStart=>exact⟨0,zo _,rfl,HI.u.symm⟩
 case round=>
  obtain⟨k,hk,rfl,R⟩:=hrel;have M:=zD R;clear R;by_cases hlt:k < fm.params.length
  ·obtain⟨g,cap',N,_,_,cx⟩:=yD HO.u (j:=k) (u:=.string fm.params[k]) (by simp[hlt]);simp at N;obtain⟨rfl,rfl⟩:=N;have z:(k:Int) < (fm.params.length:Int):=by omega
   by_cases hx:fm.params[k]=x
   ·have HE:=zD (dX M.u hlt hx);have I:=QB hx;clear hx;go_wp2;go_ret;exact⟨by rw[HE.u];rfl,U.u⟩
   ·have HE:=zD (aU M.u hlt hx);have I:=KI hx;clear hx;go_wp2;go_round
    case rel=>exact⟨k+1,by omega,by go_num,HE.u⟩
    case measure=>simp[intOf];omega
  ·have HE:=zD (dY M.u hlt);have z:¬(k:Int) < (fm.params.length:Int):=by omega
   go_wp2;go_ret;exact⟨by rw[HE.u];rfl,U.u⟩
theorem pQ (n:Int) (h:vu w P B zL lk lv cs):Calls Tryz.prog 85 #[.pointer (some ⟨P,0,none⟩),.int .i64 n] w fun e w'=>e=.returned (.bool (Rt.xV zL (yM zL n)))/\Below w.heap.size w w':=by
 go_enter func85,ntmps85;go_wp2_with fail;refine(Kp n h).mono ?_;rintro e w1 ⟨a0,a1,a2,a3,c0,c1,c2,Z,rfl,_,_,o⟩;generalize (Rt.jR lk n).1=xe at *;generalize (Rt.jR lk n).2=xf at *;generalize HPL:yM zL n=pl at *
 replace HPL:=zD HPL
 have d:=o.alloc o.size (.cells #[.slice a0 pl.yY.length c0,.int .i64 pl.form.kind,.string pl.form.name,.int .i64 pl.form.cells,.slice a1 pl.form.params.length c1,.slice a2 pl.form.index.length c2,.slice a3 pl.form.values.length Z,.int .i64 pl.depth,.int .i64 pl.opener,.int .i64 xe,.int .i64 xf,.int .i64 pl.proc] 145);have M:=h.zP d;have f:=d.size;clear h o;cases hs:Rt.xy pl.form.kind with
 | true=>
  have J:=zD (show Rt.xV zL pl=true by simp[Rt.xV,hs]);have L:=zD d;have k:pl.form.kind=8\/pl.form.kind=9\/pl.form.kind=10\/pl.form.kind=11\/pl.form.kind=5\/pl.form.kind=7\/pl.form.kind=12\/pl.form.kind=13:=by
   simp[Rt.xy]at hs;omega
  clear hs M d f;generalize pl.form.kind=kx at *;rcases k with rfl | rfl | rfl | rfl | rfl | rfl | rfl | rfl
  all_goals
   go_wp2;go_ret;exact⟨by rw[HPL.u,J.u] <;> rfl,L.u⟩
 | false=>
  have k:¬pl.form.kind=8/\¬pl.form.kind=9/\¬pl.form.kind=10/\¬pl.form.kind=11/\¬pl.form.kind=5/\¬pl.form.kind=7/\¬pl.form.kind=12/\¬pl.form.kind=13:=by
   simp[Rt.xy]at hs;omega
  obtain⟨R,O,A,z,U,T,y,x⟩:=k;have b8:(pl.form.kind==8)=false:=by simpa using R
  have b9:(pl.form.kind==9)=false:=by simpa using O
  have a7:(pl.form.kind==10)=false:=by simpa using A
  have a6:(pl.form.kind==11)=false:=by simpa using z
  have b5:(pl.form.kind==5)=false:=by simpa using U
  have b7:(pl.form.kind==7)=false:=by simpa using T
  have a5:(pl.form.kind==12)=false:=by simpa using y
  have a4:(pl.form.kind==13)=false:=by simpa using x
  clear R O A z U T y x;by_cases n4:pl.form.kind=4
  ·have b4:(pl.form.kind==4)=true:=by simpa using n4
   have J:=zD (show Rt.xV zL pl=decide ((Rt.yA zL pl.opener).kind=3) by unfold Rt.xV;rw[zA (by rw[hs];simp),zE n4]);clear hs n4;go_wp2_with fail;refine(Kp pl.opener M).mono ?_;rintro e w2 ⟨N,I,H,G,F,cap1,j,i,rfl,_,_,D⟩;rw[Zk];generalize (Rt.jR lk pl.opener).1=ye at *;generalize (Rt.jR lk pl.opener).2=yf at *;generalize (yM zL pl.opener).depth=dp at *;generalize (yM zL pl.opener).opener=opn at *;generalize (yM zL pl.opener).proc=pr at *;generalize (yM zL pl.opener).yY.length=tl at *;have L:=zD (d.trans (D.mono (B':=w.heap.size) f));clear M d D;generalize (Rt.yA zL pl.opener)=fo at *;have W:=VA N tl F fo.kind fo.name fo.cells I fo.params.length cap1 H fo.index.length j G fo.values.length i dp opn ye yf pr;have V:=eX fo.kind (.string fo.name) (.int .i64 fo.cells) (.slice I fo.params.length cap1) (.slice H fo.index.length j) (.slice G fo.values.length i);go_wp2;go_ret;exact⟨by rw[HPL.u,J.u];exact yj (by rw[beq_eq_decide]),L.u⟩
  ·have b4:(pl.form.kind==4)=false:=by simpa using n4
   have J:=zD (show Rt.xV zL pl=false by unfold Rt.xV;rw[zA (by rw[hs];simp),zA n4]);have L:=zD d;clear hs n4 M d f;go_wp2;go_ret;exact⟨by rw[HPL.u,J.u] <;> rfl,L.u⟩
end Go.Proofs.YthleadfkfnnadaaGreat
