/- A session of the program's: New and Mark, whatever they are given; what stays of it while others write. -/
import Derived.Test.YthleadfkfnnadaaGreatRgP
import Derived.Test.YthleadfkfnnadaaGreatStG
import Derived.Test.YthleadfkfnnadaaGreatSsP
set_option maxHeartbeats 4000000
set_option maxRecDepth 100000
set_option linter.unusedSimpArgs false
namespace Go.Proofs.YthleadfkfnnadaaGreat
open Rf Rt Go.Proofs.Tryz
open Go.RowKit
attribute [local go_sem ↓] Go.wp_at_zero Go.wp_at_succ
variable {ls:List (List ByteArray)} {qo:List Int} {zL:List Rt.PL} {B N g:Nat} {S:Rt.Src} {t:TypeId} {iv:Value} {w:World}
theorem GG {w1:World} (h:Below B w w1) (i:B<=N) (a b c d e f g:Value):Below B w (W7 w1 N a b c d e f g):=yx (yx (yx (yx (yx (yx (yx h i _ _) i _ _) i _ _) i _ _) i _ _) i _ _) i _ _
section
variable {C:Nat} {zL:List Rt.PL} {ls:List (List ByteArray)} {S:Rt.Src} {cap:Int} {len n low:Nat} {mk:List Bool} {Y:iQ}
theorem AD (h:vg w C zL ls S cap len n low mk Y) (hn:n<=len):Calls Tryz.prog 41 #[.pointer (some ⟨C,0,none⟩)] w fun e w'=>Below w.heap.size w w'/\∃X,Y.xs[n]?=some X/\Xd w 0 (ZN zL S n) X/\e=.returned (.agg (jh X.fv X.vv X.cv X.ov (ZN zL S n))):=by
 obtain⟨g,c,X,V,j,R,i⟩:=h.cells hn;obtain⟨c0,c1,c2,T,c4,c5,c6,c7⟩:=xH h.block;rw[j]at T;have O:=i 0 (by omega);have N:=i 1 (by omega);have M:=i 2 (by omega);have L:=i 3 (by omega);have J:=i 4 (by omega);have I:=i 5 (by omega);have H:=i 6 (by omega);obtain⟨D,A,z,y,x,o,G,F,f1,f2,Z,W⟩:=R.ZX;have k:jh X.fv X.vv X.cv X.ov (ZN zL S n)=#[.slice D (ZN zL S n).zH.length A,.slice z (ZN zL S n).vars.length y,.slice x (ZN zL S n).cells.length o,.int .i64 (ZN zL S n).read,.slice G (ZN zL S n).out.length F,.int .i64 (ZN zL S n).line,.int .i64 (ZN zL S n).fin]:=by rw[f1,f2,Z,W];rfl
 have HX:=XX V R k;have a1:(0:Int)<=(n:Int):=by omega
 have a0:(n:Int) < (len:Int)+1:=by omega
 simp only[k,yQ,zv,yH,qO]at O N M L J I H;have a3:=zQ h.block;have a2:g < w.heap.size:=(h.tr.lt g (by rw[j];rfl)).2;have m1:¬C=w.heap.size:=by omega
 have m2:¬w.heap.size=C:=by omega
 have m3:¬g=w.heap.size:=by omega
 have m4:¬w.heap.size=g:=by omega
 have f:=zN w (.cells #[.slice none 0 0,.slice none 0 0,.slice none 0 0,.int .i64 0,.slice none 0 0,.int .i64 0,.int .i64 0] 72);have d:=(zI w.heap.size w).alloc (zB _) (.cells #[.slice none 0 0,.slice none 0 0,.slice none 0 0,.int .i64 0,.slice none 0 0,.int .i64 0,.int .i64 0] 72);clear h i V R j k f1 f2 Z W;generalize ZN zL S n=p at *;go_enter func41,ntmps41;go_wp2_with fail;have z2:=zS f;obtain⟨r0,r1,r2,r3,r4,r5,r6⟩:=seven f;have e3:=cell_later d T;have e5:=cell_later d c5;have u0:=cell_later d O;have u1:=cell_later d N;have u2:=cell_later d M;have u3:=cell_later d L;have u4:=cell_later d J;have u5:=cell_later d I;have u6:=cell_later d H;have HW:=qG d f;clear c0 c1 c2 T c4 c5 c6 c7 O N M L J I H d f;generalize w.alloc (.cells #[.slice none 0 0,.slice none 0 0,.slice none 0 0,.int .i64 0,.slice none 0 0,.int .i64 0,.int .i64 0] 72)=wz at *;go_region_held3 (fun w'=>w'.cell? ⟨C,3,none⟩=some (.slice (some ⟨g,0,none⟩) (len+1) c)/\w'.cell? ⟨C,5,none⟩=some (.int .i64 n)/\w'.cell? ⟨g,n*7,none⟩=some (.slice D p.zH.length A)/\w'.cell? ⟨g,n*7+1,none⟩=some (.slice z p.vars.length y)/\w'.cell? ⟨g,n*7+2,none⟩=some (.slice x p.cells.length o)/\w'.cell? ⟨g,n*7+3,none⟩=some (.int .i64 p.read)/\w'.cell? ⟨g,n*7+4,none⟩=some (.slice G p.out.length F)/\w'.cell? ⟨g,n*7+5,none⟩=some (.int .i64 p.line)/\w'.cell? ⟨g,n*7+6,none⟩=some (.int .i64 p.fin)) (go_keep) (fail);go_wp2_with fail;refine zT (v:=.agg #[.slice D p.zH.length A,.slice z p.vars.length y,.slice x p.cells.length o,.int .i64 p.read,.slice G p.out.length F,.int .i64 p.line,.int .i64 p.fin]) ?_ rfl ?_
 ·simp[results,results41,go_sem,r0,r1,r2,r3,r4,r5,r6]
 ·obtain⟨h1,h2,h3⟩:=HX.u;have U:=GG HW.u.1 (zB _) (.slice D p.zH.length A) (.slice z p.vars.length y) (.slice x p.cells.length o) (.int .i64 p.read) (.slice G p.out.length F) (.int .i64 p.line) (.int .i64 p.fin);exact⟨U.trans ((zh _).mono U.size),X,h1,h2,by rw[h3]⟩
theorem uR (S:Rt.Src) (d:Nat):∀k j,(xT S d k).length<=(xT S d (k+j)).length
 | _,0=>zB _
 | k,j+1=>by
  rw[show k+(j+1)=(k+j)+1 from rfl,xT,ze];have:=uR S d k j;omega
theorem lu (h:vg w C zL ls S cap len n low mk Y) (hn:n<=len) (J:low<=n) (hl:len < 4611686018427387904) (hr:(xT S low (n-low)).length<=1000000):Calls Tryz.prog 104 #[.pointer (some ⟨C,0,none⟩)] w fun e w'=>e=.returned (.int .i64 ((xT S low (n-low)).length:Nat))/\Below w.heap.size w w':=by
 have HH:=zD h;obtain⟨Z,W,V,U,H,T,c6,R⟩:=xH h.block;obtain⟨I,G,x⟩:=zK h.oH;rw[x]at H;clear h Z W V U R;go_enter func104,ntmps104;go_wp2_with fail;go_loopw [3,4] (fun a i wr=>∃k:Nat,low+k<=n/\i=.int .i64 ((low+k:Nat):Int)/\a=.int .i64 ((xT S low k).length:Nat)/\Below w.heap.size w wr) (fun _ i _=>n+1-(intOf i).toNat)
 case atStart=>exact⟨0,by omega,rfl,rfl,zI _ _⟩
 case round=>
  obtain⟨k,hk,rfl,rfl,d⟩:=hrel;have d4:=cell_later d H;have d5:=cell_later d T;have HB:=zD d;by_cases hlt:low+k < n
  ·have y:((low+k:Nat):Int) < (n:Int):=by omega
   have M:(0:Int)<=((low+k:Nat):Int):=by omega
   have L:((low+k:Nat):Int) < (len:Int):=by omega
   obtain⟨g,cc,e,_,_,r⟩:=yD (yG HH.u.oH d) (j:=low+k) (u:=.int .i64 ((ku S (low+k)).length:Nat)) (by
    rw[xR,sC,yt,yt,Xi (by omega)];rfl)
   rw[x]at e;injection e with e1 _ e3;subst e1 e3;have o:(xT S low k).length+(ku S (low+k)).length=(xT S low (k+1)).length:=by rw[xT,ze]
   have z:=uR S low (k+1) (n-low-(k+1));rw[show k+1+(n-low-(k+1))=n-low by omega]at z;have f:wrap64 (((xT S low k).length:Int)+((ku S (low+k)).length:Int))=((xT S low (k+1)).length:Nat):=by
    rw[show ((xT S low k).length:Int)+((ku S (low+k)).length:Int)=((xT S low (k+1)).length:Nat) by omega];exact yC _ ⟨by omega,by omega⟩
   have HS:=zD f;clear o z f d;generalize O:(xT S low k).length=A at *;generalize N:(ku S (low+k)).length=D at *;clear O N;go_wp2_with fail;go_roundw
   case rel=>exact⟨k+1,by omega,by go_num,by rw[HS.u],HB.u⟩
   case measure=>simp[intOf];omega
  ·have y:¬((low+k:Nat):Int) < (n:Int):=by omega
   have F:k=n-low:=by omega
   subst F;go_wp2;go_ret;exact⟨rfl,HB.u⟩
theorem BJ (h:vg w C zL ls S cap len n low mk Y) (k:n<=len) (f:low<=n) (o:len < 4611686018427387904) (j:(xT S low (n-low)).length<=1000000):Calls Tryz.prog 62 #[.pointer (some ⟨C,0,none⟩)] w fun e w'=>e=.returned (.tuple #[.int .i64 (low:Int),.int .i64 ((xT S low (n-low)).length:Nat)])/\Below w.heap.size w w':=by
 have H:=zD (lu h k f o j);obtain⟨G,F,D,A,z,y,i,x⟩:=xH h.block;clear h G F D A z y x;generalize (xT S low (n-low)).length=R at *;go_enter func62,ntmps62;go_wp2_with fail;refine H.u.mono ?_;rintro e w1 ⟨rfl,d⟩;have J:=cell_later d i;have I:=zD d;clear d i;go_wp2_with fail;refine zT (v:=.tuple #[.int .i64 (low:Int),.int .i64 (R:Int)]) ?_ rfl ⟨rfl,I.u⟩;simp[results,results62,go_sem]
theorem mM (h:vg w C zL ls S cap len n low mk Y) (l:Int) (y:l < 1\/(ls.length:Int) < l):Calls Tryz.prog 64 #[.pointer (some ⟨C,0,none⟩),.int .i64 l] w fun e w'=>e=.returned (.tuple #[.bool false,.int .i64 8])/\Below w.heap.size w w':=by
 obtain⟨D,x,o,k,j,i,f,d⟩:=xH h.block;have A:=h.src.top;clear h x o k j i f d;by_cases h1:l < 1
 ·go_enter func64,ntmps64;go_wp2_with fail;refine zT (v:=.tuple #[.bool false,.int .i64 8]) ?_ rfl ⟨rfl,zI _ _⟩;simp[results,results64,go_sem]
 ·have z:(ls.length:Int) < l:=by omega
  go_enter func64,ntmps64;go_wp2_with fail;refine zT (v:=.tuple #[.bool false,.int .i64 8]) ?_ rfl ⟨rfl,zI _ _⟩;simp[results,results64,go_sem]
theorem th (h:vg w C zL ls S cap len n low mk Y) (o:ls.length<=100) (d:Rf.nested ls=0) (l:Nat) (k:l < ls.length) (j:xx ls l ls[l]=false):Calls Tryz.prog 64 #[.pointer (some ⟨C,0,none⟩),.int .i64 ((l:Int)+1)] w fun e w'=>e=.returned (.tuple #[.bool false,.int .i64 8])/\Below w.heap.size w w':=by
 obtain⟨M,G,F,D,A,z,y,x⟩:=xH h.block;have L:=h.src.top;have i:=zD (fG l h.src k o d);rw[j]at i;have J:¬(l:Int)+1 < 1:=by omega
 have I:¬(ls.length:Int) < (l:Int)+1:=by omega
 clear h G F D A z y x;go_enter func64,ntmps64;go_wp2_with fail;refine i.u.mono ?_;rintro e w1 ⟨rfl,f⟩;have H:=zD f;clear f;go_wp2_with fail;refine zT (v:=.tuple #[.bool false,.int .i64 8]) ?_ rfl ⟨rfl,H.u⟩;simp[results,results64,go_sem]
structure Ds (C:Nat) (zL:List Rt.PL) (ls:List (List ByteArray)) (S:Rt.Src) (cap:Int) (len n low:Nat) (mk:List Bool) (Y Y':iQ) (w w':World):Prop where
 cur:vg w' C zL ls S cap len n low mk Y'
 vz:VM w w' (Ev C Y)
 own:∀k∈Dt zL S C Y',k∈Dt zL S C Y\/w.heap.size<=k
theorem vg.marked (h:vg w C zL ls S cap len n low mk Y) {c:Nat} (D:Y.mv=.slice (some ⟨g,0,none⟩) mk.length c) (l:Nat) (b:Bool):Ds C zL ls S cap len n low (mk.set l b) Y Y w (w.setCell ⟨g,l,none⟩ (.bool b)):=by
 have A:Y.mv.ownBlock=some g:=by rw[D];rfl
 have o:=h.Yw;rw[D]at o;obtain⟨F,d⟩:=yW o rfl;have o:=(o.stored l (.bool b)).1;have y:qm w g 4:=⟨F,d⟩;have f:∀k,k≠g->(w.setCell ⟨g,l,none⟩ (.bool b)).heap[k]?=w.heap[k]?:=fun k hk=>zO w ⟨g,l,none⟩ _ k hk;have x:∀{t:TypeId} {z m:Nat} {v:Value} {xs:List Value},w.ownsRow 0 t z v m xs->t≠4->∀q,v.ownBlock=some q->q≠g:=fun hr ht q hq e=>by
  obtain⟨G,j⟩:=yW hr hq;rw[e,d]at j;injection j with j;injection j with _ j;exact ht j.symm
 refine⟨⟨(f C (fun e=>?_)).trans h.block,h.src.stay (fun k t ht hk=>f k (fun e=>hk.ne y (by rcases ht with rfl | rfl | rfl <;> decide) e)),yP h.qo (fun q hq=>f q (x h.qo (by decide) q hq)),yP h.tr (fun q hq=>f q (x h.tr (by decide) q hq)),h.xl,fun i hi=>?_,yP h.oH (fun q hq=>f q (x h.oH (by decide) q hq)),?_,h.iP⟩,⟨rfl,rfl,rfl,by simp[World.setCell],fun k _ hn=>f k (fun e=>hn ?_)⟩,fun k hk=>Or.inl hk⟩
 ·rw[<-e,h.block]at d;injection d with d;injection d with _ d;exact absurd d (by decide)
 ·have hq:=h.GV i hi;refine⟨⟨fun r hr=>yP (hq.own.rows r hr) (fun q hq2=>f q (x (hq.own.rows r hr) (by rcases Yr hr with e | e | e <;> rw[e] <;> decide) q hq2)),hq.own.apart⟩,hq.fl,hq.cl,hq.new⟩
 ·rw[jD,bk,D];exact o
 ·rw[e];exact zm _ (zb _ (YY A))
theorem tg (h:vg w C zL ls S cap len n low mk Y) (N:ls.length<=100) (d:Rf.nested ls=0) (l:Nat) (L:l < ls.length) (D:xx ls l ls[l]=true) (J:mk.length=ls.length+1) (b:Bool) (F:mk[l+1]?=some b):Calls Tryz.prog 64 #[.pointer (some ⟨C,0,none⟩),.int .i64 ((l:Int)+1)] w fun e w'=>e=.returned (.tuple #[.bool (!b),.int .i64 0])/\Ds C zL ls S cap len n low (mk.set (l+1) (!b)) Y Y w w':=by
 have HH:=zD h;obtain⟨H,W,V,U,T,R,O,z⟩:=xH h.block;have cS:=h.src.top;have I:=zD (fG l h.src L N d);rw[D]at I;obtain⟨g,c,i,_,_,G⟩:=yD h.Yw (j:=l+1) (u:=.bool b) (by rw[yt,F];rfl);rw[i]at z;have y:¬(l:Int)+1 < 1:=by omega
 have x:¬(ls.length:Int) < (l:Int)+1:=by omega
 have h3:(l:Int)+1 < (mk.length:Int):=by omega
 have h4:(0:Int)<=(l:Int)+1:=by omega
 obtain⟨bc,f⟩:=yW h.Yw (g:=g) (by rw[i];rfl);have Z:=zD (show ∀w1,Below w.heap.size w w1->_ from fun w1 hb1=>(h.zP hb1).marked i (l+1) (!b));have o:=(qm.intro h.block).ne (qm.intro f) (by decide);have M:=xK o;have A:=zD f;clear h W V U T R O f J i D F;generalize mk.length=ml at *;go_enter func64,ntmps64;go_wp2_with fail;refine I.u.mono ?_;rintro e w1 ⟨rfl,hb1⟩;have HA:=zD (Z.u w1 hb1);have d0:=cell_later hb1 H;have d7:=cell_later hb1 z;have dM:=cell_later hb1 G;have zM:=zS (zU A.u hb1) (l+1);have HB:=zD hb1;clear hb1 H z G;go_wp2_with fail;go_region;go_wp2_with fail;refine zT (v:=.tuple #[.bool (!b),.int .i64 0]) ?_ rfl ⟨rfl,?_⟩
 ·simp[results,results64,go_sem]
 ·have y:=HA.u;have x:=zh (w1.setCell ⟨g,l+1,none⟩ (.bool (!b)));exact⟨y.cur.zP x,((VM.jQ _ HB.u).trans y.vz (vd.refl _ _)).trans (VM.jQ _ x) (vd.refl _ _),fun k hk=>Or.inl hk⟩
end
noncomputable def CX (s:ByteArray) (qo:List Int) (cap:Int):Int×Int:=
 if 100 < qo.length then (1,0)else if ¬(Rt.qx s).1=0 then ((Rt.qx s).1,(Rt.qx s).2.1)else if cap < 5\/500 < cap then (6,0)else (0,0)
theorem bL (s:ByteArray) (cap:Int) (o:s.size<=maxLen) (i:kA w iv qo) (d f:Int) (h:(100 < qo.length/\d=1/\f=0)\/(qo.length<=100/\¬d=0/\(vP s).1=d/\(vP s).2.1=f)):Calls Tryz.prog 31 #[.string s,iv,.int .i64 cap] w fun e w'=>e=.returned (.tuple #[.pointer none,.int .i64 d,.int .i64 f])/\Below w.heap.size w w':=by
 have y:=zD i;obtain⟨k,j,rfl⟩:=i.form;have x:(d != 0)=true:=by rcases h with⟨_,rfl,_⟩| ⟨_,h,_⟩ <;> simp_all
 have HH:=zD h;clear h i;go_enter func31,ntmps31;go_wp2_with fail;refine(dB s o y.u).mono ?_;rintro e w1 hcase;have he:e=.returned (.tuple #[.pointer none,.int .i64 d,.int .i64 f])/\Below w.heap.size w w1:=by
  rcases HH.u with⟨h1,h2,h3⟩| ⟨h1,h2,h3,h4⟩
  ·subst h2 h3;rcases hcase with⟨_,he,rfl⟩| ⟨h,_⟩
   ·exact⟨he,zI _ _⟩
   ·omega
  ·rcases hcase with⟨h,_⟩| ⟨_,hb,hc⟩
   ·omega
   ·rw[h3,h4]at hc;rcases hc with⟨_,he⟩| ⟨h0,_⟩
    ·exact⟨he,hb⟩
    ·exact absurd h0 h2
 obtain⟨rfl,hb⟩:=he;clear hcase;go_wp2_with fail;go_ret3;exact⟨rfl,hb⟩
theorem DW (s:ByteArray) (cap:Int) (o:s.size<=maxLen) (d:kA w iv qo) (x:(vP s).1=0) (A:qo.length<=100) (D:cap < 5\/500 < cap):Calls Tryz.prog 31 #[.string s,iv,.int .i64 cap] w fun e w'=>e=.returned (.tuple #[.pointer none,.int .i64 6,.int .i64 0])/\Below w.heap.size w w':=by
 have z:=zD d;obtain⟨j,f,rfl⟩:=d.form;clear d;go_enter func31,ntmps31;go_wp2_with fail;refine(dB s o z.u).mono ?_;rintro e w1 (⟨h,_⟩| ⟨_,i,(⟨y,_⟩| ⟨_,_,_,_,_,S,g,F,rfl,_⟩)⟩)
 ·omega
 ·exact absurd x y
 by_cases hz:cap < 5
 ·go_wp2_with fail;go_ret3;exact⟨rfl,i⟩
 ·have k:500 < cap:=by omega
  go_wp2_with fail;go_ret3;exact⟨rfl,i⟩
theorem jA.aside {S cap i:Nat} (h:jA w S g cap ls) (f:qm w N t) (d:¬FG t) (v:Value):jA (w.setCell ⟨N,i,none⟩ v) S g cap ls:=
 h.stay (fun k _ hu hk=>zO w ⟨N,i,none⟩ v k (fun e=>hk.ne f (fun e2=>d (e2▸hu)) e))
theorem sw (w:World) (n:Nat) (d:n<=1000):(w.alloc (.cells (madeCells #[.bool false] n) 4)).ownsRow w.heap.size 4 1 (.slice (some ⟨w.heap.size,0,none⟩) n n) n ((List.replicate n false).map Value.bool):=by
 rw[List.map_replicate,<-gA];exact⟨by simp[madeCells],Or.inr ⟨_,_,_,rfl,zB _,zN w _,zB _,by unfold maxLen;omega,by simp[madeCells],by rw[yw (by simp[madeCells])]⟩⟩
theorem DS {w6:World} {C Sb gcap:Nat} {cap:Int} {X:Qg} {tv:Value} (G:w6.heap[C]?=some (.cells #[.pointer (some ⟨Sb,0,none⟩),iv,.int .i64 cap,.slice none 0 0,.slice none 0 0,.int .i64 0,.int .i64 0,.slice none 0 0] 109 (0,0))) (V:jA w6 Sb g gcap ls) (L:w6.ownsRow B 3 1 iv S.input.length (xR S.input)) (D:Xd w6 B (ZN zL S 0) X) (J:w6.ownsRow B 72 7 tv 1 (jh X.fv X.vv X.cv X.ov (ZN zL S 0)).toList) (U:Below B w w6) (A:B<=C) (W:ls.length<=100):vg (((w6.setCell ⟨C,3,none⟩ tv).setCell ⟨C,7,none⟩ (.slice (some ⟨w6.heap.size,0,none⟩) (ls.length+1) (ls.length+1))).alloc (.cells (madeCells #[.bool false] (ls.length+1)) 4)) C zL ls S cap 0 0 0 (List.replicate (ls.length+1) false) ⟨Sb,g,gcap,iv,tv,.slice none 0 0,.slice (some ⟨w6.heap.size,0,none⟩) (ls.length+1) (ls.length+1),[X]⟩/\
  Below B w (((w6.setCell ⟨C,3,none⟩ tv).setCell ⟨C,7,none⟩ (.slice (some ⟨w6.heap.size,0,none⟩) (ls.length+1) (ls.length+1))).alloc (.cells (madeCells #[.bool false] (ls.length+1)) 4))/\∀k∈Dt zL S C ⟨Sb,g,gcap,iv,tv,.slice none 0 0,.slice (some ⟨w6.heap.size,0,none⟩) (ls.length+1) (ls.length+1),[X]⟩,B<=k:=by
 have R:=zQ G;have I:=yx (yx U A 3 tv) A 7 (.slice (some ⟨w6.heap.size,0,none⟩) (ls.length+1) (ls.length+1));have N:=zf (zf G 3 tv) 7 (.slice (some ⟨w6.heap.size,0,none⟩) (ls.length+1) (ls.length+1));have M:=(V.aside (i:=3) (qm.intro G) (by unfold FG;decide) tv).aside (i:=7) (qm.intro (zf G 3 tv)) (by unfold FG;decide) (.slice (some ⟨w6.heap.size,0,none⟩) (ls.length+1) (ls.length+1));have x:∀k,k≠C->((w6.setCell ⟨C,3,none⟩ tv).setCell ⟨C,7,none⟩ (.slice (some ⟨w6.heap.size,0,none⟩) (ls.length+1) (ls.length+1))).heap[k]?=w6.heap[k]?:=fun k hk=>(zO _ ⟨C,7,none⟩ _ k hk).trans (zO _ ⟨C,3,none⟩ _ k hk);have F:((w6.setCell ⟨C,3,none⟩ tv).setCell ⟨C,7,none⟩ (.slice (some ⟨w6.heap.size,0,none⟩) (ls.length+1) (ls.length+1))).heap.size=w6.heap.size:=by simp[World.setCell]
 have y:∀{B:Nat} {t:TypeId} {z m:Nat} {v:Value} {xs:List Value},w6.ownsRow B t z v m xs->t≠109->∀q,v.ownBlock=some q->q≠C:=fun hr ht q hq e=>by
  obtain⟨Z,d⟩:=yW hr hq;rw[e,G]at d;injection d with d;injection d with _ d;exact ht d.symm
 generalize (w6.setCell ⟨C,3,none⟩ tv).setCell ⟨C,7,none⟩ (.slice (some ⟨w6.heap.size,0,none⟩) (ls.length+1) (ls.length+1))=w8 at *;have h:=sw w8 (ls.length+1) (by omega);have f:=(zI w8.heap.size w8).alloc (zB _) (.cells (madeCells #[.bool false] (ls.length+1)) 4);rw[F]at h;refine⟨⟨by have:=zU N f;simpa[Du] using this,M.zP f,vr (yG (yP L (fun q hq=>x q (y L (by decide) q hq))) f),?_,rfl,fun i hi=>?_,zW _ _ _ _,by rw[qN];exact vr h,fun q hq=>by simp[Value.ownBlock]at hq⟩,I.trans (f.mono (by rw[F];omega)),?_⟩
 ·have:=vr (yG (yP J (fun q hq=>x q (y J (by decide) q hq))) f);simpa[trC] using this
 ·have O:i=0:=by simp at hi;omega
  subst O;refine Xd.zP (w:=w8) ⟨⟨fun r hr=>yP (D.own.rows r hr) (fun q hq=>x q (y (D.own.rows r hr) (by rcases Yr hr with e | e | e <;> rw[e] <;> decide) q hq)),D.own.apart⟩,D.fl,D.cl,fun _ _=>zo _⟩ f
 ·intro k hk;have H:∀{o:Option Nat} {g:Nat},g∈o.toList->o=some g:=fun hg=>by simpa using hg
  rcases zd.mp hk with hk | hk
  ·rcases zw.mp hk with rfl | hk
   ·exact A
   ·rcases zd.mp hk with hk | hk
    ·rcases zd.mp hk with hk | hk
     ·exact(J.lt k (H hk)).1
     ·simp[Value.ownBlock]at hk
    ·have:=H hk;simp[Value.ownBlock]at this;omega
  ·rcases zd.mp hk with hk | hk
   ·exact(L.lt k (H hk)).1
   ·obtain⟨j,T,hg⟩:=nM hk;have O:j=0:=by simp at T;omega
    subst O;exact D.new k hg
theorem lq:(Tryz.prog.info? 72).map (fun i=>(i.zero,i.size,i.bytes))=some (some (.agg #[.slice none 0 0,.slice none 0 0,.slice none 0 0,.int .i64 0,.slice none 0 0,.int .i64 0,.int .i64 0]),7,120):=by kernel_rfl
theorem A1:(Tryz.prog.info? 4).map (fun i=>(i.zero,i.size,i.bytes))=some (some (.bool false),1,1):=by kernel_rfl
abbrev zCu (S:Nat) (cap:Int):Array Value:=#[.pointer (some ⟨S,0,none⟩),.slice none 0 0,.int .i64 cap,.slice none 0 0,.slice none 0 0,.int .i64 0,.int .i64 0,.slice none 0 0]
theorem tf (s:ByteArray) (cap:Int) (hs:s.size<=maxLen) (hi:kA w iv qo) (hR:Rt.qx s=(0,0,zL)) (hl:qo.length<=100) (hc:5<=cap/\cap<=500) (a1:(vP s).2.2=ls) (hS:Zs s zL qo=S):Calls Tryz.prog 31 #[.string s,iv,.int .i64 cap] w fun e w'=>Below w.heap.size w w'/\∃C Y,e=.returned (.tuple #[.pointer (some ⟨C,0,none⟩),.int .i64 0,.int .i64 0])/\vg w' C zL ls S cap 0 0 0 (List.replicate (ls.length+1) false) Y/\Lawful ls/\∀k∈Dt zL S C Y,w.heap.size<=k:=by
 have HI:=zD hi;obtain⟨g3,f7,rfl⟩:=hi.form;have b2:(vP s).1=0:=by rw[<-(eR s).1,hR]
 have g7:¬cap < 5:=by omega
 have g6:¬500 < cap:=by omega
 clear hi;go_enter func31,ntmps31;go_wp2_with fail;refine(dB s hs HI.u).mono ?_;rintro e w1 (⟨h,_⟩| ⟨_,b1,(⟨h0,_⟩| ⟨_,_,V,_,L,Sb,g,g0,rfl,hG⟩)⟩)
 ·omega
 ·exact absurd b2 h0
 have hC:=DT qo hR (V.lawful L);rw[a1]at hG L;rw[a1,hS]at hC;generalize (Rt.rForms 0 (Rt.lines s) [Rt.kb]).2.drop 1=ps at *;obtain⟨f5,D,hD,f6,b3⟩:=gU hC;have T:=zD hC;have d7:S.input=qo:=by rw[<-hS];rfl
 clear a1 hS;have a9:=(zI w1.heap.size w1).alloc (zB _) (.cells (zCu Sb cap) 109);have a6:=zN w1 (.cells (zCu Sb cap) 109);have U:=gN hG b1 a9 a6;clear hG b1 hC V f5 b2 hR a9 a6;go_wp2_with fail;refine(Kd (HI.u.zP (U.u.2.1.trans (U.u.2.2.1.mono (B':=w.heap.size) U.u.2.1.size))) (by omega)).mono ?_;generalize w1.alloc (.cells (zCu Sb cap) 109)=wa at *;rintro e w2 ⟨a3,g2,rfl,o⟩;obtain⟨z,y,rfl⟩:=zK o;have d2:=U.u.2.2.1.size;have M:=U.u.2.2.1.trans (a3.mono (B':=w1.heap.size) d2);have I:=zU U.u.2.2.2 a3;have f9:=zQ I;have b4:=U.u.1.zP M;obtain⟨c0,c1,c2,c3,c4,c5,c6,c7⟩:=xH I;have z2:=zS I;have O:=zf I 1 (.slice z qo.length y);have A:=b4.aside (N:=w1.heap.size) (i:=1) (qm.intro I) (by unfold FG;decide) (.slice z qo.length y);have F:=yx M (zB _) 1 (.slice z qo.length y);have f:=yP (w':=w2.setCell ⟨w1.heap.size,1,none⟩ (.slice z qo.length y)) o (fun q hq=>zO w2 ⟨w1.heap.size,1,none⟩ _ q (by
  show q≠w1.heap.size;have h1:=(o.lt q hq).1;have h2:=zQ U.u.2.2.2;omega))
 have g4:(w2.setCell ⟨w1.heap.size,1,none⟩ (.slice z qo.length y)).heap.size=w2.heap.size:=by simp[World.setCell]
 have a4:=gN O A F f;have b5:=zC O 3 (by simp);simp at b5;clear a3 o M I b4 O A F f;obtain⟨j0,d6,b8,b7,b6⟩:=yi lq;obtain⟨b0,d9,d1,d0,b9⟩:=yi A1;go_wp2_with fail;generalize w2.setCell ⟨w1.heap.size,1,none⟩ (.slice z qo.length y)=w3 at *;clear c0 c1 c2 c3 c4 c5 c6 c7 z2;go_region_law (first
  | (refine step_append_lies _ (by rfl) _ _ _ (by rfl) 0 72 j0 _ 7 120 underlying106 d6 b8 b7 b6 rfl (by decide) _ 0 [] (by rfl) (zW _ _ _ _) ⟨w4.heap.size,0,none⟩ 1 1 [.slice xa (qu ls D (Qr zL)).zH.length xc,.slice ya (qu ls D (Qr zL)).vars.length yc,.slice za (qu ls D (Qr zL)).cells.length zc,.int .i64 (qu ls D (Qr zL)).read,.slice oa (qu ls D (Qr zL)).out.length oc,.int .i64 (qu ls D (Qr zL)).line,.int .i64 (qu ls D (Qr zL)).fin] (by rfl) (by rfl) (World.news_of_block (fr:=(0,0)) (zN w4 _)) (by simp[Value.oneCell']) (by omega) (by unfold maxLen;omega) (by omega) (zo _) (w4.heap.size+1) (by simp) ?_;intro g' cap' w6 J d hat a7;have bC:=(d.block w1.heap.size (by have:=zQ HX4.u.2.2;simp;omega) (by simp[Value.ownBlock])).trans (yR HX4.u.2.2 _);have d3:w6.cell? ⟨w1.heap.size,3,none⟩=some (.slice none 0 0):=(by have:=zC bC 3 (by simp);simpa using this);have e3:=zS bC 3)
  | (go_simp;go_wp2_with (go_at_call 54;refine(A6 D (Qr zL) (a4.u.2.1.zP (zh _)) T.u.law T.u.both.nested hD f6 (fun k hk=>(rM T.u hk).1) (fun k hk=>(rM T.u hk).2)).mono ?_;rintro e w4 ⟨a0,fv,vv,cv,ov,rfl,f0⟩;have x:=yh a0;obtain⟨_,_,xg,kB,G⟩:=f0;obtain⟨xa,xc,ya,yc,za,zc,oa,oc,f1,f2,f3,f4⟩:=G.ZX;simp only at f1 f2 f3 f4;subst f1 f2 f3 f4;have c4:=cell_later x b5;have H:=zU a4.u.1 x;have z4:=zS H;have l4:=zQ H;have n4:¬w1.heap.size=w4.heap.size:=(by omega);have HX4:=XX x G H;clear a0 x G H;unfold jh)))
 all_goals
  obtain⟨x,G,H⟩:=HX4.u;obtain⟨O,A,F,f⟩:=a4.u;have a2:Below w4.heap.size w4 w6:=⟨d.os,d.tape,d.output,zi (by simp) d.size,fun k hk=>(d.block k (by simp;omega) (by simp[Value.ownBlock])).trans (G2 _ _ hk)⟩;have d8:g'=w4.heap.size+1:=by rcases hat with h | h;simp[Value.ownBlock]at h;exact h
  have a5:=U.u.2.1.size;have d4:=x.size;have f8:=F.size;have j:=x.trans (a2.mono (B':=w3.heap.size) d4);have a8:Below w.heap.size w w6:=U.u.2.1.trans ((F.mono (B':=w.heap.size) a5).trans (j.mono (B':=w.heap.size) (by omega)));have Z:=DS (zL:=zL) (S:=S) (B:=w.heap.size) (w:=w) (cap:=cap) (C:=w1.heap.size) (iv:=.slice z qo.length y) (tv:=.slice (some ⟨g',0,none⟩) 1 cap') (X:=⟨_,_,_,_,xg,kB⟩) (by simpa using bC) (A.zP j) (by rw[d7];exact yn (yG f j) (by omega)) (by have:=(G.zP a2).mono (B':=w.heap.size) (by show w.heap.size<=w3.heap.size;omega);rw[<-b3]at this;exact this) (by have:=Je J (b':=w.heap.size) (fun q hq=>by simp[Value.ownBlock]at hq;omega);rw[<-b3]at this;exact this) a8 a5 (by omega);have cS:=(A.zP j).top;have nS:=(qm.intro bC).ne (A.zP j).ty.1 (by decide);have g1:=xK nS;have c7:w6.cell? ⟨w1.heap.size,7,none⟩=some (.slice none 0 0):=by have:=zC bC 7 (by simp);simpa using this
  have e7:=zS bC 7;have l6:=zQ bC;have n6:¬w1.heap.size=w6.heap.size:=by omega
  have d5:=fun W=>run_make_row (P:=Tryz.prog) 107 4 b0 (.bool false) underlying107 d9 d1 d0 rfl .i64 .i64 (ls.length+1) (by rw[b9];omega) (by omega) W;rw[show ((ls.length+1:Nat):Int)=(ls.length:Int)+1 from rfl]at d5;have g5:IntKind.i64.wrap ((ls.length:Int)+1)=(ls.length:Int)+1:=zl _ ⟨by omega,by omega⟩;have R:=zD Z;clear x G H O A F f a2 d8 j a8 Z d hat a7 J bC d3 e3 c4 z4 l4 n4 HX4;go_wp2_with fail;go_ret3;exact⟨R.u.2.1,_,_,rfl,R.u.1,T.u.law,R.u.2.2⟩
theorem sf (s:ByteArray) (qo:List Int) (cap:Int):(100 < qo.length/\CX s qo cap=(1,0))\/(qo.length<=100/\¬(Rt.qx s).1=0/\CX s qo cap=((Rt.qx s).1,(Rt.qx s).2.1))\/(qo.length<=100/\Rt.qx s=(0,0,(Rt.qx s).2.2)/\(cap < 5\/500 < cap)/\CX s qo cap=(6,0))\/(qo.length<=100/\Rt.qx s=(0,0,(Rt.qx s).2.2)/\(5<=cap/\cap<=500)/\CX s qo cap=(0,0)):=by
 unfold CX;by_cases hl:100 < qo.length
 ·exact Or.inl ⟨hl,zE hl⟩
 ·rw[zA hl];by_cases h0:(Rt.qx s).1=0
  ·rw[zA (kW h0)];by_cases hc:cap < 5\/500 < cap
   ·exact Or.inr (Or.inr (Or.inl ⟨by omega,Rt.uS h0,hc,zE hc⟩))
   ·exact Or.inr (Or.inr (Or.inr ⟨by omega,Rt.uS h0,by omega,zA hc⟩))
  ·exact Or.inr (Or.inl ⟨by omega,h0,zE h0⟩)
theorem aI (s:ByteArray) (cap:Int) (y:s.size<=maxLen) (j:kA w iv qo) (er ln:Int) (h:(100 < qo.length/\er=1/\ln=0)\/(qo.length<=100/\¬er=0/\∃zL,Rt.qx s=(er,ln,zL))):Calls Tryz.prog 30 #[.string s,iv,.int .i64 cap] w fun e w'=>e=.returned (.tuple #[.pointer none,.int .i64 er,.int .i64 ln])/\Below w.heap.size w w':=by
 have D:=zD j;obtain⟨x,i,rfl,_⟩:=j;have z:(er != 0)=true:=by rcases h with⟨_,rfl,_⟩| ⟨_,h,_⟩ <;> simp_all
 have HH:=zD h;clear h;go_enter func30,ntmps30;go_wp2_with fail;refine(nC s y D.u (fun p hp=>tQ hp)).mono ?_;rintro e w1 ⟨d,hcase⟩;have he:e=.returned (.tuple #[.agg KC,.int .i64 er,.int .i64 ln]):=by
  rcases HH.u with⟨h1,h2,h3⟩| ⟨h1,h2,p,h3⟩
  ·subst h2 h3;rcases hcase with⟨_,he⟩| ⟨h,_⟩
   ·exact he
   ·omega
  ·rcases hcase with⟨h,_⟩| ⟨_,A,k,f,hR,hc⟩
   ·omega
   ·rw[h3]at hR;injection hR with e1 hR;injection hR with e2 _;subst e1 e2;rcases hc with⟨_,he⟩| ⟨h0,_⟩
    ·exact he
    ·exact absurd h0 h2
 subst he;have F:=zD (fun o=>d.alloc d.size o);clear hcase;go_wp2_with fail;go_ret3;exact⟨rfl,F.u _⟩
theorem Bz (s:ByteArray) (cap:Int) (U:s.size<=maxLen) (D:kA w iv qo) (hR:Rt.qx s=(0,0,zL)) (hl:qo.length<=100) (hc:cap < 5\/500 < cap):Calls Tryz.prog 30 #[.string s,iv,.int .i64 cap] w fun e w'=>e=.returned (.tuple #[.pointer none,.int .i64 6,.int .i64 0])/\Below w.heap.size w w':=by
 have Z:=zD D;obtain⟨O,A,rfl,_⟩:=D;go_enter func30,ntmps30;go_wp2_with fail;refine(nC s U Z.u (fun p hp=>tQ hp)).mono ?_;rintro e w1 ⟨h,hcase⟩;rcases hcase with⟨hlt,_⟩| ⟨_,er,ln,z,f,hcc⟩
 ·exact absurd hlt (by omega)
 rw[hR]at f;injection f with e1 f;injection f with e2 e3;subst e1 e2 e3;rcases hcc with⟨h0,_⟩| ⟨_,_,hlen,M0,X,rfl,hM0,hblk,hmc⟩
 ·exact absurd rfl h0
 obtain⟨M,L,R,N,W,V,H,G,J,I,y,x,k,j,i⟩:=hmc.shape;generalize Rt.firstM (Zs s zL qo)=m0 at *;have d:xC X m0 []=#[.slice M zL.length L,.slice R qo.length N,.slice W m0.zH.length V,.slice H m0.values.length G,.int .i64 m0.taken,.slice J m0.output.length I,.int .i64 m0.line,.int .i64 m0.fin]:=by
  simp only[xC,y,x,k,j,i,Zs,qR];rfl
 rw[d];have F:=zD (fun o=>h.alloc h.size o);clear hmc d y x k j i hR hblk;by_cases hz:cap < 5
 ·go_wp2_with fail;go_ret3;exact⟨rfl,F.u _⟩
 ·have T:500 < cap:=by omega
  go_wp2_with fail;go_ret3;exact⟨rfl,F.u _⟩
def Ba:List Bool:=List.replicate 101 false
theorem Ft {s:ByteArray} (d:Rt.qx s=(0,0,zL)) (f:qo.length<=100):Be (Zs s zL qo):=⟨ui d f,Dd d,ph (ui d f)⟩
theorem EB (s:ByteArray) (cap:Int) (h:s.size<=maxLen) (f:kA w iv qo) (A:Rt.qx s=(0,0,zL)) (j:qo.length<=100) (x:5<=cap/\cap<=500):Calls Tryz.prog 30 #[.string s,iv,.int .i64 cap] w fun e w'=>Below w.heap.size w w'/\∃P B X jv,e=.returned (.tuple #[.pointer (some ⟨P,0,none⟩),.int .i64 0,.int .i64 0])/\(∀k∈J7 P X jv,w.heap.size<=k)/\Jx w' P B (Zs s zL qo) cap 0 0 Ba X jv:=by
 refine(B0 s cap zL h f A j x).mono ?_;rintro e w' ⟨y,P,B,X,o,D,z,d⟩;refine⟨y,P,B,X,.slice none 0 0,o,fun k hk=>?_,d,⟨fun i f=>by omega,zB _,?_⟩⟩
 ·rcases eV hk with e | e | e
  ·omega
  ·exact z k e
  ·cases e
 ·show ((0:Nat):Int)<=cap;omega
theorem Cc (w:World) (P:Nat) (l:Int) (d:l < 0\/101<=l):Calls Tryz.prog 63 #[.pointer (some ⟨P,0,none⟩),.int .i64 l] w fun e w'=>e=.returned (.tuple #[.bool false,.int .i64 8])/\Below w.heap.size w w':=by
 by_cases h0:l < 0
 ·go_enter func63,ntmps63;go_wp2_with fail;refine zT (v:=.tuple #[.bool false,.int .i64 8]) ?_ rfl ⟨rfl,zI _ _⟩;simp[results,results63,go_sem]
 ·have f:(101:Int)<=l:=by omega
  go_enter func63,ntmps63;go_wp2_with fail;refine zT (v:=.tuple #[.bool false,.int .i64 8]) ?_ rfl ⟨rfl,zI _ _⟩;simp[results,results63,go_sem]
def eF (t:TypeId):Prop:=t=105\/t=3\/t=153\/t=24\/t=162\/t=109\/t=72\/t=4\/t=30\/t=36
theorem eF.notP (h:eF t):¬Xe t:=by
 unfold eF at h;unfold Xe;rcases h with rfl | rfl | rfl | rfl | rfl | rfl | rfl | rfl | rfl | rfl <;> decide
theorem eF.notS (h:eF t):¬FG t:=by
 unfold eF at h;unfold FG;rcases h with rfl | rfl | rfl | rfl | rfl | rfl | rfl | rfl | rfl | rfl <;> decide
section
variable {w w':World} {P B:Nat} {S:Rt.Src} {cap:Int} {n low:Nat} {mk:List Bool} {X:ZK} {jv:Value}
theorem Jx.mty (h:Jx w P B S cap n low mk X jv) {k:Nat} (hk:k∈J7 P X jv):∃t,qm w k t/\eF t:=by
 rcases eV hk with e | e | e
 ·exact⟨_,⟨_,by rw[e];exact h.Yo.mc.block⟩,Or.inl rfl⟩
 ·rw[<-h.Yo.mc.xh]at e;obtain⟨r,hr,d⟩:=ju.mp e;refine⟨r.t,yW (h.Yo.mc.own.rows r hr) d,?_⟩;rcases JF hr with e | e | e <;> rw[e] <;> simp[eF]
 ·exact⟨_,yW h.Yo.jr e,by simp[eF]⟩
theorem Jx.stay (h:Jx w P B S cap n low mk X jv) (hs:w.heap.size<=w'.heap.size) (hk:∀k∈J7 P X jv,w'.heap[k]?=w.heap[k]?) (i:∀k t,Xe t->qm w k t->w'.heap[k]?=w.heap[k]?):Jx w' P B S cap n low mk X jv:=by
 refine⟨⟨h.Yo.mc.next ((hk P (K2 (Or.inl rfl))).trans h.Yo.mc.block) hs ?_ ⟨fun r hr=>yP (h.Yo.mc.own.rows r hr) (fun g hg=>hk g (K2 (Or.inr (Or.inl ?_)))),h.Yo.mc.own.apart⟩ rfl rfl h.Yo.mc.fl h.Yo.mc.vl,yP h.Yo.jr (fun g hg=>hk g (K2 (Or.inr (Or.inr hg))))⟩,h.ok⟩
 ·rintro k x d _ ⟨c,t,rfl,f⟩;exact(i k t f ⟨c,d⟩).trans d
 ·rw[<-h.Yo.mc.xh];exact ju.mpr ⟨r,hr,hg⟩
theorem Jx.held (h:Jx w P B S cap n low mk X jv):Calls Tryz.prog 61 #[.pointer (some ⟨P,0,none⟩)] w fun e w'=>e=.returned (.tuple #[.int .i64 (low:Int),.int .i64 ((xT S low (n-low)).length:Int)])/\w'=w:=C9 h.Yo
end
end Go.Proofs.YthleadfkfnnadaaGreat
