/- The law: Looks. -/
import Derived.Test.YthleadfkfnnadaaGreatLnI
set_option maxHeartbeats 4000000
set_option maxRecDepth 100000
set_option linter.unusedSimpArgs false
namespace Go.Proofs.YthleadfkfnnadaaGreat
open Rf Rt Go.Proofs.Tryz
open Go.RowKit
attribute [local go_sem ↓] Go.wp_at_zero Go.wp_at_succ
variable {S i:Nat} {op:rS} {s:mU} {w:World}
theorem iI.stepW {k:Nat} (h:iI S w k) (d:rS) (D:5<=d.kind) (x:kA w d.v d.l) (H:-9223372036854775808<=d.a/\d.a<=9223372036854775807) (A:k<=2000000000000) (N:∀(w1:World) (pv lv:Value) (vs:List Value) (prs:List mU) (tag:Nat->Nat) (i:Nat) (x:i < prs.length),WI w1 S pv lv vs prs tag->vs.length<=2*k->Below w.heap.size w w1->Calls Tryz.prog 17 #[.pointer (some ⟨S,0,none⟩),.pointer (some ⟨prs[i].q,0,none⟩),iO d] w1 (bf S vs prs w1)):Calls Tryz.prog 10 #[.pointer (some ⟨S,0,none⟩),iO d] w fun e w'=>e=.returned (.bool true)/\Below S w w'/\iI S w' (k+1):=by
 obtain⟨pv,lv,vs,prs,tag,F,z,J,I⟩:=h;have fin:∀(vs:List Value) (prs:List mU),vs.length<=2*k->prs.length<=k->(∀s∈prs,s.len<=1000*k)->∀e w',bf S vs prs w e w'->e=.returned (.bool true)/\Below S w w'/\iI S w' (k+1):=by
  rintro vs prs R O G e w' ⟨rfl,y,pv',o,j,f,tag',M,U,T,L⟩;exact⟨rfl,y,pv',o,j,f,tag',M,by omega,by omega,fun s hs=>by have:=L _ G s hs;omega⟩
 by_cases h0:prs=[]
 ·subst h0;exact(wR tag D F x).mono (fin vs [] z (by simp) (by simp))
 ·exact(Bu tag D F x (kO.mpr h0) (by omega) H (fun w1 i hi' hW y=>N w1 pv lv vs prs tag i hi' hW z y)).mono (fin vs prs z J I)
theorem ListW.step {pv:Value} {vs:List Value} {prs:List mU} {w1 w2:World} {e:Ending} (h:ListW S pv vs prs w1 e w2) (j:Below S w w1):bf S vs prs w e w2:=by
 obtain⟨i,o,f,d,tag',k,x⟩:=h;exact⟨i,j.trans o,pv,f,d,prs,tag',k,by omega,by omega,fun M hM s hs=>by have:=hM s hs;omega⟩
section
variable {S:Nat} {pv lv:Value} {vs:List Value} {prs:List mU} {tag:Nat -> Nat}
theorem session_calls (h:WI w S pv lv vs prs tag) (hi:i < prs.length) (R:op.kind=10) (x:∃a n c,op.v=.slice a n c) (y:(vs.length+2)*24<=140737488355328):Calls Tryz.prog 17 #[.pointer (some ⟨S,0,none⟩),.pointer (some ⟨prs[i].q,0,none⟩),iO op] w (bf S vs prs w):=by
 obtain⟨kd,O,N,M,L,ov,ol⟩:=op;simp only at R x;obtain⟨a,n,c,rfl⟩:=x;subst R;unfold iO;simp only;have o:=(zI w.heap.size w).alloc (zB _) (.cells #[.int .i64 10,.int .i64 O,.int .i64 N,.int .i64 M,.string L,.slice a n c] 32);have T:=zQ h.lg.block;have H:=h.zP o;have f:=H.each i hi;have J:=zC f.pair 0 (by simp);have D:=zC f.pair 1 (by simp);simp only[yQ,zv,yH]at J D;have z:=XX H f o;have I:=zD (sCalls_any f.Yo.Yo f.qT.Zi.zH f.qT.lo);have HD:=zD (fun w1 (h1:vf w1 prs[i])=>ccalls_ref h1.cur h1.le h1.env);rw[show (XY prs[i].S prs[i].n prs[i].low prs[i].Yw).m=Rt.atM prs[i].S prs[i].n from rfl]at I;have G:(Rt.G3 (Rt.atM prs[i].S prs[i].n)).length<=1000:=by
  have:=f.qT.Zi.zH;unfold Rt.G3;simp;omega
 clear h H f o;generalize Rt.G3 (Rt.atM prs[i].S prs[i].n)=cl at *;go_enter func17,ntmps17;go_wp2_with fail;refine I.u.mono ?_;generalize w.alloc (.cells #[.int .i64 10,.int .i64 O,.int .i64 N,.int .i64 M,.string L,.slice a n c] 32)=wa at *;rintro e w1 ⟨k,v,rfl,x⟩;obtain⟨Z,W,rfl⟩:=zK x;have d1:=cell_later k D;have A:=qG k x;clear k x J D I;go_wp2_with fail;refine(HD.u w1 (z.u.2.1.zP A.u.1)).mono ?_;rintro e w2 ⟨j,m,rfl,F⟩;obtain⟨a1,a0,rfl⟩:=F.form;have d:=XX (A.u.1.trans (j.mono (B':=wa.heap.size) A.u.1.size)) (yG A.u.2 j) F;clear j F d1;go_wp2_with fail;refine(listW_ref z.u.1 d.u.1 d.u.2.1 d.u.2.2 G y).mono ?_;intro e w3 U;have V:=U.step ((z.u.2.2.mono (B':=S) (by omega)).trans (d.u.1.mono (B':=S) (by have:=z.u.2.2.size;omega)));obtain⟨rfl,_⟩:=U;have HF:=zD V;clear V;go_wp2;go_ret;exact HF.u
theorem session_output (h:WI w S pv lv vs prs tag) (hi:i < prs.length) (hk:op.kind=11) (A:∃a n c,op.v=.slice a n c) (I:(vs.length+2)*24<=140737488355328):Calls Tryz.prog 17 #[.pointer (some ⟨S,0,none⟩),.pointer (some ⟨prs[i].q,0,none⟩),iO op] w (bf S vs prs w):=by
 obtain⟨kd,oa,ob,oc,os,ov,ol⟩:=op;simp only at hk A;obtain⟨a,n,c,rfl⟩:=A;subst hk;unfold iO;simp only;have z:=(zI w.heap.size w).alloc (zB _) (.cells #[.int .i64 11,.int .i64 oa,.int .i64 ob,.int .i64 oc,.string os,.slice a n c] 32);have a0:=zQ h.lg.block;have T:=h.zP z;have k:=T.each i hi;have p0:=zC k.pair 0 (by simp);have N:=zC k.pair 1 (by simp);simp only[yQ,zv,yH]at p0 N;have L:=XX T k z;have V:=zD (sOutput_any k.Yo.Yo k.qT.Zi.output);have HD:=zD (fun w1 (h1:vf w1 prs[i])=>AD h1.cur h1.le);have H:V9 prs[i].ls (ZN prs[i].zL prs[i].S prs[i].n):=k.env.ok;rw[show (XY prs[i].S prs[i].n prs[i].low prs[i].Yw).m.output=(ZN prs[i].zL prs[i].S prs[i].n).out from rfl]at V;have R:(ZN prs[i].zL prs[i].S prs[i].n).out.length<=1000:=k.qT.Zi.output;clear h T k z;generalize ZN prs[i].zL prs[i].S prs[i].n=p at *;have J:=zD H;clear H;go_enter func17,ntmps17;go_wp2_with fail;refine V.u.mono ?_;generalize w.alloc (.cells #[.int .i64 11,.int .i64 oa,.int .i64 ob,.int .i64 oc,.string os,.slice a n c] 32)=wa at *;rintro e w1 ⟨y,v,rfl,A⟩;obtain⟨a2,a1,rfl⟩:=zK A;have d1:=cell_later y N;have M:=qG y A;clear y A p0 N V;go_wp2_with fail;refine(HD.u w1 (L.u.2.1.zP M.u.1)).mono ?_;rintro e w2 ⟨f,X,_,O,rfl⟩;obtain⟨xa,xc,ya,yc,Z,W,F,D,f1,f2,f3,f4⟩:=O.ZX;have G:jh X.fv X.vv X.cv X.ov p=#[.slice xa p.zH.length xc,.slice ya p.vars.length yc,.slice Z p.cells.length W,.int .i64 p.read,.slice F p.out.length D,.int .i64 p.line,.int .i64 p.fin]:=by rw[f1,f2,f3,f4];rfl
 have d:=(zI w2.heap.size w2).alloc (zB _) (.cells (jh X.fv X.vv X.cv X.ov p) 72);have U:=(((O.zP f).zP d).val J.u.some (by have:=J.u.cells;omega)).at (zN w2 (.cells (jh X.fv X.vv X.cv X.ov p) 72));rw[G]at d U ⊢;obtain⟨ov,o1,o⟩:=U.out;obtain⟨a4,a3,rfl⟩:=o.form;have x:=f.trans (d.mono (B':=w1.heap.size) f.size);have j:=XX (M.u.1.trans (x.mono (B':=wa.heap.size) M.u.1.size)) (yG M.u.2 x) o;clear f O f1 f2 f3 f4 G d U o x d1;go_wp2_with fail;generalize w2.alloc (.cells #[.slice xa p.zH.length xc,.slice ya p.vars.length yc,.slice Z p.cells.length W,.int .i64 p.read,.slice F p.out.length D,.int .i64 p.line,.int .i64 p.fin] 72)=wb at *;refine(listW_ref L.u.1 j.u.1 j.u.2.1 j.u.2.2 R I).mono ?_;intro e w3 hL;have hF:=hL.step ((L.u.2.2.mono (B':=S) (by omega)).trans (j.u.1.mono (B':=S) (by have:=L.u.2.2.size;omega)));obtain⟨rfl,_⟩:=hL;have HF:=zD hF;clear hF;go_wp2;go_ret;exact HF.u
end
theorem session_value (h:vf w s) (k:op.kind=8) (o:∃a n c,op.v=.slice a n c):Calls Tryz.prog 17 #[.pointer (some ⟨S,0,none⟩),.pointer (some ⟨s.q,0,none⟩),iO op] w fun e w'=>e=.returned (.bool true)/\∃s',YJ s s' w w':=by
 obtain⟨F,z,y,x,j,ov,D⟩:=op;simp only at k o;obtain⟨a,n,c,rfl⟩:=o;subst k;unfold iO;simp only;have f:=(zI w.heap.size w).alloc (zB _) (.cells #[.int .i64 8,.int .i64 z,.int .i64 y,.int .i64 x,.string j,.slice a n c] 32);have i:=qG h f;clear h f;go_enter func17,ntmps17;go_wp2_with fail;refine(valued_ref (i.u.1.zP i.u.2) j).mono ?_;rintro e w1 ⟨rfl,d⟩;have A:=zD (YJ.below i.u.1 (i.u.2.trans (d.mono i.u.2.size)));clear d;go_wp2;go_ret;exact⟨rfl,_,A.u⟩
theorem session_cell (h:vf w s) (o:op.kind=9) (x:∃a n c,op.v=.slice a n c):Calls Tryz.prog 17 #[.pointer (some ⟨S,0,none⟩),.pointer (some ⟨s.q,0,none⟩),iO op] w fun e w'=>e=.returned (.bool true)/\∃s',YJ s s' w w':=by
 obtain⟨F,z,k,y,j,ov,D⟩:=op;simp only at o x;obtain⟨a,n,c,rfl⟩:=x;subst o;unfold iO;simp only;have f:=(zI w.heap.size w).alloc (zB _) (.cells #[.int .i64 9,.int .i64 z,.int .i64 k,.int .i64 y,.string j,.slice a n c] 32);have i:=qG h f;clear h f;go_enter func17,ntmps17;go_wp2_with fail;refine(celled_ref (i.u.1.zP i.u.2) j k).mono ?_;rintro e w1 ⟨rfl,d⟩;have A:=zD (YJ.below i.u.1 (i.u.2.trans (d.mono i.u.2.size)));clear d;go_wp2;go_ret;exact⟨rfl,_,A.u⟩
theorem Looks_ref {v:Value} {ops:List rS} (h:BX w v ops) (G:ops.length<=1048576):Calls Tryz.prog 6 #[v] w fun e w'=>e=.returned (.bool true)/\Below w.heap.size w w':=by
 have H:=zD h;obtain⟨J,cap,rfl,_⟩:=h.cells;have z:=(zI w.heap.size w).alloc (zB _) (.cells #[.int .i64 4,.int .i64 5,.int .i64 6,.int .i64 8,.int .i64 9,.int .i64 10,.int .i64 11] 3);have x:=zN w (.cells #[.int .i64 4,.int .i64 5,.int .i64 6,.int .i64 8,.int .i64 9,.int .i64 10,.int .i64 11] 3);have d:=qG z x;clear z x h;go_enter func6,ntmps6;go_wp2_with fail;have A:=H.u.zP d.u.1;refine(AB (ops:=ops) (ks:=[4,5,6,8,9,10,11]) _ A (fun j hj=>by
  have D:j=0\/j=1\/j=2\/j=3\/j=4\/j=5\/j=6:=by simp at hj;omega
  rcases D with rfl | rfl | rfl | rfl | rfl | rfl | rfl
  ·exact zC d.u.2 0 (by simp)
  ·exact zC d.u.2 1 (by simp)
  ·exact zC d.u.2 2 (by simp)
  ·exact zC d.u.2 3 (by simp)
  ·exact zC d.u.2 4 (by simp)
  ·exact zC d.u.2 5 (by simp)
  ·exact zC d.u.2 6 (by simp)) (by simp) (by omega) (fun w' h1 _=>ses_start h1) (we ops (by omega) (fun w1 k hk hm hI hb=>?_))).mono ?_
 ·have F:=A.lst _ (zj hk);have f:=F.1.zP hb;have o:=(A.FN _ (zj hk)).1;simp only[zw,qb,Z2]at hm;rcases hm with hm | hm | hm | hm | hm | hm | hm
  ·exact hI.new _ hm f F.2 (A.str _ (zj hk)) (by omega)
  ·exact hI.step _ (by omega) f o (by omega) (fun w2 s hp hl hb2=>mo (w:=w2) hp hm (DE f))
  ·exact hI.step _ (by omega) f o (by omega) (fun w2 s hp hl hb2=>ny (w:=w2) hp hm (DE f) (by omega))
  ·exact hI.step _ (by omega) f o (by omega) (fun w2 s hp hl hb2=>session_value (w:=w2) hp hm (DE f))
  ·exact hI.step _ (by omega) f o (by omega) (fun w2 s hp hl hb2=>session_cell (w:=w2) hp hm (DE f))
  ·exact hI.stepW _ (by omega) f o (by omega) (fun w2 pv lv vs prs tag i hi2 hW hv hb2=>session_calls (w:=w2) hW hi2 hm (DE f) (by omega))
  ·exact hI.stepW _ (by omega) f o (by omega) (fun w2 pv lv vs prs tag i hi2 hW hv hb2=>session_output (w:=w2) hW hi2 hm (DE f) (by omega))
 ·rintro e w1 ⟨rfl,y⟩;have I:=zD (d.u.1.trans (y.mono d.u.1.size));clear y;go_wp2;go_ret;exact⟨rfl,I.u⟩
end Go.Proofs.YthleadfkfnnadaaGreat
