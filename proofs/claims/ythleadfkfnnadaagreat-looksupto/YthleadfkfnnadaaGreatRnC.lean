/- Run, of a source that calls nothing. -/
import Derived.Test.YthleadfkfnnadaaGreatNwA
set_option maxHeartbeats 4000000
set_option maxRecDepth 100000
set_option linter.unusedSimpArgs false
namespace Go.Proofs.YthleadfkfnnadaaGreat
open Rt Go.Proofs.Tryz
variable {s:ByteArray} {cs:List (List Value)} {qo:List Int} {tail:List Value} {X:ZK} {P B n M N:Nat} {lk:Qw} {m:Rt.Mc} {S:Rt.Src} {ty t:TypeId} {lv x0 x1 x2 x3 x4 x5 x6 x7:Value} {w w1:World}
section
open Go.RowKit
attribute [local go_sem ↓] Go.wp_at_zero Go.wp_at_succ
namespace Rt
def jK (p:PL):PL:={ p with yY:=[] }
end Rt
theorem vu.setT {acc:List Rt.PL} {p:Rt.PL} {r:List Rt.PL} {g cap:Nat} (h:vu w P B (acc++p::r) lk (.slice (some ⟨g,0,none⟩) n cap) cs) (hP:P≠g) (J:n=(acc++p::r).length):∃cs',vu (w.setCell ⟨g,acc.length*12,none⟩ (.slice none 0 0)) P B (acc++Rt.jK p::r) lk (.slice (some ⟨g,0,none⟩) n cap) cs':=by
 obtain⟨O,c,N,A,hl,hA,M,hC⟩:=h.lines.part;have d:∀k,k≠g->(w.setCell ⟨g,acc.length*12,none⟩ (.slice none 0 0)).heap[k]?=w.heap[k]?:=fun k hk=>zO w ⟨g,acc.length*12,none⟩ _ k hk;have G:Qc w (w.setCell ⟨g,acc.length*12,none⟩ (.slice none 0 0)) B B:=by
  intro ty H n' v xs o I;have y:=Ys I h.own o;exact yP I (fun g' hg'=>d g' (fun e=>y g' hg' (by rw[e];rfl)))
 have L:=M.len;obtain⟨tv,fv,T,R,D,h1,h2⟩:=M;have F:Kq w B (Rt.jK p) (c.set 0 (.slice none 0 0)):=by
  obtain⟨Z,iv,vv,U,z,hr⟩:=h2;subst z;subst D;exact⟨.slice none 0 0,_,T,R,rfl,zW _ _ _ _,⟨Z,iv,vv,U,rfl,hr⟩⟩
 refine⟨O++c.set 0 (.slice none 0 0)::N,⟨?_,?_,?_,ja.join _ _ _ _ _ _ (G.lines _ _ hA) (G.line F) (G.lines _ _ hC),?_,?_⟩⟩
 ·have:=h.lt;simpa[World.setCell] using this
 ·rw[xG (a:=⟨P,0,none⟩) (d P hP)];exact h.cell
 ·have f:=h.own;rw[<-J]at f;have j:cs.flatten=O.flatten++c++N.flatten:=by rw[A];simp
  rw[j]at f;have:=jP f 0 (.slice none 0 0) (by omega);rw[hl]at this;rw[show (acc++Rt.jK p::r).length=n by rw[J];simp];simpa using this
 ·intro g' n' cap' e i x hx;injection e with j e2 e3;injection j with j;injection j with j;subst j;obtain⟨W,V⟩:=h.gE g n cap rfl i x hx;rw[yy (by omega),yy (by omega)];exact⟨W,V⟩
 ·rw[h.len];simp
theorem DL {zL:List Rt.PL} (h:vu w P B zL lk lv cs) (D:lv.ownBlock≠some P) (M:zL.length<=101):Calls Tryz.prog 87 #[.pointer (some ⟨P,0,none⟩)] w fun e w'=>e=.returned (.tuple #[])/\(∃cs',vu w' P B (zL.map Rt.jK) lk lv cs')/\w.grownBy w' lv.ownBlock:=by
 go_enter func87,ntmps87;go_wp2_with fail;go_loopw [2] (fun i wr=>∃(k:Nat) (cs':List (List Value)),k<=zL.length/\i=.int .i64 k/\vu wr P B ((zL.take k).map Rt.jK++zL.drop k) lk lv cs'/\w.grownBy wr lv.ownBlock)
  (fun i _=>zL.length+1-(intOf i).toNat)
 case atStart=>exact⟨0,cs,zo _,rfl,by simpa using h,⟨rfl,rfl,rfl,zB _,fun _ _ _=>rfl⟩⟩
 case round=>
  clear h;obtain⟨k,cs',hk,rfl,d,x⟩:=hrel;have H:((zL.take k).map Rt.jK++zL.drop k).length=zL.length:=by simp;omega
  obtain⟨a4,R,f,cP⟩:=d.Q3;rw[H]at f cP;by_cases hlt:k < zL.length
  ·have F:(k:Int) < (zL.length:Int):=by omega
   have W:(0:Int)<=(k:Int):=by omega
   have J:(zL.take k).map Rt.jK++zL.drop k=(zL.take k).map Rt.jK++zL[k]::zL.drop (k+1):=by rw[zZ hlt]
   have A:(zL.take (k+1)).map Rt.jK++zL.drop (k+1)=(zL.take k).map Rt.jK++Rt.jK zL[k]::zL.drop (k+1):=by
    rw[kI,zJ hlt,yB,yK];rfl
   rw[J]at d;have z:((zL.take k).map Rt.jK).length=k:=by simp;omega
   obtain⟨g,cap,a0,a1,a2,a3,k0,k1,k2,k3,xe,xf,y,N,⟨T,-⟩,⟨Z,-⟩,-⟩:=d.get;rw[f]at y;injection y with e1 e2 e3;clear e2;subst e1 e3;rw[z]at T Z;have G:P≠g:=by rw[f]at D;intro e;exact D (by rw[e];rfl)
   have o:zL.length=((zL.take k).map Rt.jK++zL[k]::zL.drop (k+1)).length:=by rw[<-J,H]
   have j:=(f▸d).setT G o;rw[z,<-A,<-f]at j;have I:=qG j (gQ x (by rw[f];exact lF wr ⟨g,k*12,none⟩ (.slice none 0 0)));clear d x j J A H z o f G;generalize zL[k].yY.length=tl at *;go_wp2_with fail;go_roundw
   case rel=>
    obtain⟨⟨L,V⟩,U⟩:=I.u;exact⟨k+1,L,by omega,by go_num,V,U⟩
   case measure=>simp[intOf];omega
  ·have F:¬(k:Int) < (zL.length:Int):=by omega
   have O:(zL.take k).map Rt.jK++zL.drop k=zL.map Rt.jK:=by rw[yw (by omega),zp (by omega),yX]
   rw[O]at d;have I:=qG d x;clear d x O f H;go_wp2_with fail;go_end0;exact⟨rfl,⟨_,I.u.1⟩,I.u.2⟩
theorem jz.D1 {wx wy:World} (h:jz w M B ty tail S m X) (z:Below w.heap.size w wx) (i:Below wx.heap.size wx wy) (cv:Value) (zs:List Int) (I:wx.ownsRow w.heap.size 3 1 cv zs.length (xR zs)) (y:wy.grownBy w1 X.vv.ownBlock) (d:Value) (H:w1.ownsRow 0 24 1 d (m.values.length+1) (X.YR++[cv])) (a1:∀g,d.ownBlock=some g->X.vv.ownBlock=some g\/wx.heap.size<=g):jz (w1.setCell ⟨M,3,none⟩ d) M B ty tail S { m with values:=m.values++[zs] } { X with vv:=d,YR:=X.YR++[cv] }/\VM w (w1.setCell ⟨M,3,none⟩ d) (M::Z4 X)/\vd w (Z4 X) (Z4 { X with vv:=d,YR:=X.YR++[cv] }):=by
 have G:=h.VH;have L:∀k,k < wx.heap.size->X.vv.ownBlock≠some k->w1.heap[k]?=wx.heap[k]?:=fun k hk hv=>(y.block k (zX hk i.size) (xK hv)).trans (i.block k hk);have f:∀k,k < w.heap.size->X.vv.ownBlock≠some k->w1.heap[k]?=w.heap[k]?:=fun k hk hv=>(L k (zX hk z.size) hv).trans (z.block k hk);have D:∀g,X.vv.ownBlock=some g->∃c,w.heap[g]?=some (.cells c 24 (0,0)):=fun g y=>yW G y;have O:X.vv.ownBlock≠some M:=by
  intro e;obtain⟨c,o⟩:=D M e;rw[h.block]at o;injection o with o;injection o with _ o;exact h.ty.2.2.1 o
 have hk:∀(k:Nat) (x:Obj),w.heap[k]?=some x->(∃c t,x=Obj.cells c t (0,0)/\Xe t)->w1.heap[k]?=some x:=by
  intro k x U R;rw[f k (zQ U) (fun e=>by
   obtain⟨c,o⟩:=D k e;rw[U]at o;injection o with o;obtain⟨c',t',T,R⟩:=R;rw[o]at T;injection T with _ T;rw[<-T]at R;exact absurd R (by unfold Xe;decide))]
  exact U
 have F:rowsOf S.input X m=[zz X.iv S.input,⟨153,2,X.fv,m.zH.length,fCells X.xg m.zH⟩]++⟨24,1,X.vv,m.values.length,X.YR⟩::([zz X.ov m.output]++(List.zipWith zz X.xg (m.zH.map Rt.Fm.params)++List.zipWith zz X.YR m.values)):=rfl;have Z:=h.own.zP z;have W:Own wx (rowsOf S.input X m++zz cv zs::[]):=by
  refine Own.add (A:=rowsOf S.input X m) (B:=[]) (by rw[yX];exact Z) (vr I) (fun g y hm=>?_);rw[yX]at hm;have h1:=h.own.lt g hm;have h2:=(I.lt g y).1;omega
 have V:Own wx ([zz X.iv S.input,⟨153,2,X.fv,m.zH.length,fCells X.xg m.zH⟩]++⟨24,1,X.vv,m.values.length,X.YR⟩::([zz X.ov m.output]++(List.zipWith zz X.xg (m.zH.map Rt.Fm.params)++List.zipWith zz X.YR m.values)++[zz cv zs])):=W;obtain⟨o1,o2⟩:=Own.swap (w':=w1) V (r':=⟨24,1,d,m.values.length+1,X.YR++[cv]⟩) L H a1;have hz:List.zipWith zz (X.YR++[cv]) (m.values++[zs])=List.zipWith zz X.YR m.values++[zz cv zs]:=by
  rw[kN h.vl];rfl
 have j:rowsOf S.input { X with vv:=d,YR:=X.YR++[cv] } { m with values:=m.values++[zs] }=[zz X.iv S.input,⟨153,2,X.fv,m.zH.length,fCells X.xg m.zH⟩]++⟨24,1,d,m.values.length+1,X.YR++[cv]⟩::([zz X.ov m.output]++(List.zipWith zz X.xg (m.zH.map Rt.Fm.params)++List.zipWith zz X.YR m.values)++[zz cv zs]):=by
  unfold rowsOf;simp only[hz,ze,yl,yK,yF,xN]
 have J:=h.step (w1:=w1) (m':={ m with values:=m.values++[zs] }) (X':={ X with vv:=d,YR:=X.YR++[cv] }) (zi (zi z.size i.size) y.size) (f M (zQ h.block) O) hk 3 d (by simp[xC]) (by rw[j];exact o1) rfl rfl h.fl (by simp[h.vl]);refine⟨J,?_,?_⟩
 ·refine VM.B5 ⟨y.os.trans (i.os.trans z.os),y.tape.trans (i.tape.trans z.tape),y.output.trans (i.output.trans z.output),zi (zi z.size i.size) y.size,fun k hk2 I=>f k hk2 (fun e=>I (zm _ ?_))⟩ _ _;rw[<-h.xh];exact qU (r:=⟨24,1,X.vv,m.values.length,X.YR⟩) (by rw[F];simp) e
 ·rw[<-h.xh,<-J.xh,j];intro k a0;have hk4:=o2 k a0;rcases hk4 with hk4 | hk4
  ·have N:k∈Go.Proofs.YthleadfkfnnadaaGreat.xh (rowsOf S.input X m++[zz cv zs]):=hk4
   replace hk4:=N
   rw[jd]at hk4;rcases zd.mp hk4 with hk5 | hk5
   ·exact Or.inl hk5
   ·refine Or.inr ?_;rw[ka]at hk5;cases e:(zz cv zs).v.ownBlock with
    | none=>rw[e]at hk5;simp[Go.Proofs.YthleadfkfnnadaaGreat.xh]at hk5
    | some g=>
     rw[e]at hk5;rcases zw.mp hk5 with rfl | hk5
     ·exact(I.lt _ e).1
     ·simp[Go.Proofs.YthleadfkfnnadaaGreat.xh]at hk5
  ·exact Or.inr (zi z.size hk4)
theorem cj:(Tryz.prog.info? 24).map (fun i=>(i.zero,i.size,i.bytes))=some (some (.slice none 0 0),1,24):=by kernel_rfl
theorem py (h:jz w M B ty tail S m X) (hv:m.values=[]) (b3:S.zL.length<=101) (G:∀p∈S.zL,p.form.cells<=1000):Calls Tryz.prog 89 #[.pointer (some ⟨M,0,none⟩)] w fun e w'=>e=.returned (.tuple #[])/\∃X',Z8 M B ty tail S X X' { m with values:=S.zL.map (fun p=>Rt.ji p.form) } w w':=by
 obtain⟨i0,a8,a7,a6,a5⟩:=yi cj;go_enter func89,ntmps89;go_wp2_with fail;go_loopw [2,3] (fun i _ wr=>∃(k:Nat) (X':ZK),k<=S.zL.length/\i=.int .i64 k/\Z8 M B ty tail S X X' { m with values:=(S.zL.take k).map (fun p=>Rt.ji p.form) } w wr)
  (fun i _ _=>S.zL.length+1-(intOf i).toNat)
 case atStart=>exact⟨0,X,zo _,rfl,by rw[List.take_zero,Ye,<-hv];exact Z8.start h (zI _ _)⟩
 case round=>
  clear h;obtain⟨k,X',hk,rfl,j⟩:=hrel;obtain⟨b8,b5,L,cP⟩:=j.mc.prog.Q3;by_cases hlt:k < S.zL.length
  ·have V:(k:Int) < (S.zL.length:Int):=by omega
   have b7:(0:Int)<=(k:Int):=by omega
   have N:(S.zL.take k).length=k:=by simp;omega
   have J:=j.mc.prog;rw[KL hlt]at J;obtain⟨g,cap,a0,a1,a2,a3,k0,k1,k2,k3,xe,xf,F,b4,⟨-,t1,t2,t3,t4,t5,t6,-⟩,-,-⟩:=J.get;rw[L]at F;injection F with e1 e2 e3;clear e2;subst e1 e3;rw[N]at t1 t2 t3 t4 t5 t6;have a9:=G _ (zj hlt);have HT:=zD (show (S.zL.take (k+1)).map (fun p=>Rt.ji p.form)=(S.zL.take k).map (fun p=>Rt.ji p.form)++[Rt.ji (S.zL[k]).form] by rw[kI,zJ hlt,yB];rfl);have H:((S.zL.take k).map (fun p=>Rt.ji p.form)).length=k:=by rw[qR,N]
   have c3:=j.mc.c3;obtain⟨b6,b2,z⟩:=zK j.mc.VH;rw[H]at z;rw[z]at c3;have HA:=zD j;have HV:=zD z;have HL:=zD H;clear J j L N z H;generalize S.zL[k]=p at *;go_wp2_with fail;refine(wG p.form a1 a2 a3 k1 k2 k3 a9).mono ?_;rintro e w2 ⟨f,rv,rfl,I⟩;have b0:=cell_later f c3;have y:=yG HA.u.mc.VH f;rw[HV.u,HL.u]at y;have W:=zQ (zU HA.u.mc.block f);obtain⟨R,D,x⟩:=zK I;have a4:=zD I;have b1:=zD f;have b9:=zD x;clear I f c3 cP t1 t2 t3 t4 t5 t6;rw[x];go_wp2_with (at_builtin;refine wpList_append_lies _ rfl _ _ 28 rfl 0 24 i0 _ 1 24 underlying28 a8 a7 a6 a5 rfl (by decide) _ _ _ rfl (y.alloc _) ⟨w2.heap.size,0,none⟩ 1 1 [.slice R (Rt.ji p.form).length D] rfl rfl (cell_one_new _ _ _) (by simp[Value.oneCell']) (by omega) (by unfold maxLen;omega) (by omega) (zo _) (w2.heap.size+1) (by simp) ?_);intro g' cap' w4 o d hat U;rw[<-HV.u]at d hat;rw[<-x]at o;have j:=HA.u;have f:=b1.u;have A:=(zI w2.heap.size w2).alloc (zB _) (.cells #[.slice R (Rt.ji p.form).length D] 24);obtain⟨q1,q2,q3⟩:=j.mc.D1 f A rv (Rt.ji p.form) a4.u d (.slice (some ⟨g',0,none⟩) (k+1) cap') (by show World.ownsRow _ 0 24 1 _ (((S.zL.take k).map (fun p=>Rt.ji p.form)).length+1) _;rw[HL.u];exact o) (fun g2 hg2=>by simp[Value.ownBlock]at hg2;subst hg2;rcases hat with h | h;exact Or.inl h;exact Or.inr (by omega));have Z:=j.more q1 q2 q3;have T:(X'.vv).ownBlock≠some M:=by
    intro e;obtain⟨c,G⟩:=yW j.mc.VH e;rw[j.mc.block]at G;injection G with G;injection G with _ G;exact j.mc.ty.2.2.1 G
   have O:=(d.block M (zX W A.size) (xK T)).trans (zU (zU j.mc.block f) A);have d3:w4.cell? ⟨M,3,none⟩=some X'.vv:=by have:=zC O 3 (by simp);simpa using this
   have z3:=zS O 3;have HF:=zD Z;clear q1 q2 q3 Z T O j f A o d hat U y x HA a4 b0;go_wp2_with fail;go_roundw
   case rel=>exact⟨k+1,_,by omega,by go_num,by rw[HT.u];exact HF.u⟩
   case measure=>simp[intOf];omega
  ·have V:¬(k:Int) < (S.zL.length:Int):=by omega
   have HF:=zD j;clear j L;go_wp2_with fail;go_end0;refine⟨rfl,X',?_⟩;have:=HF.u;rw[yw (by omega)]at this;exact this
namespace Rt
theorem fq (len:Nat):∀(ps:List PL) (n:Nat) (bs:List Zx) (lk:Qw),(nestLk len ps n bs lk).length=lk.length
 | [],_,_,_=>rfl
 | p::r,n,bs,lk=>by
  unfold nestLk;split
  ·rw[fq len r,Jl]
  ·rfl
theorem pI {ps:List PL}:(vS ps).length=ps.length+1:=by
 unfold vS;rw[fq,qN]
end Rt
structure Fit (s:ByteArray) (zL:List Rt.PL):Prop where
 len:(Xb s).length=zL.length
 fwd:mX (zL.map Rt.jK) (Xb s)
 cells:∀p∈zL,p.form.cells<=1000
def Zs (s:ByteArray) (zL:List Rt.PL) (qo:List Int):Rt.Src:=⟨zL.map Rt.jK,Xb s,qo⟩
abbrev KC:Array Value:=#[.slice none 0 0,.slice none 0 0,.slice none 0 0,.slice none 0 0,.int .i64 0,.slice none 0 0,.int .i64 0,.int .i64 0]
def NewP (s:ByteArray) (qo:List Int) (w:World) (e:Ending) (w':World):Prop:=
  Below w.heap.size w w'/\
  ((100 < qo.length/\e=.returned (.tuple #[.agg KC,.int .i64 1,.int .i64 0]))\/
   (qo.length<=100/\∃er ln zL,Rt.qx s=(er,ln,zL)/\
     ((¬er=0/\e=.returned (.tuple #[.agg KC,.int .i64 er,.int .i64 ln]))\/
      (er=0/\ln=0/\zL.length<=101/\∃M X,e=.returned (.tuple #[.agg (xC X (Rt.firstM (Zs s zL qo)) []),.int .i64 0,.int .i64 0])/\w.heap.size<=M/\(∀k∈Z4 X,w.heap.size<=k)/\jz w' M w.heap.size 90 [] (Zs s zL qo) (Rt.firstM (Zs s zL qo)) X))))
theorem xH {v0 v1 v2 v3 v4 v5 v6 v7:Value} (h:w.heap[N]?=some (.cells #[v0,v1,v2,v3,v4,v5,v6,v7] t (0,0))):w.cell? ⟨N,0,none⟩=some v0/\w.cell? ⟨N,1,none⟩=some v1/\w.cell? ⟨N,2,none⟩=some v2/\w.cell? ⟨N,3,none⟩=some v3/\w.cell? ⟨N,4,none⟩=some v4/\w.cell? ⟨N,5,none⟩=some v5/\w.cell? ⟨N,6,none⟩=some v6/\w.cell? ⟨N,7,none⟩=some v7:=
 ⟨zC h 0 (by simp),zC h 1 (by simp),zC h 2 (by simp),zC h 3 (by simp),zC h 4 (by simp),zC h 5 (by simp),zC h 6 (by simp),zC h 7 (by simp)⟩
abbrev W8 (w:World) (N:Nat) (a b c d e f g h:Value):World:=(((((((w.setCell ⟨N,0,none⟩ a).setCell ⟨N,1,none⟩ b).setCell ⟨N,2,none⟩ c).setCell ⟨N,3,none⟩ d).setCell ⟨N,4,none⟩ e).setCell ⟨N,5,none⟩ f).setCell ⟨N,6,none⟩ g).setCell ⟨N,7,none⟩ h
theorem rP {R:Nat} (h:w.heap[R]?=some (.cells #[x0,x1,x2,x3,x4,x5,x6,x7] t (0,0))) (a b c d e f g i:Value):(W8 w R a b c d e f g i).heap[R]?=some (.cells #[a,b,c,d,e,f,g,i] t (0,0)):=by
 have:=zf (zf (zf (zf (zf (zf (zf (zf h 0 a) 1 b) 2 c) 3 d) 4 e) 5 f) 6 g) 7 i;simpa using this
theorem yx (h:Below B w w1) (d:B<=N) (i:Nat) (v:Value):Below B w (w1.setCell ⟨N,i,none⟩ v):=
 ⟨h.os,h.tape,h.output,by simpa[World.setCell] using h.size,fun k hk=>by rw[zO w1 ⟨N,i,none⟩ v k (by show k≠N;omega)];exact h.block k hk⟩
theorem iA (j:Below B w w1) (i:B<=N) (a b c d e f g h:Value):Below B w (W8 w1 N a b c d e f g h):=
 yx (yx (yx (yx (yx (yx (yx (yx j i _ _) i _ _) i _ _) i _ _) i _ _) i _ _) i _ _) i _ _
abbrev GL (w3:World) (M:Nat) (iv':Value):World:=((w3.setCell ⟨M,1,none⟩ iv').setCell ⟨M,2,none⟩ (.slice (some ⟨w3.heap.size,0,none⟩) 1 1)).alloc (.cells #[.slice none 0 0,.int .i64 0] 153)
theorem sx {w2 w3:World} {zL:List Rt.PL} {iv':Value} (I:vu w2 P B zL lk lv cs) (y:Below (w2.heap.size+1) (w2.alloc (.cells #[lv,.slice none 0 0,.slice none 0 0,.slice none 0 0,.int .i64 0,.slice none 0 0,.int .i64 0,.int .i64 0] 90)) w3) (f:w3.ownsRow (w2.heap.size+1) 3 1 iv' qo.length (qo.map (Value.int .i64))):jz (GL w3 w2.heap.size iv') w2.heap.size B 90 [] ⟨zL,lk,qo⟩ ⟨[Rt.Qe],[],0,[],0,0⟩ ⟨lv,iv',.slice (some ⟨w3.heap.size,0,none⟩) 1 1,.slice none 0 0,.slice none 0 0,[.slice none 0 0],[],cs⟩/\Below w2.heap.size w2 (GL w3 w2.heap.size iv'):=by
 have z:=(y.block w2.heap.size (by omega)).trans (zN w2 (.cells #[lv,.slice none 0 0,.slice none 0 0,.slice none 0 0,.int .i64 0,.slice none 0 0,.int .i64 0,.int .i64 0] 90));have F:=zQ z;have N:=zf z 1 iv';have M:=zf N 2 (.slice (some ⟨w3.heap.size,0,none⟩) 1 1);have j:((w3.setCell ⟨w2.heap.size,1,none⟩ iv').setCell ⟨w2.heap.size,2,none⟩ (.slice (some ⟨w3.heap.size,0,none⟩) 1 1)).heap.size=w3.heap.size:=by simp[World.setCell]
 have D:=yR M (.cells #[.slice none 0 0,.int .i64 0] 153);have A:Below w2.heap.size w2 w3:=((zI w2.heap.size w2).alloc (zB _) (.cells #[lv,.slice none 0 0,.slice none 0 0,.slice none 0 0,.int .i64 0,.slice none 0 0,.int .i64 0,.int .i64 0] 90)).trans (y.mono (by omega));have i:Below w2.heap.size w2 (GL w3 w2.heap.size iv'):=(yx (yx A (zB _) 1 iv') (zB _) 2 (.slice (some ⟨w3.heap.size,0,none⟩) 1 1)).alloc (by rw[j];omega) _;have d:=I.zP i;have o:∀k,k < w3.heap.size->k≠w2.heap.size->(GL w3 w2.heap.size iv').heap[k]?=w3.heap[k]?:=by
  intro k J x;rw[show (GL w3 w2.heap.size iv').heap[k]?=((w3.setCell ⟨w2.heap.size,1,none⟩ iv').setCell ⟨w2.heap.size,2,none⟩ (.slice (some ⟨w3.heap.size,0,none⟩) 1 1)).heap[k]? from G2 _ _ (by rw[j];exact J)];rw[zO _ _ _ _ x,zO _ _ _ _ x]
 have H:(GL w3 w2.heap.size iv').ownsRow 0 3 1 iv' qo.length (xR qo):=yP (vr f) (fun g hg=>o g (f.lt g hg).2 (by have:=(f.lt g hg).1;omega));have h:=zN ((w3.setCell ⟨w2.heap.size,1,none⟩ iv').setCell ⟨w2.heap.size,2,none⟩ (.slice (some ⟨w3.heap.size,0,none⟩) 1 1)) (.cells #[.slice none 0 0,.int .i64 0] 153);rw[j]at h;have G:(GL w3 w2.heap.size iv').ownsRow 0 153 2 (.slice (some ⟨w3.heap.size,0,none⟩) 1 1) 1 [.slice none 0 0,.int .i64 0]:=
  ⟨rfl,Or.inr ⟨w3.heap.size,1,#[.slice none 0 0,.int .i64 0],rfl,zo _,h,zB _,by unfold maxLen;omega,rfl,rfl⟩⟩;refine⟨⟨by simpa using D,⟨zQ D,?_,d.own,d.lines,d.gE,d.len⟩,⟨?_,?_⟩,rfl,rfl,by unfold FE;decide⟩,i⟩
 ·have:=zC D 0 (by simp);simpa using this
 ·intro r hr;simp only[rowsOf,qp,Ye,jT,List.zipWith_nil_left,yX,yF,xN,zw,qb,Z2]at hr;rcases hr with rfl | rfl | rfl | rfl | rfl
  ·exact H
  ·exact G
  ·exact zW _ _ _ _
  ·exact zW _ _ _ _
  ·exact zW _ _ _ _
 ·have L:xh (rowsOf qo ⟨lv,iv',.slice (some ⟨w3.heap.size,0,none⟩) 1 1,.slice none 0 0,.slice none 0 0,[.slice none 0 0],[],cs⟩ ⟨[Rt.Qe],[],0,[],0,0⟩)=(match iv'.ownBlock with | none=>[w3.heap.size] | some g=>[g,w3.heap.size]):=by
   unfold rowsOf;rw[yF,ka];rfl
  rw[L];cases e:iv'.ownBlock with
  | none=>simp
  | some g=>
   have:=(f.lt g e).2;simp;omega
theorem jz.shape (h:jz w M B ty tail S m X):∃la lc ia ic fa fc va vc oa oc,X.lv=.slice la S.zL.length lc/\X.iv=.slice ia S.input.length ic/\X.fv=.slice fa m.zH.length fc/\X.vv=.slice va m.values.length vc/\X.ov=.slice oa m.output.length oc:=by
 obtain⟨la,lc,k⟩:=zK h.prog.own;obtain⟨ia,ic,j⟩:=zK h.input;obtain⟨fa,fc,i⟩:=zK h.zH;obtain⟨va,vc,f⟩:=zK h.VH;obtain⟨oa,oc,d⟩:=zK h.out;exact⟨la,lc,ia,ic,fa,fc,va,vc,oa,oc,k,j,i,f,d⟩
theorem jz.eight (h:jz w M B ty tail S m X) (D:w.heap[N]?=some (.cells #[x0,x1,x2,x3,x4,x5,x6,x7] 90 (0,0))) (k:N≠M) (a b c d e f g i:Value):jz (W8 w N a b c d e f g i) M B ty tail S m X:=by
 have j:¬Xe 90/\90≠3/\90≠153/\90≠24:=by unfold Xe;decide
 have A:=zf D 0 a;have n2:=zf A 1 b;have z:=zf n2 2 c;have y:=zf z 3 d;have x:=zf y 4 e;have o:=zf x 5 f;have F:=zf o 6 g;exact(((((((h.aside D k j 0 a).aside A k j 1 b).aside n2 k j 2 c).aside z k j 3 d).aside y k j 4 e).aside x k j 5 f).aside o k j 6 g).aside F k j 7 i
theorem nC (s:ByteArray) {iv:Value} (hs:s.size<=maxLen) (hi:kA w iv qo) (a9:∀zL,Rt.qx s=(0,0,zL)->Fit s zL):Calls Tryz.prog 49 #[.string s,iv] w (NewP s qo w):=by
 obtain⟨i0,d6,d3,d2,g2⟩:=yi XL;have HI:=zD hi;obtain⟨g1,f6,rfl,_⟩:=hi;by_cases hl:100 < qo.length
 ·have d5:(100:Int) < (qo.length:Int):=by omega
  have HW:=zN w (.cells KC 90);have E:=xH HW;have HB:=zD ((zI w.heap.size w).alloc (zB _) (.cells KC 90));clear HW;go_enter func49,ntmps49;go_wp2_with fail;refine zT (v:=.tuple #[.agg KC,.int .i64 1,.int .i64 0]) ?_ rfl ⟨HB.u,Or.inl ⟨hl,rfl⟩⟩;revert E;generalize w.alloc (.cells KC 90)=wz;rintro ⟨E0,E1,E2,E3,E4,E5,E6,E7⟩;simp[results,results49,go_sem,E0,E1,E2,E3,E4,E5,E6,E7]
 ·have d5:¬(100:Int) < (qo.length:Int):=by omega
  go_enter func49,ntmps49;go_wp2_with fail;refine(wm s hs).mono ?_;rintro e w1 ⟨T,er,ln,zL,hR,hcase⟩;have a4:=(zI w.heap.size w).alloc (zB _) (.cells KC 90);have V:Below w.heap.size w w1:=a4.trans (T.mono (by simp));have D:=zU (zN w (.cells KC 90)) T;rcases hcase with⟨her,rfl⟩| ⟨rfl,rfl,hlen,lv,cs,rfl,hown,hlines,hlk⟩
  ·have f8:(er != 0)=true:=by simpa using her
   have HB:=zD V;have HR:=zD hR;obtain⟨e0,e1,e2,e3,e4,e5,e6,e7⟩:=xH D;have Z:=zS D;have b1:=zQ D;have b0:¬w.heap.size=w1.heap.size:=by omega
   clear T a4 V hR;go_wp2_with fail;have HW:=rP D (.slice none 0 0) (.slice none 0 0) (.slice none 0 0) (.slice none 0 0) (.int .i64 0) (.slice none 0 0) (.int .i64 0) (.int .i64 0);have E:=xH (yR HW (.cells #[.slice none 0 0] 76));have HB2:=(iA HB.u (zB _) (.slice none 0 0) (.slice none 0 0) (.slice none 0 0) (.slice none 0 0) (.int .i64 0) (.slice none 0 0) (.int .i64 0) (.int .i64 0));have f5:=HB2.alloc HB2.size (.cells #[.slice none 0 0] 76);refine zT (v:=.tuple #[.agg KC,.int .i64 er,.int .i64 ln]) ?_ rfl ⟨f5,Or.inr ⟨by omega,er,ln,zL,HR.u,Or.inl ⟨her,rfl⟩⟩⟩;revert E;generalize (W8 w1 w.heap.size (.slice none 0 0) (.slice none 0 0) (.slice none 0 0) (.slice none 0 0) (.int .i64 0) (.slice none 0 0) (.int .i64 0) (.int .i64 0)).alloc (.cells #[.slice none 0 0] 76)=wz;rintro ⟨E0,E1,E2,E3,E4,E5,E6,E7⟩;simp[results,results49,go_sem,E0,E1,E2,E3,E4,E5,E6,E7]
  ·obtain⟨z,o,rfl⟩:=zK hown;have a2:=a9 zL hR;have I:=(zI w1.heap.size w1).alloc (zB _) (.cells #[.slice z zL.length o] 76);have bP:=zN w1 (.cells #[.slice z zL.length o] 76);have a8:vu (w1.alloc (.cells #[.slice z zL.length o] 76)) w1.heap.size w.heap.size zL (Xb s) (.slice z zL.length o) cs:=
    ⟨by simp,zC bP 0 (by simp),yn (yG hown I) (by simp),Qc.lines (w:=w1.alloc (.cells #[.slice z zL.length o] 76)) (fun _ _ _ _ _ _ h=>yn h (by simp)) _ _ ((xZ I).lines _ _ hlines),hlk.zP hown I,a2.len⟩;have d4:(Value.slice z zL.length o).ownBlock≠some w1.heap.size:=by
    intro e;have:=(hown.lt _ e).2;omega
   have b1:=zQ D;have b0:¬w.heap.size=w1.heap.size:=by omega
   have M:=zU D I;have HX:=qG hown V;have b9:=zD a2;have HR:=zD hR;clear hown hlines hlk T a4 V a2 hR;go_wp2_with fail;refine(DL a8 d4 hlen).mono ?_;rintro e w2 ⟨rfl,⟨d9,N⟩,a1⟩;have c2:=N.cell;have f7:=N.lt;have U:Below w.heap.size w w2:=by
    have h1:Below w.heap.size w (w1.alloc (.cells #[.slice z zL.length o] 76)):=HX.u.2.alloc HX.u.2.size _;exact h1.grown a1 h1.size (fun j hj=>by have:=(HX.u.1.lt j hj).1;simp at this;omega)
   have HB2:=qG (U.alloc U.size (.cells #[.slice z zL.length o,.slice none 0 0,.slice none 0 0,.slice none 0 0,.int .i64 0,.slice none 0 0,.int .i64 0,.int .i64 0] 90)) U;clear a8 U;go_wp2_with (at_builtin;refine Qh _ rfl _ _ 24 24 rfl (w2.heap.size+1) 3 i0 _ underlying24 d6 d3 d2 (by omega) rfl _ 0 [] rfl (zW _ _ _ _) _ qo.length (qo.map (Value.int .i64)) rfl ?c0 ?c1 ?c2 ?_)
   case c0=>exact(HI.u.zP HB2.u.1).src
   case c1=>omega
   case c2=>simp
   intro v' w3 y x;obtain⟨d1,a7,rfl⟩:=zK y;have H:Below (w2.heap.size+1) (w2.alloc (.cells #[.slice z zL.length o,.slice none 0 0,.slice none 0 0,.slice none 0 0,.int .i64 0,.slice none 0 0,.int .i64 0,.int .i64 0] 90)) w3:=⟨x.os,x.tape,x.output,x.size,fun k hk=>x.block k (by simpa using hk) (by simp[Value.ownBlock])⟩;have F:=(H.block w2.heap.size (by omega)).trans (zN w2 (.cells #[.slice z zL.length o,.slice none 0 0,.slice none 0 0,.slice none 0 0,.int .i64 0,.slice none 0 0,.int .i64 0,.int .i64 0] 90));obtain⟨m0,m1,m2,m3,m4,m5,m6,m7⟩:=xH F;have zM:=zS F;have g0:=zQ F;have f9:¬w2.heap.size=w3.heap.size:=by omega
   have H3:=XX y H F;have b8:=qG N a1;clear y H F x N a1 bP M I;go_wp2_with fail;obtain⟨y,H,F⟩:=H3.u;obtain⟨a0,A⟩:=sx b8.u.1 H y;refine(En a0.prog (by simpa using hlen) b9.u.fwd).mono ?_;rintro e w5 ⟨rfl,R⟩;have h5:=a0.zP R;have g6:=h5.c6;have z6:=h5.fz 6;have M:w2.heap[w.heap.size]?=some (.cells KC 90 (0,0)):=by
    refine(b8.u.2.block w.heap.size (by simp;omega) (fun e=>?_)).trans (yR D _);have:=(HX.u.1.lt _ e.symm).1;simp at this;omega
   have d8:=zQ M;have b6:=zU M (A.trans (R.mono A.size));have b3:Below w.heap.size w w5:=HB2.u.2.trans ((A.trans (R.mono A.size)).mono (B':=w.heap.size) HB2.u.2.size);have d0:=zD (show Rt.firstM (Zs s zL qo)=⟨[Rt.Qe],(zL.map Rt.jK).map (fun p=>Rt.ji p.form),0,[],Rt.goOn (zL.map Rt.jK) (Xb s) 102 (wrap64 (Rt.xb (zL.map Rt.jK) Rt.xP+1)),0⟩from rfl);have W:=y.lt;generalize Rt.goOn (zL.map Rt.jK) (Xb s) 102 (wrap64 (Rt.xb (zL.map Rt.jK) Rt.xP+1))=L at *;have b4:=(Z8.start h5 (zI _ _)).own (m':=⟨[Rt.Qe],[],0,[],L,0⟩) 6 (.int .i64 L) (by simp[xC]) rfl rfl rfl;have b5:=(zO w5 ⟨w2.heap.size,6,none⟩ (.int .i64 L) w.heap.size (by show w.heap.size≠w2.heap.size;omega)).trans b6;have G:=zD (yx b3 (show w.heap.size<=w2.heap.size by omega) 6 (.int .i64 L));have a6:=zD b4;have b7:=zD b5;have b2:∀k∈Z4 ⟨.slice z zL.length o,.slice d1 qo.length a7,.slice (some ⟨w3.heap.size,0,none⟩) 1 1,.slice none 0 0,.slice none 0 0,[.slice none 0 0],[],d9⟩,w.heap.size<=k:=by
    intro k hk;simp only[Z4,yF,xN,yX,ju,zw,qb,Z2]at hk;obtain⟨v,hv,hvk⟩:=hk;rcases hv with rfl | rfl | rfl | rfl | rfl
    ·have:=(W k hvk).1;omega
    ·simp[Value.ownBlock]at hvk;omega
    ·cases hvk
    ·cases hvk
    ·cases hvk
   have a5:=zD b2;have O:∀p∈zL.map Rt.jK,p.form.cells<=1000:=by
    intro p hp;obtain⟨q,hq,rfl⟩:=xr.mp hp;exact b9.u.cells q hq
   clear y H F a0 A R h5 M b6 b3 b4 b5 b2 W m0 m1 m2 m3 m4 m5 m6 m7 zM c2;go_wp2_with fail;refine(py a6.u.mc rfl (by simpa using hlen) O).mono ?_;rintro e w7 ⟨rfl,X7,hA7⟩;have J:=Z8.keeps a6.u.mc hA7 b7.u (by omega) (by decide);have h7:=hA7.mc;obtain⟨la,lc,ia,ic,fa,fc,va,vc,oa,oc,q1,q2,q3,q4,q5⟩:=h7.shape;have a3:=h7.block;rw[q1,q2,q3,q4,q5]at a3;obtain⟨x0,x1,x2,x3,x4,x5,x6,x7⟩:=xH a3;obtain⟨y0,y1,y2,y3,y4,y5,y6,y7⟩:=xH J;have zR:=zS J;have d7:¬w.heap.size=w2.heap.size:=by omega
   have f1:=zD (fun a b c d e f g i=>h7.eight J d7 a b c d e f g i);have f3:=zD (fun a b c d e f g i=>rP J a b c d e f g i);have f4:Hd (∀a b c d e f g i,Below w.heap.size w (W8 w7 w.heap.size a b c d e f g i)):=zD (fun a b c d e f g i=>iA ⟨hA7.vz.os.trans G.u.os,hA7.vz.tape.trans G.u.tape,hA7.vz.output.trans G.u.output,zi G.u.size hA7.vz.size,fun k hk=>(hA7.vz.block k (zX hk G.u.size) (fun hm=>by
    rcases zw.mp hm with rfl | hm
    ·omega
    ·have:=a5.u k hm;omega)).trans (G.u.block k hk)⟩ (zB _) a b c d e f g i)
   have f2:Hd (∀k∈Z4 X7,w.heap.size<=k):=zD (fun k hk=>by
    rcases hA7.grow k hk with h' | h'
    ·exact a5.u k h'
    ·exact zi G.u.size h')
   have HQ:=zD (show xC X7 (Rt.firstM (Zs s zL qo)) []=#[.slice la (zL.map Rt.jK).length lc,.slice ia qo.length ic,.slice fa 1 fc,.slice va ((zL.map Rt.jK).map (fun p=>Rt.ji p.form)).length vc,.int .i64 0,.slice oa 0 oc,.int .i64 L,.int .i64 0] by
    rw[d0.u];simp only[xC,q1,q2,q3,q4,q5];rfl)
   clear hA7 J h7 a3 q1 q2 q3 q4 q5 a6 b7 a5;go_wp2_with fail;have f0:xC X7 (Rt.firstM (Zs s zL qo)) []=#[.slice la zL.length lc,.slice ia qo.length ic,.slice fa 1 fc,.slice va zL.length vc,.int .i64 0,.slice oa 0 oc,.int .i64 L,.int .i64 0]:=by rw[HQ.u];simp
   have E:=xH (f3.u (.slice la zL.length lc) (.slice ia qo.length ic) (.slice fa 1 fc) (.slice va zL.length vc) (.int .i64 0) (.slice oa 0 oc) (.int .i64 L) (.int .i64 0));refine zT (v:=.tuple #[.agg #[.slice la zL.length lc,.slice ia qo.length ic,.slice fa 1 fc,.slice va zL.length vc,.int .i64 0,.slice oa 0 oc,.int .i64 L,.int .i64 0],.int .i64 0,.int .i64 0]) ?_ rfl ⟨f4.u _ _ _ _ _ _ _ _,Or.inr ⟨by omega,0,0,zL,HR.u,Or.inr ⟨rfl,rfl,hlen,w2.heap.size,X7,by rw[f0],by omega,f2.u,by rw[d0.u];exact f1.u _ _ _ _ _ _ _ _⟩⟩⟩;obtain⟨E0,E1,E2,E3,E4,E5,E6,E7⟩:=E;simp[results,results49,go_sem,E0,E1,E2,E3,E4,E5,E6,E7]
end
namespace Rt
theorem JG {zL:List PL} (h:qx s=(0,0,zL)):ZE s=false/\(rForms 0 (lines s) [kb]).1=0/\nestFrom ((rForms 0 (lines s) [kb]).2.drop 1) 1 [] [kb]=(0,zL,[])/\nameErr zL 1 (zL.drop 1)=0/\(yJ zL xP).kind=3:=by
 unfold qx at h;split at h
 ·injection h with h _;omega
 ·next h0=>
  rw[Yq]at h;split at h
  ·injection h with h _;omega
  ·next h1=>
   rw[vH]at h;split at h
   ·injection h with h _;omega
   ·next h2=>
    split at h
    ·injection h with h _;omega
    ·next h3=>
     rw[jV]at h;split at h
     ·injection h with h _;omega
     ·next h4=>
      split at h
      ·injection h with h _;omega
      ·next h5=>
       injection h with _ h;injection h with _ h;subst h;exact⟨by simpa using h0,by omega,Z6 (by simpa using h2) (Z6 rfl (Yg.mp h3)),Yg.mp h4,Yg.mp h5⟩
theorem eN:Small kb.form:=⟨by simp[kb],by simp[kb],by simp[kb],by simp[kb],by simp[kb]⟩
theorem QH {zL:List PL} (h:qx s=(0,0,zL)):(∀p∈zL,Small p.form)/\zL.length<=101/\(Xb s).length=zL.length:=by
 obtain⟨o,k,j,_,_⟩:=JG h;obtain⟨i,x⟩:=Vj o;obtain⟨a,b,f,c⟩:=Xn (lines s) 0 [kb] (rForms 0 (lines s) [kb]).2 (YM i) (fun p hp=>by rw[yN.mp hp];exact eN) (Z6 k rfl);obtain⟨d,e⟩:=Vu _ 1 [] [kb] zL [] (fun p hp=>by rw[yN.mp hp];exact eN) (fun p hp=>b p (List.mem_of_mem_drop hp)) j (by omega);rw[xp,a]at d;simp only[yl]at d;refine⟨e,by omega,?_⟩;unfold Xb;rw[pI,xp,a];simp only[yl];omega
theorem AY {zL:List PL} {p:PL} (h:(zL.map jK)[n]?=some p):∃q,zL[n]?=some q/\p=jK q:=by
 rw[yt]at h;cases e:zL[n]? with
 | none=>rw[e]at h;cases h
 | some q=>rw[e]at h;injection h with h;exact⟨q,rfl,h.symm⟩
theorem oE {zL:List PL} (h:qx s=(0,0,zL)):mX (zL.map jK) (Xb s):=by
 obtain⟨z,y,x,_,_⟩:=JG h;obtain⟨f,A⟩:=Vj z;obtain⟨a,b,d,c⟩:=Xn (lines s) 0 [kb] (rForms 0 (lines s) [kb]).2 (YM f) (fun p hp=>by rw[yN.mp hp];exact eN) (Z6 y rfl);have o:=Aj x (by rw[xp,a];simp only[yl];omega);intro n p j k;obtain⟨q,i,rfl⟩:=AY j;exact o n q i k
end Rt
theorem tQ {zL:List Rt.PL} (h:Rt.qx s=(0,0,zL)):Fit s zL:=
 ⟨(QH h).2.2,oE h,fun p hp=>by have:=((QH h).1 p hp).cells;omega⟩
section
open Go.RowKit
attribute [local go_sem ↓] Go.wp_at_zero Go.wp_at_succ
theorem ur (h:jz w M B ty tail S m X):Calls Tryz.prog 50 #[.pointer (some ⟨M,0,none⟩)] w fun e w'=>e=.returned (.int .i64 m.fin)/\w'=w:=by
 have d:=h.c7;clear h;go_enter func50,ntmps50;go_wp2;go_ret;exact⟨rfl,rfl⟩
theorem output_any (h:jz w M B ty tail S m X) (hl:m.output.length<=1000):Calls Tryz.prog 52 #[.pointer (some ⟨M,0,none⟩)] w fun e w'=>Below w.heap.size w w'/\∃v,e=.returned v/\w'.ownsRow w.heap.size 3 1 v m.output.length (xR m.output):=by
 obtain⟨T,H,D,A,U⟩:=yi XL;have c5:=h.c5;have z:=h.out;have f:kA w X.ov m.output:=by
  obtain⟨J,I,e⟩:=zK z;refine⟨J,I,e,?_⟩;by_cases hn:m.output=[]
  ·exact Or.inl hn
  ·refine Or.inr ?_;have x:0 < m.output.length:=kO.mpr hn;obtain⟨g,cap,G,_,_,_⟩:=yD z (j:=0) (u:=.int .i64 m.output[0]) (by simp[xR,x]);refine⟨g,0,by rw[e]at G;injection G,fun j hj=>?_⟩;obtain⟨g',cap',F,_,_,V⟩:=yD z (j:=j) (u:=.int .i64 m.output[j]) (by simp[xR,hj]);have Z:g=g':=by
    have W:X.ov.ownBlock=some g:=by rw[G];rfl
    have N:X.ov.ownBlock=some g':=by rw[F];rfl
    rw[W]at N;exact Option.some.inj N
   subst Z;rw[xW];exact V
 obtain⟨J,I,y⟩:=zK z;rw[y]at c5 f;have HS:=zD f;clear h z f y;go_enter func52,ntmps52;go_wp2_with (at_builtin;refine Qh _ rfl _ _ 24 24 rfl w.heap.size 3 T _ underlying24 H D A (by omega) rfl _ 0 [] rfl (zW _ _ _ _) _ m.output.length (m.output.map (Value.int .i64)) rfl HS.u.src ?c1 ?c2 ?_)
 case c1=>omega
 case c2=>exact zB _
 intro R w3 o d;have L:Below w.heap.size w w3:=⟨d.os,d.tape,d.output,d.size,fun k hk=>d.block k hk (by simp[Value.ownBlock])⟩;have i:w3.ownsRow w.heap.size 3 1 R m.output.length (xR m.output):=o;have O:=qG L i;clear L o i d;go_wp2;go_ret;exact⟨O.u.1,_,rfl,O.u.2⟩
theorem jz.Gg {w':World} {M':Nat} {ty':TypeId} {tail':List Value} (h:jz w M B ty tail S m X) (j:Below w.heap.size w w') (f:w'.heap[M']?=some (.cells (xC X m tail') ty' (0,0))) (i:FE ty'):jz w' M' B ty' tail' S m X:=by
 have d:=h.zP j;refine⟨f,⟨zQ f,?_,d.prog.own,d.prog.lines,d.prog.gE,d.prog.len⟩,d.own,d.fl,d.vl,i⟩;have:=zC f 0 (by simp[xC]);simpa[xC] using this
end
end Go.Proofs.YthleadfkfnnadaaGreat
