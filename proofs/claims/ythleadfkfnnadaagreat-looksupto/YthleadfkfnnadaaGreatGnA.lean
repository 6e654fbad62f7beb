/- What a run keeps to, calls and all: plain. -/
import Derived.Test.YthleadfkfnnadaaGreatNwA
set_option maxHeartbeats 4000000
set_option maxRecDepth 100000
set_option linter.unusedSimpArgs false
namespace Go.Proofs.YthleadfkfnnadaaGreat
open Rt Go.Proofs.Tryz
open Go.RowKit
variable {tail:List Value} {X:ZK} {M B:Nat} {m:Rt.Mc} {S:Rt.Src} {ty:TypeId} {w w1:World}
theorem Ji {A B:List Rw} {r:Rw} {k:Nat} (h:k∈xh (A++r::B)):k∈xh (A++B)\/r.v.ownBlock=some k:=by
 rw[jd,ka]at h;rw[jd];rcases zd.mp h with h | h
 ·exact Or.inl (zY _ h)
 ·cases e:r.v.ownBlock with
  | none=>rw[e]at h;exact Or.inl (zb _ h)
  | some g=>
   rw[e]at h;rcases zw.mp h with rfl | h
   ·exact Or.inr rfl
   ·exact Or.inl (zb _ h)
theorem jz.uk (h:jz w M B ty tail S m X):X.fv.ownBlock≠some M:=by
 intro e;obtain⟨c,d⟩:=yW h.zH e;rw[h.block]at d;injection d with d;injection d with _ d;exact h.ty.2.1 d
theorem jz.mG (h:jz w M B ty tail S m X) (d:∀k,k < w.heap.size->X.fv.ownBlock≠some k->w1.heap[k]?=w.heap[k]?):∀(k:Nat) (x:Obj),w.heap[k]?=some x->(∃c t,x=Obj.cells c t (0,0)/\Xe t)->w1.heap[k]?=some x:=by
 intro k x o f;rw[d k (zQ o) (fun e=>by
  obtain⟨c,i⟩:=yW h.zH e;rw[o]at i;injection i with i;obtain⟨z,y,j,f⟩:=f;rw[i]at j;injection j with _ j;rw[<-j]at f;exact absurd f (by unfold Xe;decide))]
 exact o
def XM (X:ZK) (m:Rt.Mc):Rw:=⟨153,2,X.fv,m.zH.length,fCells X.xg m.zH⟩
theorem fP {qo:List Int}:rowsOf qo X m=[zz X.iv qo]++XM X m::([⟨24,1,X.vv,m.values.length,X.YR⟩,zz X.ov m.output]++(List.zipWith zz X.xg (m.zH.map Rt.Fm.params)++List.zipWith zz X.YR m.values)):=rfl
theorem jz.A5 {wx wy:World} (h:jz w M B ty tail S m X) (z:Below w.heap.size w wx) (o:Below wx.heap.size wx wy) (i:Value) (ps:List Int) (f:Int) (G:wx.ownsRow w.heap.size 3 1 i ps.length (xR ps)) (y:wy.grownBy w1 X.fv.ownBlock) (d:Value) (D:w1.ownsRow 0 153 2 d (m.zH.length+1) (fCells X.xg m.zH++[i,.int .i64 f])) (R:∀g,d.ownBlock=some g->X.fv.ownBlock=some g\/wx.heap.size<=g):jz (w1.setCell ⟨M,2,none⟩ d) M B ty tail S { m with zH:=m.zH++[⟨ps,f⟩] } { X with fv:=d,xg:=X.xg++[i] }/\VM w (w1.setCell ⟨M,2,none⟩ d) (M::Z4 X)/\vd w (Z4 X) (Z4 { X with fv:=d,xg:=X.xg++[i] }):=by
 have I:∀k,k < wx.heap.size->X.fv.ownBlock≠some k->w1.heap[k]?=wx.heap[k]?:=fun k hk hv=>(y.block k (zX hk o.size) (xK hv)).trans (o.block k hk);have j:∀k,k < w.heap.size->X.fv.ownBlock≠some k->w1.heap[k]?=w.heap[k]?:=fun k hk hv=>(I k (zX hk z.size) hv).trans (z.block k hk);have J:=h.uk;have hk:=h.mG j;have O:=h.own.zP z;have L:∀g,i.ownBlock=some g->g∉Go.Proofs.YthleadfkfnnadaaGreat.xh (rowsOf S.input X m):=fun g y hm=>by
  have W:=h.own.lt g hm;have V:=(G.lt g y).1;omega
 have N:Own wx (([zz X.iv S.input,XM X m,⟨24,1,X.vv,m.values.length,X.YR⟩,zz X.ov m.output]++List.zipWith zz X.xg (m.zH.map Rt.Fm.params))++zz i ps::List.zipWith zz X.YR m.values):=
  Own.add (by rw[yK];exact O) (vr G) (fun g y=>by rw[yK];exact L g y);have A:([zz X.iv S.input,XM X m,⟨24,1,X.vv,m.values.length,X.YR⟩,zz X.ov m.output]++List.zipWith zz X.xg (m.zH.map Rt.Fm.params))++zz i ps::List.zipWith zz X.YR m.values=[zz X.iv S.input]++XM X m::([⟨24,1,X.vv,m.values.length,X.YR⟩,zz X.ov m.output]++(List.zipWith zz X.xg (m.zH.map Rt.Fm.params)++zz i ps::List.zipWith zz X.YR m.values)):=by simp
 have F:=N;rw[A]at F;obtain⟨T,o2⟩:=Own.swap (w':=w1) F (r':=⟨153,2,d,m.zH.length+1,fCells X.xg m.zH++[i,.int .i64 f]⟩) I D R;have U:List.zipWith zz (X.xg++[i]) ((m.zH++[(⟨ps,f⟩:Rt.Fm)]).map Rt.Fm.params)=List.zipWith zz X.xg (m.zH.map Rt.Fm.params)++[zz i ps]:=by
  rw[yB,kN (by rw[qR];exact h.fl)];rfl
 have x:rowsOf S.input { X with fv:=d,xg:=X.xg++[i] } { m with zH:=m.zH++[⟨ps,f⟩] }=[zz X.iv S.input]++⟨153,2,d,m.zH.length+1,fCells X.xg m.zH++[i,.int .i64 f]⟩::([⟨24,1,X.vv,m.values.length,X.YR⟩,zz X.ov m.output]++(List.zipWith zz X.xg (m.zH.map Rt.Fm.params)++zz i ps::List.zipWith zz X.YR m.values)):=by
  unfold rowsOf;simp only[U,Kf _ _ _ _ h.fl,ze,yl,yK,yF,xN]
 have H:=h.step (w1:=w1) (m':={ m with zH:=m.zH++[⟨ps,f⟩] }) (X':={ X with fv:=d,xg:=X.xg++[i] }) (zi (zi z.size o.size) y.size) (j M (zQ h.block) J) hk 2 d (by simp[xC]) (by rw[x];exact T) rfl rfl (by simp[h.fl]) h.vl;refine⟨H,?_,?_⟩
 ·refine VM.B5 ⟨y.os.trans (o.os.trans z.os),y.tape.trans (o.tape.trans z.tape),y.output.trans (o.output.trans z.output),zi (zi z.size o.size) y.size,fun k hk2 G=>j k hk2 (fun e=>G (zm _ ?_))⟩ _ _;rw[<-h.xh];exact qU (r:=XM X m) (by rw[fP];simp) e
 ·rw[<-h.xh,<-H.xh,x];intro k hk3;rcases o2 k hk3 with hk4 | hk4
  ·rw[<-A]at hk4;rcases Ji hk4 with hk5 | hk5
   ·rw[yK]at hk5;exact Or.inl hk5
   ·exact Or.inr (G.lt k hk5).1
  ·exact Or.inr (zi z.size hk4)
theorem jz.DD (h:jz w M B ty tail S m X) (d:List Rt.Fm) (f:Rt.Fm) (O:m.zH=d++[f]) (g cap:Nat) (R:X.fv=.slice (some ⟨g,0,none⟩) (d.length+1) cap) (z:Below w.heap.size w w1):jz (w1.setCell ⟨M,2,none⟩ (.slice (some ⟨g,0,none⟩) d.length cap)) M B ty tail S { m with zH:=d } { X with fv:=.slice (some ⟨g,0,none⟩) d.length cap,xg:=X.xg.dropLast }/\VM w (w1.setCell ⟨M,2,none⟩ (.slice (some ⟨g,0,none⟩) d.length cap)) (M::Z4 X)/\vd w (Z4 X) (Z4 { X with fv:=.slice (some ⟨g,0,none⟩) d.length cap,xg:=X.xg.dropLast }):=by
 have o:=h.fl;rw[O,ze,yl]at o;obtain⟨xg,N,j⟩:∃xg N,X.xg=xg++[N]:=by
  have H:X.xg≠[]:=by intro e;rw[e]at o;simp at o
  exact⟨X.xg.dropLast,X.xg.getLast H,(xj H).symm⟩
 have J:xg.length=d.length:=by rw[j]at o;simpa using o
 have L:X.xg.dropLast=xg:=by rw[j,xo]
 have y:∀k,k < w.heap.size->X.fv.ownBlock≠some k->w1.heap[k]?=w.heap[k]?:=fun k hk _=>z.block k hk;have hk:=h.mG y;have A:w1.ownsRow 0 153 2 (.slice (some ⟨g,0,none⟩) d.length cap) d.length (fCells xg d):=by
  have T:=yG h.zH z;rw[O,j,R,Kf _ _ _ _ J]at T;obtain⟨V,q2⟩:=T;rcases q2 with⟨q2,_⟩| ⟨g',cap',cur,e,q3,q4,q5,q6,q7,q8⟩
  ·cases q2
  ·simp only[xJ,zx,Z9,jJ]at e;obtain⟨rfl,W,rfl⟩:=e;refine⟨by rw[V3 _ _ J],Or.inr ⟨g,cap,cur,rfl,q3,q4,by simp at q5;omega,q6,q7,?_⟩⟩;have:=qB (List.take (d.length*2)) q8;rw[Ko,J4 (by rw[V3 _ _ J])]at this;rw[<-this];congr 1;simp
 have D:rowsOf S.input X m=([zz X.iv S.input,XM X m,⟨24,1,X.vv,m.values.length,X.YR⟩,zz X.ov m.output]++List.zipWith zz xg (d.map Rt.Fm.params))++zz N f.params::List.zipWith zz X.YR m.values:=by
  rw[fP];have:List.zipWith zz X.xg (m.zH.map Rt.Fm.params)=List.zipWith zz xg (d.map Rt.Fm.params)++[zz N f.params]:=by
   rw[O,j,yB,kN (by rw[qR];exact J)];rfl
  rw[this];simp
 have G:=h.own.zP z;rw[D]at G;have F:=G.drop;have x:[zz X.iv S.input,XM X m,⟨24,1,X.vv,m.values.length,X.YR⟩,zz X.ov m.output]++List.zipWith zz xg (d.map Rt.Fm.params)++List.zipWith zz X.YR m.values=[zz X.iv S.input]++XM X m::([⟨24,1,X.vv,m.values.length,X.YR⟩,zz X.ov m.output]++(List.zipWith zz xg (d.map Rt.Fm.params)++List.zipWith zz X.YR m.values)):=by simp
 rw[x]at F;obtain⟨U,o2⟩:=Own.swap (w':=w1) F (r':=⟨153,2,.slice (some ⟨g,0,none⟩) d.length cap,d.length,fCells xg d⟩) (fun k _ _=>rfl) A (fun k hk=>Or.inl (by show X.fv.ownBlock=some k;rw[R];exact hk));have i:rowsOf S.input { X with fv:=.slice (some ⟨g,0,none⟩) d.length cap,xg:=X.xg.dropLast } { m with zH:=d }=[zz X.iv S.input]++⟨153,2,.slice (some ⟨g,0,none⟩) d.length cap,d.length,fCells xg d⟩::([⟨24,1,X.vv,m.values.length,X.YR⟩,zz X.ov m.output]++(List.zipWith zz xg (d.map Rt.Fm.params)++List.zipWith zz X.YR m.values)):=by
  rw[L];rfl
 have I:=h.step (w1:=w1) (m':={ m with zH:=d }) (X':={ X with fv:=.slice (some ⟨g,0,none⟩) d.length cap,xg:=X.xg.dropLast }) z.size (z.block M (zQ h.block)) hk 2 (.slice (some ⟨g,0,none⟩) d.length cap) (by simp[xC]) (by rw[i];exact U) rfl rfl (by rw[L];exact J) h.vl;refine⟨I,VM.B5 (VM.jQ _ z) _ _,?_⟩;rw[<-h.xh,<-I.xh,i];intro k hk3;rcases o2 k hk3 with hk4 | hk4
 ·rw[<-x]at hk4;left;rw[D];exact mP k hk4
 ·exact Or.inr (zi z.size hk4)
section
attribute [local go_sem ↓] Go.wp_at_zero Go.wp_at_succ
theorem A0:(Tryz.prog.info? 153).map (fun i=>(i.zero,i.size,i.bytes))=some (some (.agg #[.slice none 0 0,.int .i64 0]),2,32):=by kernel_rfl
namespace Rt
theorem tt (S:Src) (m:Mc) (d:List (List qM)) (k:Nat) (f:k < d.length) (acc:List Int):argsI S m (d.drop k) acc=if (zr S m d[k]).2=0 then argsI S m (d.drop (k+1)) (acc++[(zr S m d[k]).1])else (acc,(zr S m d[k]).2):=by
 rw[zZ f,argsI]
end Rt
theorem cutM {Goal:Prop} {F:Nat->Nat->World->Prop} {R:Code} {post:Exit->Act->World->Prop} {fr:Nat->Nat->Act} (d:(∀g c wy,F g c wy->Code.wp Tryz.prog R post (fr g c) wy)->Goal) (f:∀g c wy,F g c wy->Code.wp Tryz.prog R post (fr g c) wy):Goal:=d f
theorem Dc {wr w4:World} {fad:Option Addr} {fcap g cap':Nat} {pv:Value} {acc:List Int} {o:Obj} {cF cR:Array Value} {tF tR:TypeId} {F:Nat} (h:jz w M B ty tail S m X) (L:Below w.heap.size w wr) (y:X.fv=.slice fad m.zH.length fcap) (J:wr.ownsRow w.heap.size 3 1 pv acc.length (xR acc)) (x:(wr.alloc o).drew.grownBy w4 (Value.slice fad m.zH.length fcap).ownBlock) (f:w4.ownsRow 0 153 2 (.slice (some ⟨g,0,none⟩) (m.zH.length+1) cap') (m.zH.length+1) (fCells X.xg m.zH++[pv,.int .i64 m.line])) (hat:(Value.slice fad m.zH.length fcap).ownBlock=some g\/g=wr.heap.size+1) (D:wr.heap[F]?=some (.cells cF tF (0,0))) (A:wr.heap[F+1]?=some (.cells cR tR (0,0))) (N:w.heap.size<=F):Z8 M B ty tail S X { X with fv:=.slice (some ⟨g,0,none⟩) (m.zH.length+1) cap',xg:=X.xg++[pv] } { m with zH:=m.zH++[⟨acc,m.line⟩] } w (w4.setCell ⟨M,2,none⟩ (.slice (some ⟨g,0,none⟩) (m.zH.length+1) cap'))/\(w4.setCell ⟨M,2,none⟩ (.slice (some ⟨g,0,none⟩) (m.zH.length+1) cap')).heap[F]?=some (.cells cF tF (0,0))/\(w4.setCell ⟨M,2,none⟩ (.slice (some ⟨g,0,none⟩) (m.zH.length+1) cap')).heap[F+1]?=some (.cells cR tR (0,0)):=by
 have d:Below wr.heap.size wr (wr.alloc o).drew:=((zI _ wr).alloc (zB _) o).drew;rw[<-y]at x hat;obtain⟨I,H,G⟩:=h.A5 L d pv acc m.line J x (.slice (some ⟨g,0,none⟩) (m.zH.length+1) cap') f (fun k hk=>by simp[Value.ownBlock]at hk;subst hk;rcases hat with e | e;exact Or.inl e;exact Or.inr (by omega));have j:=zQ h.block;have z:∀k,w.heap.size<=k->k < wr.heap.size->(w4.setCell ⟨M,2,none⟩ (.slice (some ⟨g,0,none⟩) (m.zH.length+1) cap')).heap[k]?=wr.heap[k]?:=by
  intro k hk i;rw[zO w4 ⟨M,2,none⟩ _ k (by show k≠M;omega),x.block k (zX i d.size) (fun e=>by have:=(h.zH.lt k e.symm).2;omega)];exact d.block k i
 exact⟨⟨I,H,G,j⟩,(z F N (zQ D)).trans D,(z (F+1) (by omega) (zQ A)).trans A⟩
theorem Ae {BB:Nat} {fm:Rt.qS} {a1 a2 a3:Option Addr} {c1 c2 c3:Nat} (h:jz w M B ty tail S m X) (hm:dL S m) (hf:qk w BB (Qd fm a1 a2 a3 c1 c2 c3) fm) (a4:Rt.Small fm) (hk:fm.kind=12):Calls Tryz.prog 150 #[.pointer (some ⟨M,0,none⟩),.agg (Qd fm a1 a2 a3 c1 c2 c3)] w (eE M B ty tail S X (Rt.perform S m fm) w):=by
 obtain⟨i0,f1,d3,d1,d0⟩:=yi XL;obtain⟨j0,f0,d7,d5,d4⟩:=yi A0;have hbA:=((zI w.heap.size w).alloc (zB _) (.cells (Qd fm a1 a2 a3 c1 c2 c3) 143)).alloc (by simp) (.cells #[.int .i64 0,.int .i64 0,.slice none 0 0] 157);have bF:=yR (zN w (.cells (Qd fm a1 a2 a3 c1 c2 c3) 143)) (.cells #[.int .i64 0,.int .i64 0,.slice none 0 0] 157);have bR:=qD w (.cells (Qd fm a1 a2 a3 c1 c2 c3) 143) (.cells #[.int .i64 0,.int .i64 0,.slice none 0 0] 157);have HP:=zD (show Rt.perform S m fm=if (Rt.argsI S m fm.values []).2=0 then (if 6<=m.zH.length then Rt.ended m 5 else ⟨0,wrap64 (Rt.xb S.zL fm.name+1),[⟨2,m.line,⟨0,0⟩,0⟩],{ m with zH:=m.zH++[⟨(Rt.argsI S m fm.values []).1,m.line⟩] }⟩)else Rt.ended m (Rt.argsI S m fm.values []).2 by unfold Rt.perform;simp only;rw[zA (by omega),zA (by omega),zA (by omega),zA (by omega),zA (by omega),zE hk]);have U:=XX h hm hf;have g8:=a4.values;have HE:=zD a4.each;have g5:=zQ h.block;clear h hf hk hm a4;go_enter func150,ntmps150;go_wp2_with fail;go_loopw [5,6,7,8] (fun pv i _ _ wr=>∃(k:Nat) (acc:List Int),k<=fm.values.length/\i=.int .i64 k/\acc.length=k/\Rt.argsI S m (fm.values.drop k) acc=Rt.argsI S m fm.values []/\wr.ownsRow (w.heap.size+2) 3 1 pv acc.length (xR acc)/\wr.heap[w.heap.size]?=some (.cells (Qd fm a1 a2 a3 c1 c2 c3) 143 (0,0))/\wr.heap[w.heap.size+1]?=some (.cells #[.int .i64 0,.int .i64 0,.slice none 0 0] 157 (0,0))/\Below w.heap.size w wr)
  (fun _ i _ _ _=>fm.values.length-(intOf i).toNat)
 case atStart=>exact⟨0,[],zo _,rfl,rfl,rfl,zW _ _ _ _,bF,bR,hbA⟩
 case round=>
  clear bF bR hbA;obtain⟨k,acc,hk,rfl,b7,hT,A,T,I,d⟩:=hrel;subst b7;obtain⟨Z,N,rfl⟩:=zK A;obtain⟨y0,y1,y2,y3,y4,y5,z0,z1,z2,z3,z4,z5⟩:=YD T;by_cases hlt:acc.length < fm.values.length
  ·have b5:(acc.length:Int) < (fm.values.length:Int):=by omega
   have h0:(0:Int)<=(acc.length:Int):=by omega
   obtain⟨FP,g7,vv,vs,a6,_,_,b3,b4⟩:=ZY U.u.2.2 d;have d8:vv=.slice a3 fm.values.length c3:=by simp[Qd]at a6;exact a6.2.2.symm
   subst d8;obtain⟨xv,b1,a0⟩:=qi.get _ _ acc.length hlt b4;obtain⟨h4,g6,rfl⟩:=zK a0;obtain⟨g,cap',hg,_,b6,cx⟩:=yD b3 b1;simp at hg;obtain⟨rfl,rfl⟩:=hg;have d9:=HE.u _ (zj hlt);have a9:=tt S m fm.values acc.length hlt acc;rw[hT]at a9;have HT:=zD a9;have L:=gN A T I d;clear a9 hT A T I b3 b4 b1 a6;generalize fm.values[acc.length]=ov at *;have HV:=zD (fun (W:World) (hW:Below wr.heap.size wr W)=>Ju ((U.u.1.zP d).zP hW) U.u.2.1 (yG a0 hW) d9);clear a0 d;go_wp2_with fail;refine(HV.u _ (zI _ _)).mono ?_;rintro e w1 ⟨rfl,O⟩;obtain⟨A,T,I,d⟩:=L.u;have G:=yG A O;have J:=zU T O;have x:=zU I O;have j:=d.trans (O.mono (B':=w.heap.size) d.size);clear A T I d O L HV b6 cx y0 y1 y2 y3 y4 y5 z0 z1 z2 z3 z4 z5;generalize Rt.zr S m ov=y at *;obtain⟨v1,v2⟩:=y;simp only at HT;by_cases hv:v2=0
   ·subst hv
    replace HT:=zD (HT.u.trans (zE rfl))
    have f2:=zQ x;have L:=gN G J x j;clear J x j;go_wp2_with (at_builtin;refine wpList_append_lies _ rfl _ _ 24 rfl (w.heap.size+2) 3 i0 _ 1 8 underlying24 f1 d3 d1 d0 rfl (by decide) _ _ _ rfl (G.alloc _) ⟨w1.heap.size,0,none⟩ 1 1 [.int .i64 v1] rfl rfl (cell_one_new _ _ _) (by simp[Value.oneCell']) (by omega) (by unfold maxLen;omega) (by omega) (by simp;omega) (w1.heap.size+1) (by simp) ?_);intro g' cap' w4 D f a7 b2;obtain⟨_,J,x,j⟩:=L.u;have R:Below (w.heap.size+2) w1 w4:=Below.grown ((zI (w.heap.size+2) w1).alloc (by omega) _) f (by simp;omega) (fun q hq=>(G.lt q hq).1);have V:=zD (show _/\_/\_/\_ from⟨D,(R.block _ (by omega)).trans J,(R.block _ (by omega)).trans x,j.trans (R.mono (B':=w.heap.size) (by omega))⟩);clear D f a7 G J x j R L f2;go_wp2_with fail;go_roundw
    case rel=>
     obtain⟨q1,q2,q3,q4⟩:=V.u;exact⟨acc.length+1,acc++[v1],by omega,by go_num,by simp,HT.u.symm,by rw[ze,xR,yB];exact q1,q2,q3,q4⟩
    case measure=>simp[intOf];omega
   ·replace HT:=zD (HT.u.trans (zA hv))
    have b0:=zD (show Rt.perform S m fm=Rt.ended m v2 by rw[HP.u,HT.u];exact zA hv);have bv:(v2 != 0)=true:=by simpa using hv
    obtain⟨r0,r1,r2⟩:=yb x;have z:=zS x;have V:=zD (fun a b c=>(Z8.start U.u.1 j).three x (by omega) (by unfold Xe;decide) a b c);clear G J x j HP HT hv;go_wp2_with fail;refine zT (v:=.agg #[.int .i64 v2,.int .i64 0,.slice none 0 0]) ?_ rfl ⟨_,_,by rw[b0.u];rfl,by rw[b0.u];exact V.u _ _ _,by rw[b0.u];exact zW _ _ _ _⟩;simp[results,results150,go_sem,r0,r1,r2]
  ·have b5:¬(acc.length:Int) < (fm.values.length:Int):=by omega
   have HT:=zD (show Rt.argsI S m fm.values []=(acc,0) by rw[<-hT,zp (by omega)];rfl);have a8:=HP.u.trans (zE (by rw[HT.u]));rw[HT.u]at a8
   replace HP:=zD a8
   clear a8;have o:=U.u.1.zP d;have b9:=o.c2;have f5:=o.c6;obtain⟨f4,b8,H⟩:=zK o.zH;rw[H]at b9;by_cases h6:6<=m.zH.length
   ·have f3:(6:Int)<=(m.zH.length:Int):=by omega
    replace HP:=zD (HP.u.trans (zE h6))
    obtain⟨r0,r1,r2⟩:=yb I;have z:=zS I;have V:=zD (fun a b c=>(Z8.start U.u.1 d).three I (by omega) (by unfold Xe;decide) a b c);clear o H h6 I T A d hT hlt;go_wp2_with fail;refine zT (v:=.agg #[.int .i64 5,.int .i64 0,.slice none 0 0]) ?_ rfl ⟨_,_,by rw[HP.u];rfl,by rw[HP.u];exact V.u _ _ _,by rw[HP.u];exact zW _ _ _ _⟩;simp[results,results150,go_sem,r0,r1,r2]
   ·have f3:¬(6:Int)<=(m.zH.length:Int):=by omega
    replace HP:=zD (HP.u.trans (zA h6))
    have L:=GW o A T I d H;have a5:=o.zH;rw[H]at a5;have f7:=zD (show some M≠(Value.slice f4 m.zH.length b8).ownBlock by rw[<-H];exact xK o.uk);have f9:=zD o.block;have h1:=zQ o.block;have f8:=zD a5;have g9:=d.size;clear o H I T A d hT hlt a5;go_wp2_with fail;apply cutM (F:=fun g c wy=>Z8 M B ty tail S X { X with fv:=.slice (some ⟨g,0,none⟩) (m.zH.length+1) c,xg:=X.xg++[.slice Z acc.length N] } { m with zH:=m.zH++[⟨acc,m.line⟩] } w wy/\wy.heap[w.heap.size]?=some (.cells (Qd fm a1 a2 a3 c1 c2 c3) 143 (0,0))/\wy.heap[w.heap.size+1]?=some (.cells #[.int .i64 0,.int .i64 0,.slice none 0 0] 157 (0,0)))
    ·intro c0;have f6:=zD c0;clear c0;go_region_law
      ((refine step_append_lies _ (by rfl) _ _ _ (by rfl) 0 153 j0 _ 2 32 underlying88 f0 d7 d5 d4 rfl (by omega) _ m.zH.length (fCells X.xg m.zH) (by rfl) ((f8.u.alloc _).drew) ⟨wr.heap.size,0,none⟩ 1 1 [.slice Z acc.length N,.int .i64 m.line] (by rfl) (by rfl) (World.news_of_block (cs:=#[.slice Z acc.length N,.int .i64 m.line]) (t:=153) (fr:=(0,0)) (zN wr _)) (by simp[Value.oneCell']) (by omega) (by unfold maxLen;omega) (by omega) (zo _) (wr.heap.size+1) (by simp) ?_;intro g cap' w4 D f a7 b2;have bM:=(f.block M (by simp;omega) f7.u).trans (yR f9.u _);have d2:w4.cell? ⟨M,2,none⟩=some X.fv:=(by have:=zC bM 2 (by simp);simpa using this);rw[L.u.2.2.2.2.2]at d2;have d6:w4.cell? ⟨M,6,none⟩=some (.int .i64 m.line):=(by have:=zC bM 6 (by simp);simpa using this);have e2:=zS bM 2))
     all_goals
      rename_i hKK;refine hKK _ _ ?_;have hwy:=Dc U.u.1 L.u.2.2.2.2.1 L.u.2.2.2.2.2 (yn L.u.2.1 (by omega)) f D a7 L.u.2.2.1 L.u.2.2.2.1 (zB _);revert hwy;generalize w4.setCell ⟨M,2,none⟩ (.slice (some ⟨g,0,none⟩) (m.zH.length+1) cap')=wy;intro hwy;exact f6.u _ _ _ hwy
    ·intro g c wy I;obtain⟨hA,bF,bR⟩:=I;clear b9 f5;obtain⟨y0,y1,y2,y3,y4,y5,z0,z1,z2,z3,z4,z5⟩:=YD bF;go_wp2_with fail;go_region_held3 (fun w'=>w'.cell? ⟨w.heap.size,1,none⟩=some (.string fm.name)) (go_keep) ((go_at_call 143;refine(XE fm.name (hA.mc.prog.zP (by exact⟨rfl,rfl,rfl,zB _,fun _ _=>rfl⟩)) U.u.2.1.zL).mono ?_;rintro e w5 ⟨rfl,rfl⟩));have hAz:=hA.below (zh wy);have bRz:=zU bR (zh wy);clear hA bF bR y0 y1 y2 y3 y4 y5 z0 z1 z2 z3 z4 z5;revert hAz bRz;generalize wy.drew=wz;intro hAz bRz;have d6:wz.cell? ⟨M,6,none⟩=some (.int .i64 m.line):=hAz.mc.c6;obtain⟨r0,r1,r2⟩:=yb bRz;have z:=zS bRz;have g4:=zQ bRz;have h3:=zQ hAz.mc.block;have hQ:=hAz.vz.size;have h2:¬M=w.heap.size+1:=by omega
     have g3:¬w.heap.size+1=wz.heap.size:=by omega
     have g2:¬wz.heap.size=w.heap.size+1:=by omega
     have g1:¬M=wz.heap.size:=by omega
     have g0:¬w.heap.size+1=M:=by omega
     have V:=zD (fun a b c=>And.intro ((hAz.three bRz (by omega) (by unfold Xe;decide) a b c).below ((zI _ _).alloc (zB _) (.cells #[.int .i64 2,.int .i64 m.line,.int .i64 0,.int .i64 0,.int .i64 0] 162))) (eQ 1 wz w.heap.size (w.heap.size+1) #[.int .i64 2,.int .i64 m.line,.int .i64 0,.int .i64 0,.int .i64 0] hQ a b c rfl (by omega)));have HG:=zD (fun a b c:Value=>yb (yR (Km bRz a b c) (.cells #[.int .i64 2,.int .i64 m.line,.int .i64 0,.int .i64 0,.int .i64 0] 162)));generalize Rt.xb S.zL fm.name=dl at *;clear hAz bRz;go_wp2_with fail;refine zT (v:=.agg #[.int .i64 0,.int .i64 (wrap64 (dl+1)),.slice (some ⟨wz.heap.size,0,none⟩) 1 1]) ?_ rfl ⟨_,_,by rw[HP.u],by rw[HP.u];exact(V.u _ _ _).1,by rw[HP.u];exact(V.u _ _ _).2⟩;have E:=HG.u (.int .i64 0) (.int .i64 (wrap64 (dl+1))) (.slice (some ⟨wz.heap.size,0,none⟩) 1 1);revert E;generalize (W3 wz (w.heap.size+1) (.int .i64 0) (.int .i64 (wrap64 (dl+1))) (.slice (some ⟨wz.heap.size,0,none⟩) 1 1)).alloc (.cells #[.int .i64 2,.int .i64 m.line,.int .i64 0,.int .i64 0,.int .i64 0] 162)=wq;intro E;simp[results,results150,go_sem,E.1,E.2.1,E.2.2]
namespace Rt
def Vv (m:Mc):Out:=
 if m.zH.length < 2 then ended m 1
 else ⟨0,wrap64 ((m.zH.getLastD Qe).call+1),⟨3,m.line,⟨0,0⟩,(m.zH.getLastD Qe).call⟩::(m.zH.getLastD Qe).params.map (fun v=>⟨7,0,⟨0,0⟩,v⟩),{ m with zH:=m.zH.dropLast }⟩
theorem iX (S:Src) (m:Mc) (f:qS) (k:¬f.kind=8) (j:¬f.kind=9) (i:¬f.kind=10) (h:¬f.kind=11) (x:¬f.kind=5) (o:¬f.kind=7) (d:¬f.kind=12):perform S m f=Vv m:=by
 unfold perform Vv;simp only;rw[zA k,zA j,zA i,zA h,zA (by omega),zA d]
end Rt
theorem Ej:(Tryz.prog.info? 162).map (fun i=>(i.zero,i.size,i.bytes))=some (some (.agg #[.int .i64 0,.int .i64 0,.int .i64 0,.int .i64 0,.int .i64 0]),5,40):=by kernel_rfl
theorem gH (h:¬m.zH.length < 2):∃fs f,m.zH=fs++[f]/\1<=fs.length/\m.zH.getLastD Rt.Qe=f/\m.zH.dropLast=fs:=by
 have d:m.zH≠[]:=by intro e;rw[e]at h;simp at h
 refine⟨m.zH.dropLast,m.zH.getLast d,(xj d).symm,by rw[XU];omega,?_,rfl⟩;rw[xk,xd d];rfl
theorem iq (h:jz w M B ty tail S m X) (d:List Rt.Fm) (f:Rt.Fm) (x:m.zH=d++[f]) (k:m.zH.length<=1000):Calls Tryz.prog 184 #[.pointer (some ⟨M,0,none⟩)] w fun e w'=>e=.returned (.tuple #[])/\∃X',Z8 M B ty tail S X X' { m with zH:=d } w w':=by
 obtain⟨g,cap,j,y⟩:∃g cap,X.fv=.slice (some ⟨g,0,none⟩) (d.length+1) cap/\d.length+1<=cap:=by
  have h1:=h.zH;rw[x,ze,yl]at h1;rcases h1.2 with⟨e,e2⟩| ⟨g,cap,cur,e,_,_,e3,_⟩
  ·simp at e2
  ·exact⟨g,cap,e,e3⟩
 have D:=h.c2;rw[j]at D;have L:=h.fz 2;have H:d.length+1<=1000:=by rw[x]at k;simpa using k
 have G:IntKind.i64.wrap (((d.length+1:Nat):Int)-1)=(d.length:Int):=by rw[yv,yC _ (by omega)];omega
 have A:IntKind.i64.wrap ((d.length:Int)+1-1)=(d.length:Int):=by rw[yv,yC _ (by omega)];omega
 have z:IntKind.i64.wrap (d.length:Int)=(d.length:Int):=by rw[yv,yC _ (by omega)]
 have J:(0:Int) < (d.length:Int)+1:=by omega
 have h1:(0:Int)<=(d.length:Int):=by omega
 have I:(d.length:Int)<=(cap:Int):=by omega
 have o:=zQ h.block;have i:=h.DD (w1:=w.drew) d f x g cap j (zh w);have F:=zD (show Z8 M B ty tail S X _ { m with zH:=d } w _ from⟨i.1,i.2.1,i.2.2,o⟩);clear h j i;go_enter func184,ntmps184;go_wp2_with fail;go_region_law (fail)
 all_goals
  go_wp2_with fail;go_end0;exact⟨rfl,_,F.u⟩
end
namespace Rt
theorem VG (S:Src) (m:Mc):∀(vs:List (List qM)) (acc:List Int),(argsI S m vs acc).2=0->(argsI S m vs acc).1.length=acc.length+vs.length
 | [],acc,_=>by simp[argsI]
 | e::r,acc,h=>by
  rw[argsI]at h ⊢;split
  ·next he=>
   rw[zE he]at h;rw[VG S m r _ h];simp;omega
  ·next he=>rw[zA he]at h;exact absurd h he
end Rt
structure Good (S:Rt.Src):Prop where
 small:∀n,Rt.Small (Rt.yA S.zL n)
 fwd:mX S.zL S.lk
 Zi:dL S (Rt.firstM S)
structure XW (S:Rt.Src) (m:Rt.Mc):Prop where
 Zi:dL S m
 lo:1<=m.zH.length
 hi:m.zH.length<=6
 out:m.output.length<=50
theorem lI (h:XW S m) (s:Rt.Q9) (v:Int):XW S (Rt.jN m s v):=by
 unfold Rt.jN;split
 ·split
  ·refine⟨⟨h.Zi.zL,h.Zi.input,h.Zi.zH,by simpa using h.Zi.values,h.Zi.output,h.Zi.params,?_,h.Zi.ZX⟩,h.lo,h.hi,h.out⟩;intro l d;obtain⟨i,f,rfl⟩:=XT.mp d;simp only[jW];split
   ·rw[jD];exact h.Zi.cells _ (zj _)
   ·exact h.Zi.cells _ (zj _)
  ·refine⟨⟨h.Zi.zL,h.Zi.input,by simpa using h.Zi.zH,h.Zi.values,h.Zi.output,?_,h.Zi.cells,h.Zi.ZX⟩,by simpa using h.lo,by simpa using h.hi,h.out⟩;intro l d;obtain⟨i,f,rfl⟩:=XT.mp d;simp only[jW];split
   ·simp only[jD];exact h.Zi.params _ (zj _)
   ·exact h.Zi.params _ (zj _)
 ·exact h
theorem iY (h:XW S m) {f:Rt.qS} (j:Rt.Small f):XW S (Rt.perform S m f).m:=by
 have d:=h.lo;have i:=h.hi;unfold Rt.perform;simp only
 repeat' split
 all_goals first
  | exact h
  | exact lI h _ _
  | skip
 ·exact⟨⟨h.Zi.zL,h.Zi.input,h.Zi.zH,h.Zi.values,by simp;omega,h.Zi.params,h.Zi.cells,h.Zi.ZX⟩,h.lo,h.hi,by simp;omega⟩
 ·have:=lI h (Rt.vx S m f.name) ((S.input[m.taken.toNat]?).getD 0);exact⟨⟨this.Zi.zL,this.Zi.input,this.Zi.zH,this.Zi.values,this.Zi.output,this.Zi.params,this.Zi.cells,this.Zi.ZX⟩,this.lo,this.hi,this.out⟩
 ·next ha hn=>
  refine⟨⟨h.Zi.zL,h.Zi.input,by simp;omega,h.Zi.values,h.Zi.output,?_,h.Zi.cells,h.Zi.ZX⟩,by simp,by simp;omega,h.out⟩;intro g hg;rcases zd.mp hg with hg | hg
  ·exact h.Zi.params g hg
  ·rw[yN.mp hg];have:=VG S m f.values [] ha;have:=j.values;simp only[qQ]at *;omega
 ·refine⟨⟨h.Zi.zL,h.Zi.input,by simp;omega,h.Zi.values,h.Zi.output,fun g hg=>h.Zi.params g (vL _ hg),h.Zi.cells,h.Zi.ZX⟩,by simp;omega,by simp;omega,h.out⟩
theorem fK (d:Good S) (h:XW S m):XW S (Rt.qd S m).1:=by
 unfold Rt.qd;split
 ·simp only;split
  ·have:=iY h (f:=(Rt.yA S.zL m.line)) (d.small _);exact⟨⟨this.Zi.zL,this.Zi.input,this.Zi.zH,this.Zi.values,this.Zi.output,this.Zi.params,this.Zi.cells,this.Zi.ZX⟩,this.lo,this.hi,this.out⟩
  ·exact⟨⟨h.Zi.zL,h.Zi.input,h.Zi.zH,h.Zi.values,h.Zi.output,h.Zi.params,h.Zi.cells,h.Zi.ZX⟩,h.lo,h.hi,h.out⟩
 ·exact h
theorem ph (d:Good S):XW S (Rt.firstM S):=⟨d.Zi,by simp[Rt.firstM],by simp[Rt.firstM],by simp[Rt.firstM]⟩
end Go.Proofs.YthleadfkfnnadaaGreat
