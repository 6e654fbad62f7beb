/- The document's answer: a place is copied. -/
import Derived.Test.YthleadfkfnnadaaGreatRgF
set_option maxHeartbeats 4000000
set_option maxRecDepth 100000
set_option linter.unusedSimpArgs false
namespace Go.Proofs.YthleadfkfnnadaaGreat
open Go.Proofs.Tryz
open Go.RowKit
variable {B P:Nat} {X:Qg} {p:Rf.Pl} {w w1:World}
theorem vC.uL {p':Rf.Pl} {X':Qg} (h:vC w B P p X) (N:B<=w.heap.size) {A C:List Rw} {r r':Rw} (i:Nat) (v:Value) (j:yO X p=A++r::C) (f:yO X' p'=A++r'::C) (o:∀k,k < w.heap.size->r.v.ownBlock≠some k->w1.heap[k]?=w.heap[k]?) (d:w1.os=w.os/\w1.tape=w.tape/\w1.output=w.output/\w.heap.size<=w1.heap.size) (I:w1.ownsRow 0 r'.t r'.size r'.v r'.n r'.xs) (G:∀g,r'.v.ownBlock=some g->r.v.ownBlock=some g\/w.heap.size<=g) (J:(jh X.fv X.vv X.cv X.ov p).setIfInBounds i v=jh X'.fv X'.vv X'.cv X'.ov p') (L:X'.xg.length=p'.zH.length) (M:X'.kB.length=p'.cells.length):vC (w1.setCell ⟨P,i,none⟩ v) B P p' X'/\Below B w (w1.setCell ⟨P,i,none⟩ v):=by
 have x:∀k,r.v.ownBlock=some k->k∈xh (yO X p):=fun k e=>by rw[j];exact qU (r:=r) (by simp) e
 have y:r.v.ownBlock≠some P:=fun e=>h.apart (x P e) rfl;have z:=zQ h.block;have F:w1.heap[P]?=some (.cells (jh X.fv X.vv X.cv X.ov p) 72 (0,0)):=(o P z y).trans h.block;have H:=h.own;rw[j]at H;obtain⟨D,o2⟩:=Own.swap (w':=w1) H (r':=r') o I G;have hcase:∀k∈xh (yO X' p'),k∈xh (yO X p)\/w.heap.size<=k:=by
  intro k hk;rw[f]at hk;rcases o2 k hk with hk | hk
  ·rw[<-j]at hk;exact Or.inl hk
  ·exact Or.inr hk
 refine⟨⟨by rw[zf F,J],?_,L,M,fun k hk=>?_,h.here⟩,?_⟩
 ·rw[<-f]at D;exact⟨fun r hm=>yP (D.rows r hm) (fun g hg=>zO w1 ⟨P,i,none⟩ _ g (by
   show g≠P;rcases hcase g (qU hm hg)with hk | hk
   ·exact h.apart hk
   ·omega)),D.apart⟩
 ·rcases hcase k hk with hk | hk
  ·exact h.new k hk
  ·omega
 ·refine yx ?_ h.here _ _;refine⟨d.1,d.2.1,d.2.2.1,d.2.2.2,fun k hk=>o k (by omega) (fun e=>?_)⟩;have:=h.new k (x k e);omega
theorem rI (h:Below B w w1):w1.os=w.os/\w1.tape=w.tape/\w1.output=w.output/\w.heap.size<=w1.heap.size:=⟨h.os,h.tape,h.output,h.size⟩
theorem vC.uU (h:vC w B P p X) (i:B<=w.heap.size) (f:Below w.heap.size w w1) (v:Value) (xs:List Int) (d:w1.ownsRow w.heap.size 3 1 v xs.length (xR xs)):vC (w1.setCell ⟨P,1,none⟩ v) B P { p with vars:=xs } { X with vv:=v }/\Below B w (w1.setCell ⟨P,1,none⟩ v):=
 h.uL i (A:=[jy X.fv X.xg p.zH]) (r:=zz X.vv p.vars) (r':=zz v xs) 1 v rfl rfl (fun k hk _=>f.block k hk) (rI f) (vr d) (fun g hg=>Or.inr (d.lt g hg).1) rfl h.fl h.cl
theorem vC.Fz (h:vC w B P p X) (i:B<=w.heap.size) (f:Below w.heap.size w w1) (v:Value) (xs:List Int) (d:w1.ownsRow w.heap.size 3 1 v xs.length (xR xs)):vC (w1.setCell ⟨P,4,none⟩ v) B P { p with out:=xs } { X with ov:=v }/\Below B w (w1.setCell ⟨P,4,none⟩ v):=
 h.uL i (A:=[jy X.fv X.xg p.zH,zz X.vv p.vars,YF X.cv X.kB p.cells.length]) (r:=zz X.ov p.out) (r':=zz v xs) 4 v rfl rfl (fun k hk _=>f.block k hk) (rI f) (vr d) (fun g hg=>Or.inr (d.lt g hg).1) rfl h.fl h.cl
theorem vC.EL {wx wy:World} (h:vC w B P p X) (T:B<=w.heap.size) (o:Below w.heap.size w wx) (f:Below wx.heap.size wx wy) (pv:Value) (c:List Int) (M:wx.ownsRow w.heap.size 3 1 pv c.length (xR c)) (hg:wy.grownBy w1 X.cv.ownBlock) (d:Value) (y:w1.ownsRow 0 24 1 d (p.cells.length+1) (X.kB++[pv])) (O:∀g,d.ownBlock=some g->X.cv.ownBlock=some g\/wx.heap.size<=g):vC (w1.setCell ⟨P,2,none⟩ d) B P { p with cells:=p.cells++[c] } { X with cv:=d,kB:=X.kB++[pv] }/\Below B w (w1.setCell ⟨P,2,none⟩ d):=by
 have A:∀k,k < wx.heap.size->X.cv.ownBlock≠some k->w1.heap[k]?=wx.heap[k]?:=fun k hk hv=>(hg.block k (zX hk f.size) (xK hv)).trans (f.block k hk);have i:∀k,k < w.heap.size->X.cv.ownBlock≠some k->w1.heap[k]?=w.heap[k]?:=fun k hk hv=>(A k (zX hk o.size) hv).trans (o.block k hk);have D:∀k,X.cv.ownBlock=some k->k∈xh (yO X p):=fun k e=>qU (r:=YF X.cv X.kB p.cells.length) (by simp[yO]) e;have F:X.cv.ownBlock≠some P:=fun e=>h.apart (D P e) rfl;have G:=zQ h.block;have N:w1.heap[P]?=some (.cells (jh X.fv X.vv X.cv X.ov p) 72 (0,0)):=(i P G F).trans h.block;have L:=h.own.zP o;have I:∀g,pv.ownBlock=some g->g∉xh (yO X p):=fun g hg hm=>by
  have V:=h.own.lt g hm;have U:=(M.lt g hg).1;omega
 have J:Own wx (yO X p++zz pv c::[]):=Own.add (by rw[yX];exact L) (vr M) (fun g hg=>by rw[yX];exact I g hg);have x:yO X p++zz pv c::[]=[jy X.fv X.xg p.zH,zz X.vv p.vars]++YF X.cv X.kB p.cells.length::(zz X.ov p.out::(List.zipWith zz X.xg (p.zH.map Rf.Fr.args)++(List.zipWith zz X.kB p.cells++[zz pv c]))):=by simp[yO]
 have z:=J;rw[x]at z;obtain⟨H,o2⟩:=Own.swap (w':=w1) z (r':=YF d (X.kB++[pv]) (p.cells.length+1)) A y O;have R:List.zipWith zz (X.kB++[pv]) (p.cells++[c])=List.zipWith zz X.kB p.cells++[zz pv c]:=by
  rw[kN h.cl];rfl
 have j:yO { X with cv:=d,kB:=X.kB++[pv] } { p with cells:=p.cells++[c] }=[jy X.fv X.xg p.zH,zz X.vv p.vars]++YF d (X.kB++[pv]) (p.cells.length+1)::(zz X.ov p.out::(List.zipWith zz X.xg (p.zH.map Rf.Fr.args)++(List.zipWith zz X.kB p.cells++[zz pv c]))):=by
  unfold yO;simp only[R,ze,yl,yF,xN]
 have hcase:∀k∈xh (yO { X with cv:=d,kB:=X.kB++[pv] } { p with cells:=p.cells++[c] }),k∈xh (yO X p)\/w.heap.size<=k:=by
  intro k hk;rw[j]at hk;rcases o2 k hk with hk | hk
  ·rw[<-x]at hk;rcases Ji hk with hk | hk
   ·rw[yX]at hk;exact Or.inl hk
   ·exact Or.inr (M.lt k hk).1
  ·exact Or.inr (zi o.size hk)
 refine⟨⟨by rw[zf N];rfl,?_,h.fl,by simp[h.cl],fun k hk=>?_,h.here⟩,?_⟩
 ·rw[<-j]at H;exact⟨fun r hm=>yP (H.rows r hm) (fun g hg=>zO w1 ⟨P,2,none⟩ _ g (by
   show g≠P;rcases hcase g (qU hm hg)with hk | hk
   ·exact h.apart hk
   ·omega)),H.apart⟩
 ·rcases hcase k hk with hk | hk
  ·exact h.new k hk
  ·omega
 ·refine yx ?_ h.here _ _;refine⟨hg.os.trans (f.os.trans o.os),hg.tape.trans (f.tape.trans o.tape),hg.output.trans (f.output.trans o.output),zi (zi o.size f.size) hg.size,fun k hk=>i k (by omega) (fun e=>?_)⟩;have:=h.new k (D k e);omega
structure Xd (w:World) (B:Nat) (p:Rf.Pl) (X:Qg):Prop where
 own:Own w (yO X p)
 fl:X.xg.length=p.zH.length
 cl:X.kB.length=p.cells.length
 new:∀k∈xh (yO X p),B<=k
theorem Xd.at (h:Xd w B p X) {w':World} (d:Below w.heap.size w w') (f:w'.heap[P]?=some (.cells (jh X.fv X.vv X.cv X.ov p) 72 (0,0))) (i:B<=P):vC w' B P p X:=
 ⟨f,h.own.zP d,h.fl,h.cl,h.new,i⟩
theorem vC.rows (h:vC w B P p X):Xd w B p X:=⟨h.own,h.fl,h.cl,h.new⟩
theorem Xd.aside {w0:World} {N:Nat} {c:Array Value} (h:Xd w B p X/\w.heap[N]?=some (.cells c 72 (0,0))/\Below B w0 w) (k:B<=N) (i:Nat) (v:Value):Xd (w.setCell ⟨N,i,none⟩ v) B p X/\(w.setCell ⟨N,i,none⟩ v).heap[N]?=some (.cells (c.setIfInBounds i v) 72 (0,0))/\Below B w0 (w.setCell ⟨N,i,none⟩ v):=by
 obtain⟨h,f,j⟩:=h;refine⟨⟨⟨fun r hr=>yP (h.own.rows r hr) (fun g hg=>zO w ⟨N,i,none⟩ _ g ?_),h.own.apart⟩,h.fl,h.cl,h.new⟩,zf f i v,yx j k i v⟩;rintro rfl;obtain⟨o,d⟩:=yW (h.own.rows r hr) hg;rw[f]at d;injection d with d;injection d with _ d;rcases Yr hr with e | e | e <;> rw[e]at d <;> exact absurd d (by decide)
structure PlB (p:Rf.Pl):Prop where
 zH:p.zH.length<=1000
 args:∀f∈p.zH,f.args.length<=1000
 vars:p.vars.length<=1000
 cells:p.cells.length<=1000
 each:∀c∈p.cells,c.length<=1000
 out:p.out.length<=1000
def G0 (p:Rf.Pl) (w:World) (e:Ending) (w':World):Prop:=Below w.heap.size w w'/\∃X,e=.returned (.agg (jh X.fv X.vv X.cv X.ov p))/\Xd w' w.heap.size p X
def aT (p:Rf.Pl) (k:Nat):Rf.Pl:=⟨p.zH.take k,[],[],p.read,[],p.line,p.fin⟩
def KR (p:Rf.Pl) (k:Nat):Rf.Pl:=⟨p.zH,p.vars,p.cells.take k,p.read,[],p.line,p.fin⟩
theorem nd (w:World) {a b c:Obj}:(((w.alloc a).alloc b).alloc c).heap[w.heap.size+2]?=some c:=by
 have:=zN ((w.alloc a).alloc b) c;rw[show ((w.alloc a).alloc b).heap.size=w.heap.size+2 by simp]at this;exact this
def CW:Qg:=⟨.slice none 0 0,.slice none 0 0,.slice none 0 0,.slice none 0 0,[],[]⟩
theorem vC.start {Q:Nat} (h:p.zH=[]) (j:p.vars=[]) (i:p.cells=[]) (o:p.out=[]) (x:w.heap[Q]?=some (.cells #[.slice none 0 0,.slice none 0 0,.slice none 0 0,.int .i64 p.read,.slice none 0 0,.int .i64 p.line,.int .i64 p.fin] 72 (0,0))) (y:B<=Q):vC w B Q p CW:=by
 have f:yO CW p=[⟨130,3,.slice none 0 0,0,[]⟩,⟨3,1,.slice none 0 0,0,[]⟩,⟨24,1,.slice none 0 0,0,[]⟩,⟨3,1,.slice none 0 0,0,[]⟩]:=by
  unfold yO;rw[h,j,i,o];rfl
 have d:xh (yO CW p)=[]:=by rw[f];rfl
 refine⟨x,⟨fun r hm=>?_,by rw[d];exact List.nodup_nil⟩,by rw[h];rfl,by rw[i];rfl,fun k hk=>by rw[d]at hk;simp at hk,y⟩;rw[f]at hm;simp only[zw,qb,Z2]at hm;rcases hm with rfl | rfl | rfl | rfl <;> exact zW _ _ _ _
theorem Vz:(Tryz.prog.info? 130).map (fun i=>(i.zero,i.size,i.bytes))=some (some (.agg #[.int .i64 0,.slice none 0 0,.int .i64 0]),3,40):=by kernel_rfl
theorem gj {fv vv cv ov:Value} (h:Bf w fv vv cv ov p) (hp:PlB p):Calls Tryz.prog 95 #[.agg (jh fv vv cv ov p)] w (G0 p w):=by
 obtain⟨i0,k5,j8,j7,j6⟩:=yi cj;obtain⟨j0,i6,k4,k3,j9⟩:=yi Vz;have HV:=zD h;have HP:=zD hp;obtain⟨fb,fo,d9,rfl,i7⟩:=h.zH;obtain⟨cb,co,f5,rfl,i8⟩:=h.cells;obtain⟨g6,d7,rfl,_⟩:=h.vars;obtain⟨g7,d8,rfl,_⟩:=h.out;have l2:=zD i7;have l4:=zD i8;clear h hp i7 i8;unfold jh;go_enter func95,ntmps95;go_wp2_with fail;go_loopw [4,5] (fun i _ wr=>∃(k:Nat) (X:Qg),k<=p.zH.length/\i=.int .i64 k/\X.vv=.slice none 0 0/\X.cv=.slice none 0 0/\X.ov=.slice none 0 0/\X.kB=[]/\vC wr w.heap.size (w.heap.size+1+1) (aT p k) X/\Below w.heap.size w wr/\w.heap.size+3<=wr.heap.size/\
   wr.heap[w.heap.size]?=some (.cells #[.slice (some ⟨fb,fo,none⟩) p.zH.length d9,.slice g6 p.vars.length d7,.slice (some ⟨cb,co,none⟩) p.cells.length f5,.int .i64 p.read,.slice g7 p.out.length d8,.int .i64 p.line,.int .i64 p.fin] 72 (0,0))/\
   wr.heap[w.heap.size+1]?=some (.cells #[.slice none 0 0,.slice none 0 0,.slice none 0 0,.int .i64 0,.slice none 0 0,.int .i64 0,.int .i64 0] 72 (0,0)))
  (fun i _ _=>p.zH.length+1-(intOf i).toNat)
 case atStart=>
  refine⟨0,CW,zo _,rfl,rfl,rfl,rfl,rfl,?_,?_,?_,?_,?_⟩
  ·exact vC.start rfl rfl rfl rfl (nd w) (by omega)
  ·exact(((zI w.heap.size w).alloc (zB _) _).alloc (by simp) _).alloc (by simp;omega) _
  ·simp
  ·exact yR (yR (zN w _) _) _
  ·exact yR (qD w _ _) _
 case round=>
  obtain⟨k,X,hk,rfl,g0,f9,f8,f7,J,a1,n8,V,a7⟩:=hrel;obtain⟨m9,l7,b1⟩:=zK J.Jq;have a5:(aT p k).zH.length=k:=by simp[aT];omega
  rw[a5]at b1;have W:=qG b1 a5;clear b1 a5;have c0:=zC V 0 (by simp);simp only[yQ,zv]at c0;have O:=hd8 g0 f9 f8 f7 J a1 V a7;by_cases hlt:k < p.zH.length
  ·have i4:(k:Int) < (p.zH.length:Int):=by omega
   have o1:(0:Int)<=(k:Int):=by omega
   obtain⟨av,f0,f1,f2,fi⟩:=l2.u k hlt;have j2:=cell_later a1 f0;have j1:=cell_later a1 f1;have i9:=cell_later a1 f2;have j4:=zD fi;obtain⟨d6,a9,rfl,_⟩:=fi;have k7:=HP.u.args _ (zj hlt);have n9:=HP.u.zH;clear f0 f1 f2 g0 f9 f8 f7 J a1 V a7;obtain⟨f,hf⟩:∃f,f=p.zH[k]:=⟨_,rfl⟩;have l1:=zD hf;rw[<-hf]at j2 j1 i9 k7 j4;clear hf;go_wp2_with fail;have g3:=(zI wr.heap.size wr).alloc (zB _) (.cells #[.int .i64 f.proc,.slice d6 f.args.length a9,.int .i64 f.call] 130);have i3:=zN wr (.cells #[.int .i64 f.proc,.slice d6 f.args.length a9,.int .i64 f.call] 130);refine(Kd (j4.u.zP (O.u.2.2.2.2.2.1.trans (g3.mono (B':=w.heap.size) (by omega)))) (by omega)).mono ?_;have l9:(wr.alloc (.cells #[.int .i64 f.proc,.slice d6 f.args.length a9,.int .i64 f.call] 130)).heap.size=wr.heap.size+1:=by simp
   generalize wr.alloc (.cells #[.int .i64 f.proc,.slice d6 f.args.length a9,.int .i64 f.call] 130)=wa at *;rintro e w1 ⟨y,av,rfl,d⟩;obtain⟨F,o,M⟩:=zK d;have g4:=zU i3 y;have m2:=y.size;have d5:=g3.trans (y.mono (B':=wr.heap.size) (by omega));obtain⟨k0,k1,k2⟩:=yb g4;have z:=zS g4;rw[M];have R:=zU O.u.2.2.2.2.1.block d5;have q0:w1.cell? ⟨w.heap.size+1+1,0,none⟩=some X.fv:=zC R 0 (by simp[jh]);rw[W.u.1]at q0;have b4:∀q,q≠wr.heap.size->(w1.setCell ⟨wr.heap.size,1,none⟩ (.slice F f.args.length o)).heap[q]?=w1.heap[q]?:=fun q hq=>zO w1 ⟨wr.heap.size,1,none⟩ _ q hq;have a3:=yx d5 (zB _) 1 (.slice F f.args.length o);have a6:=yP (yG O.u.2.2.2.2.1.Jq d5) (w':=w1.setCell ⟨wr.heap.size,1,none⟩ (.slice F f.args.length o)) (fun q hq=>b4 q (by have:=(O.u.2.2.2.2.1.Jq.lt q hq).2;omega));have T:=yP (yn d (show wr.heap.size<=wa.heap.size by omega)) (w':=w1.setCell ⟨wr.heap.size,1,none⟩ (.slice F f.args.length o)) (fun q hq=>b4 q (by have:=(d.lt q hq).1;omega));have i2:=(a3.block (w.heap.size+1+1) (by omega)).trans O.u.2.2.2.2.1.block;have m3:=zQ O.u.2.2.2.2.1.block;rw[W.u.1,W.u.2]at a6;have a8:=gN T a3 i2 M;have h9:(w1.setCell ⟨wr.heap.size,1,none⟩ (.slice F f.args.length o)).heap.size=w1.heap.size:=by simp[World.setCell]
   clear d g4 d5 y g3 i3 j2 j1 i9 c0 R b4 a3 T i2;have m5:¬w.heap.size+1+1=wr.heap.size:=by omega
   have m4:¬wr.heap.size=w.heap.size+1+1:=by omega
   go_wp2_with (at_builtin;refine wpList_append_lies _ rfl _ _ 70 rfl 0 130 j0 _ 3 40 underlying70 i6 k4 k3 j9 rfl (by decide) _ k _ rfl (a6.alloc _) ⟨w1.heap.size,0,none⟩ 1 1 [.int .i64 f.proc,.slice F f.args.length o,.int .i64 f.call] rfl rfl (World.news_of_block (cs:=#[.int .i64 f.proc,.slice F f.args.length o,.int .i64 f.call]) (t:=130) (fr:=(0,0)) (by have:=zN (w1.setCell ⟨wr.heap.size,1,none⟩ (.slice F f.args.length o)) (.cells #[.int .i64 f.proc,.slice F f.args.length o,.int .i64 f.call] 130);rw[h9]at this;exact this)) (by simp[Value.oneCell']) (by omega) (by unfold maxLen;omega) (by omega) (zo _) (w1.heap.size+1) (by simp) ?_);intro g' cap' w4 a0 D hat b6;rw[<-W.u.1]at D hat;have J:=O.u.2.2.2.2.1;have a3:=a8.u.2.1;have l8:=a3.size;have b7:=(zI (w1.setCell ⟨wr.heap.size,1,none⟩ (.slice F f.args.length o)).heap.size (w1.setCell ⟨wr.heap.size,1,none⟩ (.slice F f.args.length o))).alloc (zB _) (.cells #[.int .i64 f.proc,.slice F f.args.length o,.int .i64 f.call] 130);have I:=J.cU (by omega) a3 b7 (.slice F f.args.length o) f (by have:=a8.u.1;rw[a8.u.2.2.2]at this;exact this) D (.slice (some ⟨g',0,none⟩) (k+1) cap') (by rw[W.u.2];exact a0) (fun q hq=>by simp[Value.ownBlock]at hq;subst hq;rcases hat with h | h;exact Or.inl h;exact Or.inr (by omega));have a2:∀(N:Nat) (c:Array Value),wr.heap[N]?=some (.cells c 72 (0,0))->some N≠X.fv.ownBlock:=fun N c hN e=>by
    obtain⟨c',U⟩:=yW J.Jq e.symm;rw[hN]at U;injection U with U;injection U with _ U;exact absurd U (by decide)
   have L:∀(N:Nat) (c:Array Value),wr.heap[N]?=some (.cells c 72 (0,0))->w4.heap[N]?=some (.cells c 72 (0,0)):=fun N c hN=>by
    have hlt:=zQ hN;rw[D.block N (by simp[World.setCell];omega) (a2 N c hN),G2 _ _ (by omega),a3.block N hlt];exact hN
   have a4:=L _ _ J.block;have d0:w4.cell? ⟨w.heap.size+1+1,0,none⟩=some X.fv:=zC a4 0 (by simp[jh]);have z0:=zS a4 0;have b5:=(zO w4 ⟨w.heap.size+1+1,0,none⟩ (.slice (some ⟨g',0,none⟩) (k+1) cap') w.heap.size (by show ¬w.heap.size=w.heap.size+1+1;omega)).trans (L _ _ O.u.2.2.2.2.2.2.1);have T:=(zO w4 ⟨w.heap.size+1+1,0,none⟩ (.slice (some ⟨g',0,none⟩) (k+1) cap') (w.heap.size+1) (by show ¬w.heap.size+1=w.heap.size+1+1;omega)).trans (L _ _ O.u.2.2.2.2.2.2.2);have Z:{ aT p k with zH:=(aT p k).zH++[f] }=aT p (k+1):=by
    unfold aT;simp only[Rf.Pl.mk.injEq,jJ];rw[kI,zJ hlt,<-l1.u];rfl
   rw[Z]at I;have g1:=D.size;have HF:=gN I b5 T (show w.heap.size+3<=(w4.setCell ⟨w.heap.size+1+1,0,none⟩ (.slice (some ⟨g',0,none⟩) (k+1) cap')).heap.size by simp[World.setCell]at g1 ⊢;omega);clear I b5 T Z L a2 a4 b7 a3 J a0 D hat b6 a6 q0 k0 k1 k2 z;go_wp2_with fail;go_roundw
   case rel=>
    obtain⟨⟨u1,u2⟩,u3,u4,u5⟩:=HF.u;obtain⟨v1,v2,v3,v4,v5,v6,_⟩:=O.u;exact⟨k+1,{ X with fv:=.slice (some ⟨g',0,none⟩) (k+1) cap',xg:=X.xg++[.slice F f.args.length o] },by omega,by go_num,v1,v2,v3,v4,u1,v6.trans u2,u5,u3,u4⟩
   case measure=>simp[intOf];omega
  ·have i4:¬(k:Int) < (p.zH.length:Int):=by omega
   have b9:k=p.zH.length:=by omega
   have n7:=HP.u.vars;have m6:=V;have c1:=zC V 1 (by simp);simp only[yQ,zv,yH]at c1;clear g0 f9 f8 f7 J a1 V a7 b9;go_wp2_with fail;refine(Kd (HV.u.vars.zP O.u.2.2.2.2.2.1) (by omega)).mono ?_;rintro e w1 ⟨y,av,rfl,d⟩;obtain⟨g5,f6,M⟩:=zK d;have J:=O.u.2.2.2.2.1;have R:=zU J.block y;have d1:w1.cell? ⟨w.heap.size+1+1,1,none⟩=some X.vv:=zC R 1 (by simp[jh]);have z1:=zS R 1;have G:=J.uU (by omega) y av p.vars d;have b9:k=p.zH.length:=by omega
   have Z:{ aT p k with vars:=p.vars }=KR p 0:=by
    unfold aT KR;rw[b9];simp
   rw[Z]at G;have i1:=y.size;have b3:∀N,N < w.heap.size+1+1->(w1.setCell ⟨w.heap.size+1+1,1,none⟩ av).heap[N]?=wr.heap[N]?:=fun N hN=>(zO w1 ⟨w.heap.size+1+1,1,none⟩ av N (by show ¬N=w.heap.size+1+1;omega)).trans (y.block N (by omega));have HJ:=hd7 (show ({ X with vv:=av }:Qg).ov=.slice none 0 0 from O.u.2.2.1) (show ({ X with vv:=av }:Qg).cv=.slice none 0 0 from O.u.2.1) G.1 (O.u.2.2.2.2.2.1.trans G.2) ((b3 _ (by omega)).trans O.u.2.2.2.2.2.2.1) ((b3 _ (by omega)).trans O.u.2.2.2.2.2.2.2) (show w.heap.size+3<=(w1.setCell ⟨w.heap.size+1+1,1,none⟩ av).heap.size by simp[World.setCell];omega);rw[M]at HJ ⊢;clear G Z b9 R J y d b3 c1 c0 M;generalize l0:({ X with vv:=.slice g5 p.vars.length f6 }:Qg)=X1 at HJ;clear l0;go_wp2_with fail;go_loopw [6,7] (fun i _ wr2=>∃(j:Nat) (Y:Qg),j<=p.cells.length/\i=.int .i64 j/\Y.ov=.slice none 0 0/\vC wr2 w.heap.size (w.heap.size+1+1) (KR p j) Y/\Below w.heap.size w wr2/\w.heap.size+3<=wr2.heap.size/\
     wr2.heap[w.heap.size]?=some (.cells #[.slice (some ⟨fb,fo,none⟩) p.zH.length d9,.slice g6 p.vars.length d7,.slice (some ⟨cb,co,none⟩) p.cells.length f5,.int .i64 p.read,.slice g7 p.out.length d8,.int .i64 p.line,.int .i64 p.fin] 72 (0,0))/\
     wr2.heap[w.heap.size+1]?=some (.cells #[.slice none 0 0,.slice none 0 0,.slice none 0 0,.int .i64 0,.slice none 0 0,.int .i64 0,.int .i64 0] 72 (0,0)))
    (fun i _ _=>p.cells.length+1-(intOf i).toNat)
   case atStart=>
    obtain⟨t1,t2,t3,t4,t5,t6,t7⟩:=HJ.u;exact⟨0,X1,zo _,rfl,t1,t3,t4,t7,t5,t6⟩
   case round=>
    clear O W HJ;obtain⟨j,Y,hj,rfl,b2,J,a1,m1,V,a7⟩:=hrel;obtain⟨m8,l6,b0⟩:=zK J.eB;have a5:(KR p j).cells.length=j:=by simp[KR];omega
    rw[a5]at b0;have W:=qG b0 a5;have c2:=zC V 2 (by simp);simp only[yQ,zv,yH]at c2;have O:=DA b2 J a1 V a7;clear b0 a5;by_cases hlt2:j < p.cells.length
    ·have g2:(j:Int) < (p.cells.length:Int):=by omega
     have i6:(0:Int)<=(j:Int):=by omega
     obtain⟨x,e0,ei⟩:=l4.u j hlt2;have j3:=cell_later a1 e0;have j5:=zD ei;obtain⟨o2,m7,rfl,_⟩:=ei;have k6:=HP.u.each _ (zj hlt2);have d3:=HP.u.cells;obtain⟨c,hc⟩:∃c,c=p.cells[j]:=⟨_,rfl⟩;have l3:=zD hc;rw[<-hc]at j3 k6 j5;clear hc e0 b2 J a1 V a7;go_wp2_with fail;refine(Kd (j5.u.zP O.u.2.2.1) (by omega)).mono ?_;rintro e w1 ⟨y,av,rfl,d⟩;obtain⟨H,A,M⟩:=zK d;have J:=O.u.2.1;have R:=zU J.block y;have d2:w1.cell? ⟨w.heap.size+1+1,2,none⟩=some Y.cv:=zC R 2 (by simp[jh]);rw[W.u.1]at d2;have a6:=yG J.eB y;rw[W.u.1,W.u.2]at a6;have i1:=y.size;have a8:=XX d y M;rw[M];clear d y M J R c2 j3;go_wp2_with (at_builtin;refine wpList_append_lies _ rfl _ _ 28 rfl 0 24 i0 _ 1 24 underlying28 k5 j8 j7 j6 rfl (by decide) _ _ _ rfl (a6.alloc _) ⟨w1.heap.size,0,none⟩ 1 1 [.slice H c.length A] rfl rfl (cell_one_new _ _ _) (by simp[Value.oneCell']) (by omega) (by unfold maxLen;omega) (by omega) (zo _) (w1.heap.size+1) (by simp) ?_);intro g' cap' w4 a0 D hat b6;rw[<-W.u.1]at D hat;have J:=O.u.2.1;have y:=a8.u.2.1;have b7:=(zI w1.heap.size w1).alloc (zB _) (.cells #[.slice H c.length A] 24);have I:=J.EL (by omega) y b7 (.slice H c.length A) c (by have:=a8.u.1;rw[a8.u.2.2]at this;exact this) D (.slice (some ⟨g',0,none⟩) (j+1) cap') (by rw[W.u.2];exact a0) (fun q hq=>by simp[Value.ownBlock]at hq;subst hq;rcases hat with h | h;exact Or.inl h;exact Or.inr (by omega));have a2:∀(N:Nat) (cc:Array Value),wr.heap[N]?=some (.cells cc 72 (0,0))->some N≠Y.cv.ownBlock:=fun N cc hN e=>by
      obtain⟨c',U⟩:=yW J.eB e.symm;rw[hN]at U;injection U with U;injection U with _ U;exact absurd U (by decide)
     have L:∀(N:Nat) (cc:Array Value),wr.heap[N]?=some (.cells cc 72 (0,0))->w4.heap[N]?=some (.cells cc 72 (0,0)):=fun N cc hN=>by
      have hlt:=zQ hN;rw[D.block N (by simp;omega) (a2 N cc hN),G2 _ _ (by omega),y.block N hlt];exact hN
     have a4:=L _ _ J.block;have o3:w4.cell? ⟨w.heap.size+1+1,2,none⟩=some Y.cv:=zC a4 2 (by simp[jh]);have z2:=zS a4 2;have b5:=(zO w4 ⟨w.heap.size+1+1,2,none⟩ (.slice (some ⟨g',0,none⟩) (j+1) cap') w.heap.size (by show ¬w.heap.size=w.heap.size+1+1;omega)).trans (L _ _ O.u.2.2.2.1);have T:=(zO w4 ⟨w.heap.size+1+1,2,none⟩ (.slice (some ⟨g',0,none⟩) (j+1) cap') (w.heap.size+1) (by show ¬w.heap.size+1=w.heap.size+1+1;omega)).trans (L _ _ O.u.2.2.2.2);have Z:{ KR p j with cells:=(KR p j).cells++[c] }=KR p (j+1):=by
      unfold KR;simp only[Rf.Pl.mk.injEq,jJ,jH];rw[kI,zJ hlt2,<-l3.u];rfl
     rw[Z]at I;have g1:=D.size;have HF:=gN I b5 T (show w.heap.size+3<=(w4.setCell ⟨w.heap.size+1+1,2,none⟩ (.slice (some ⟨g',0,none⟩) (j+1) cap')).heap.size by simp[World.setCell]at g1 ⊢;omega);clear I b5 T Z L a2 a4 b7 y J a0 D hat b6 a6 d2;go_wp2_with fail;go_roundw
     case rel=>
      obtain⟨⟨u1,u2⟩,u3,u4,u5⟩:=HF.u;obtain⟨v1,v2,v3,_⟩:=O.u;exact⟨j+1,{ Y with cv:=.slice (some ⟨g',0,none⟩) (j+1) cap',kB:=Y.kB++[.slice H c.length A] },by omega,by go_num,v1,u1,v3.trans u2,u5,u3,u4⟩
     case measure=>simp[intOf];omega
    ·have g2:¬(j:Int) < (p.cells.length:Int):=by omega
     have o0:=HP.u.out;have c4:=zC V 4 (by simp);simp only[yQ,zv,yH]at c4;clear b2 J a1 V a7;go_wp2_with fail;refine(Kd (HV.u.out.zP O.u.2.2.1) (by omega)).mono ?_;rintro e w1 ⟨y,av,rfl,d⟩;obtain⟨H,A,M⟩:=zK d;have J:=O.u.2.1;have i1:=y.size;have R:=zU J.block y;have d4:w1.cell? ⟨w.heap.size+1+1,4,none⟩=some Y.ov:=zC R 4 (by simp[jh]);have z4:=zS R 4;have G:=J.Fz (by omega) y av p.out d;have i5:j=p.cells.length:=by omega
     have Z:{ KR p j with out:=p.out }=p:=by
      unfold KR;rw[i5];simp
     rw[Z]at G;have T:=(zO w1 ⟨w.heap.size+1+1,4,none⟩ av (w.heap.size+1) (by show ¬w.heap.size+1=w.heap.size+1+1;omega)).trans ((y.block (w.heap.size+1) (by omega)).trans O.u.2.2.2.2);obtain⟨xa,xc,b1⟩:=zK G.1.Jq;obtain⟨ya,yc,b0⟩:=zK G.1.wJ;obtain⟨za,zc,g8⟩:=zK G.1.eB;have b8:=G.1.block;have h8:Y.fv=.slice xa p.zH.length xc:=b1;have h7:Y.vv=.slice ya p.vars.length yc:=b0;have g9:Y.cv=.slice za p.cells.length zc:=g8;have d3:(jh ({ Y with ov:=av }:Qg).fv ({ Y with ov:=av }:Qg).vv ({ Y with ov:=av }:Qg).cv ({ Y with ov:=av }:Qg).ov p)=(G5 xa xc ya yc za zc H A p):=by
      show jh Y.fv Y.vv Y.cv av p=_;rw[h8,h7,g9,M];rfl
     have HF:=XX G T d3;rw[d3]at b8;have l5:=zD M;rw[M]at b8 T ⊢;clear M G Z i5 y d J R c2 c4 d3 h8 h7 g9 b1 b0 g8;have m0:(w1.setCell ⟨w.heap.size+1+1,4,none⟩ (.slice H p.out.length A)).heap.size=w1.heap.size:=by simp[World.setCell]
     have hq:∀i (hi:i < 7),(w1.setCell ⟨w.heap.size+1+1,4,none⟩ (.slice H p.out.length A)).cell? ⟨w.heap.size+1+1,i,none⟩=some ((G5 xa xc ya yc za zc H A p)[i]'(by simpa using hi)):=fun i hi=>zC b8 i (by simpa using hi);have q0:=hq 0 (by omega);have q1:=hq 1 (by omega);have q2:=hq 2 (by omega);have q3:=hq 3 (by omega);have q4:=hq 4 (by omega);have q5:=hq 5 (by omega);have q6:=hq 6 (by omega);simp only[yQ,zv,yH]at q0 q1 q2 q3 q4 q5 q6;have hz:∀i (hi:i < 7),(w1.setCell ⟨w.heap.size+1+1,4,none⟩ (.slice H p.out.length A)).cell? ⟨w.heap.size+1,i,none⟩=some (#[.slice none 0 0,.slice none 0 0,.slice none 0 0,.int .i64 0,.slice none 0 0,.int .i64 0,.int .i64 0][i]'(by simpa using hi)):=fun i hi=>zC T i (by simpa using hi);have n0:=hz 0 (by omega);have n1:=hz 1 (by omega);have n2:=hz 2 (by omega);have n3:=hz 3 (by omega);have n4:=hz 4 (by omega);have n5:=hz 5 (by omega);have n6:=hz 6 (by omega);simp only[yQ,zv,yH]at n0 n1 n2 n3 n4 n5 n6;have zn:=zS T;clear hq hz;go_wp2_with fail;refine zT (v:=.agg (G5 xa xc ya yc za zc H A p)) ?_ rfl ?_
     ·simp[results,results95,go_sem,n0,n1,n2,n3,n4,n5,n6]
     ·obtain⟨⟨f1,f2⟩,f3,f4⟩:=HF.u;rw[l5.u]at f1 f2 f3 f4;have h0:=Xd.aside ⟨f1.rows,f3,O.u.2.2.1.trans f2⟩ (by omega) 0 (.slice xa p.zH.length xc);have h1:=Xd.aside h0 (by omega) 1 (.slice ya p.vars.length yc);have h2:=Xd.aside h1 (by omega) 2 (.slice za p.cells.length zc);have h3:=Xd.aside h2 (by omega) 3 (.int .i64 p.read);have h4:=Xd.aside h3 (by omega) 4 (.slice H p.out.length A);have h5:=Xd.aside h4 (by omega) 5 (.int .i64 p.line);have h6:=Xd.aside h5 (by omega) 6 (.int .i64 p.fin);exact⟨h6.2.2,_,qB (fun a=>Ending.returned (Value.agg a)) f4.symm,h6.1⟩
end Go.Proofs.YthleadfkfnnadaaGreat
