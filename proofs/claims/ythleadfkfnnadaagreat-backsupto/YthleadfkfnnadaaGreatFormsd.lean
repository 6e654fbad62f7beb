/- The walks of the readers of lines, continued: procedure. -/
import Derived.Test.YthleadfkfnnadaaGreatForms
set_option maxHeartbeats 4000000
set_option maxRecDepth 100000
set_option linter.unusedSimpArgs false
namespace Go.Proofs.YthleadfkfnnadaaGreat
open Rt Go.Proofs.Tryz
open Go.RowKit
variable {nm:ByteArray} {acc:List ByteArray} {ts rem r:List Rt.Tk} {xs:List Value} {R n N size B n2:Nat} {o:Obj} {row:Option Nat} {t:TypeId} {tv ov x v a b c d e f:Value} {w w1 w2 wr:World}
theorem JH {ops:List qM} (i:kC w R tv ts n ov ops):Calls Tryz.prog 213 #[.pointer (some ⟨R,0,none⟩)] w fun e w'=>
   (∃nm,n < ts.length/\Rt.kE (ts.drop n)=some (nm,ts.drop (n+1))/\e=.returned (.tuple #[.string nm,.bool true])/\kC w' R tv ts (n+1) ov ops/\ZJ R ov ov w w')\/
   (Rt.kE (ts.drop n)=none/\e=.returned (.tuple #[.string ⟨#[]⟩,.bool false])/\kC w' R tv ts n ov ops/\ZJ R ov ov w w'):=by
 by_cases hn:n < ts.length
 ·refine(Zh w R tv ts n ov ops i hn).mono ?_;rintro e w' (⟨h,j,rfl,f,d⟩| ⟨h,rfl,f,d⟩)
  ·exact Or.inl ⟨_,hn,by rw[ql hn,Rt.kE,zE ⟨h,j⟩],rfl,f,d⟩
  ·exact Or.inr ⟨by rw[ql hn,Rt.kE,zA h],rfl,f,d⟩
 ·refine(Ab i hn).mono ?_;rintro e w' ⟨rfl,f,d⟩;exact Or.inr ⟨by rw[vW hn,Rt.kE],rfl,f,d⟩
def qi (w:World) (B:Nat):List Value->List (List qM)->Prop
 | [],[]=>True
 | x::xs,o::os=>w.ownsRow B 236 3 x o.length (xX o)/\qi w B xs os
 | _,_=>False
def qk (w:World) (B:Nat) (v:Array Value) (fm:Rt.qS):Prop:=
 ∃pv iv vv vs,v=#[.int .i64 fm.kind,.string fm.name,.int .i64 fm.cells,pv,iv,vv]/\w.ownsRow B 9 1 pv fm.params.length (fm.params.map Value.string)/\
  w.ownsRow B 236 3 iv fm.index.length (xX fm.index)/\w.ownsRow B 140 1 vv fm.values.length vs/\qi w B vs fm.values
abbrev yo:Array Value:=#[.int .i64 0,.string ⟨#[]⟩,.int .i64 0,zg,zg,zg]
def YQ (spec:List Rt.Tk->eG) (R:Nat) (tv:Value) (ts:List Rt.Tk) (n:Nat) (w:World) (e:Ending) (w':World):Prop:=
 (∃fm n' fv,spec (ts.drop n)=some (fm,ts.drop n')/\e=.returned (.tuple #[.agg fv,.bool true])/\kC w' R tv ts n' zg []/\qk w' w.heap.size fv fm/\ZJ R zg zg w w')\/
 (spec (ts.drop n)=none/\e=.returned (.tuple #[.agg yo,.bool false])/\∃ov,ZJ R zg ov w w')
abbrev W6 (w:World) (N:Nat) (a b c d e f:Value):World:=
 (((((w.setCell ⟨N,0,none⟩ a).setCell ⟨N,1,none⟩ b).setCell ⟨N,2,none⟩ c).setCell ⟨N,3,none⟩ d).setCell ⟨N,4,none⟩ e).setCell ⟨N,5,none⟩ f
theorem ZJ.jM {y:Value} (h:ZJ R x y w w1) (i:w.heap.size<=N) (a b c d e f:Value):ZJ R x y w (W6 w1 N a b c d e f):=
 (((((h.YS i a).YS i b).YS i c).YS i d).YS i e).YS i f
theorem kC.jM (k:kC w R tv ts n zg []) (j:R < N) (a b c d e f:Value):kC (W6 w N a b c d e f) R tv ts n zg []:=
 have i:∀g,(zg:Value).ownBlock=some g->g≠N:=by intro g h;cases h
 (((((k.setOther j i a).setOther j i b).setOther j i c).setOther j i d).setOther j i e).setOther j i f
theorem ZU {base:Nat} (h:w.ownsRow base t size v n xs) (i:∀g,v.ownBlock=some g->g≠N) (a b c d e f:Value):(W6 w N a b c d e f).ownsRow base t size v n xs:=
 yk (yk (yk (yk (yk (yk h i a) i b) i c) i d) i e) i f
def Six (w:World) (N:Nat) (a b c d e f:Value):Prop:=
 w.cell? ⟨N,0,none⟩=some a/\w.cell? ⟨N,1,none⟩=some b/\w.cell? ⟨N,2,none⟩=some c/\w.cell? ⟨N,3,none⟩=some d/\w.cell? ⟨N,4,none⟩=some e/\w.cell? ⟨N,5,none⟩=some f/\
 w.frozen? ⟨N,0,none⟩=false/\w.frozen? ⟨N,1,none⟩=false/\w.frozen? ⟨N,2,none⟩=false/\w.frozen? ⟨N,3,none⟩=false/\w.frozen? ⟨N,4,none⟩=false/\w.frozen? ⟨N,5,none⟩=false
theorem YD (h:w.heap[N]?=some (.cells #[a,b,c,d,e,f] t (0,0))):Six w N a b c d e f:=
 ⟨zC h 0 (by simp),zC h 1 (by simp),zC h 2 (by simp),zC h 3 (by simp),zC h 4 (by simp),zC h 5 (by simp),
  zS h 0,zS h 1,zS h 2,zS h 3,zS h 4,zS h 5⟩
theorem vM {kind:Int} {cells:Int}:qk w B #[.int .i64 kind,.string nm,.int .i64 cells,zg,zg,zg] ⟨kind,nm,cells,[],[],[]⟩:=
 ⟨zg,zg,zg,[],rfl,zW _ _ _ _,zW _ _ _ _,zW _ _ _ _,trivial⟩
theorem lT (d:Int) (o:kC w R tv ts n zg []):Calls Tryz.prog 196 #[.pointer (some ⟨R,0,none⟩),.int .i64 d] w (YQ (Rt.pNamed d) R tv ts n w):=by
 have x:R < w.heap.size:=zt w _ (zC o.block 0 (by simp));go_enter func196,ntmps196;go_wp2_with fail;obtain⟨j,i⟩:=o.zP ((zI w.heap.size w).alloc (zB _) (.cells yo 143));refine(JH j).mono ?_;intro e w1 hpost;have f:ZJ R zg zg (w.alloc (.cells yo 143)) w1:=by rcases hpost with⟨_,_,_,_,_,h⟩| ⟨_,_,_,h⟩ <;> exact h
 have z:w1.heap[w.heap.size]?=some (.cells yo 143 (0,0)):=by
  rw[f.block w.heap.size (by simp) (by omega) (by simp[Value.ownBlock])];exact zN w _
 obtain⟨I,H,G,F,D,A,U,T,O,N,M,L⟩:=YD z;have k:=zD (i.trans f);clear j f z i;rcases hpost with⟨nm,hn,hs,rfl,hr1,_⟩| ⟨hs,rfl,hr1,_⟩
 ·have J:=zD hr1;have y:=zD hs;clear hr1 hs o;go_wp2_with fail;refine zT (v:=.tuple #[.agg #[.int .i64 d,.string nm,.int .i64 0,zg,zg,zg],.bool true]) ?_ rfl
   (Or.inl ⟨_,n+1,_,by rw[Rt.pNamed,y.u],rfl,J.u.jM x _ _ _ _ _ _,vM,k.u.jM (zB _) _ _ _ _ _ _⟩);simp[results,results196,go_sem,I,H,G,F,D,A]
 ·have y:=zD hs;clear hr1 hs o;go_wp2_with fail;refine zT (v:=.tuple #[.agg yo,.bool false]) ?_ rfl
   (Or.inr ⟨by rw[Rt.pNamed,y.u],rfl,_,k.u.jM (zB _) _ _ _ _ _ _⟩);simp[results,results196,go_sem,I,H,G,F,D,A]
theorem ZJ.alloc {R:Nat} {a b:Value} {w w1:World} (h:ZJ R a b w w1) (o:Obj):ZJ R a b w (w1.alloc o):=
 ⟨h.os,h.tape,h.output,by have:=h.size;simp;omega,fun k hk h1 h2=>(jx w1 o k (zX hk h.size)).trans (h.block k hk h1 h2),h.own⟩
theorem KS (w:World) (B:Nat) (e:TypeId) (x:Value) (d:B<=w.heap.size):(w.alloc (.cells #[x] e)).ownsRow B e 1 (.slice (some ⟨w.heap.size,0,none⟩) 1 1) 1 [x]:=
 ⟨rfl,Or.inr ⟨w.heap.size,1,#[x],rfl,d,zN w _,zB _,by unfold maxLen;omega,rfl,rfl⟩⟩
theorem eO (w:World) (N:Nat) (a b c d e f:Value):(W6 w N a b c d e f).heap.size=w.heap.size:=by simp[World.setCell]
theorem Vh (d:Int) (G:kC w R tv ts n zg []) (A:∀t∈ts,t.text.size<=40000):Calls Tryz.prog 199 #[.pointer (some ⟨R,0,none⟩),.int .i64 d] w (YQ (Rt.kn d) R tv ts n w):=by
 have I:R < w.heap.size:=zt w _ (zC G.block 0 (by simp));have J:=zD A;clear A;go_enter func199,ntmps199;go_wp2_with fail;obtain⟨F,i⟩:=G.zP ((zI w.heap.size w).alloc (zB _) (.cells yo 143));refine(ZZ F J.u).mono ?_;intro e w1 hpost;obtain⟨O,hfr1⟩:∃O,ZJ R zg O (w.alloc (.cells yo 143)) w1:=by rcases hpost with⟨_,_,_,_,_,_,_,_,_,h⟩| ⟨_,_,_,h⟩ <;> exact⟨_,h⟩
 have V:w1.heap[w.heap.size]?=some (.cells yo 143 (0,0)):=by
  rw[hfr1.block w.heap.size (by simp) (by omega) (by simp[Value.ownBlock])];exact zN w _
 have T:w.heap.size < w1.heap.size:=by have:=hfr1.size;simp at this;omega
 obtain⟨c0,c1,c2,c3,Z,W,f0,f1,f2,f3,f4,f5⟩:=YD V;clear F V;rcases hpost with⟨em,n1,xv,hs,rfl,hn1,hem,hr1,hown,f⟩| ⟨hs,rfl,ov1,f⟩
 ·obtain⟨y,cap,rfl⟩:=zK hown;have L:=zD hs;have U:∀g,(Value.slice y em.length cap).ownBlock=some g->g≠w.heap.size:=fun g hg=>by have:=(hown.lt g hg).1;simp at this;omega
  have M:=zD (yn (b':=w.heap.size) (ZU hown U (.int .i64 d) (.string ⟨#[]⟩) (.int .i64 0) zg zg (.slice (some ⟨w1.heap.size+1,0,none⟩) 1 1)) (by simp));have HR:=zD (hr1.jM I (.int .i64 d) (.string ⟨#[]⟩) (.int .i64 0) zg zg (.slice (some ⟨w1.heap.size+1,0,none⟩) 1 1));have k:=zD ((i.trans f).jM (N:=w.heap.size) (zB _) (.int .i64 d) (.string ⟨#[]⟩) (.int .i64 0) zg zg (.slice (some ⟨w1.heap.size+1,0,none⟩) 1 1));clear hs G U hown hr1 i hfr1 f;go_wp2_with fail;have o:=eO w1 w.heap.size (.int .i64 d) (.string ⟨#[]⟩) (.int .i64 0) zg zg (.slice (some ⟨w1.heap.size+1,0,none⟩) 1 1);generalize H:W6 w1 w.heap.size (.int .i64 d) (.string ⟨#[]⟩) (.int .i64 0) zg zg (.slice (some ⟨w1.heap.size+1,0,none⟩) 1 1)=w2 at M HR k o;obtain⟨D,x⟩:=HR.u.zP (((zI w2.heap.size w2).alloc (zB _) (.cells #[.slice y em.length cap] 140)).alloc (by simp) (.cells #[.slice y em.length cap] 140));have j:=KS (w2.alloc (.cells #[.slice y em.length cap] 140)) w.heap.size 140 (.slice y em.length cap) (by simp;omega);have z:(w2.alloc (.cells #[.slice y em.length cap] 140)).heap.size=w1.heap.size+1:=by simp[o]
  rw[z]at j;refine zT (v:=.tuple #[.agg #[.int .i64 d,.string ⟨#[]⟩,.int .i64 0,zg,zg,.slice (some ⟨w1.heap.size+1,0,none⟩) 1 1],.bool true]) ?_ rfl ?_
  ·simp[results,results199,go_sem,c0,c1,c2,c3,Z,W,T]
  ·rw[<-H]at D x j M k;exact Or.inl ⟨⟨d,⟨#[]⟩,0,[],[],[em]⟩,n1,_,by rw[Rt.kn,L.u],rfl,D,⟨zg,zg,_,[_],rfl,zW _ _ _ _,zW _ _ _ _,j,⟨(M.u.alloc _).alloc _,trivial⟩⟩,k.u.trans x⟩
 ·have L:=zD hs;have k:=zD (i.trans f);clear hs G f i;go_wp2_with fail;refine zT (v:=.tuple #[.agg yo,.bool false]) ?_ rfl ?_
  ·simp[results,results199,go_sem,c0,c1,c2,c3,Z,W,T]
  ·exact Or.inr ⟨by rw[Rt.kn,L.u],rfl,_,(k.u.jM (N:=w.heap.size) (zB _) _ _ _ _ _ _).alloc _⟩
theorem ZJ.qT (h:ZJ R zg ov w1 w2) (hN:w1.heap[N]?=some o) (d:N≠R):w2.heap[N]?=some o:=by
 have f:N < w1.heap.size:=by
  by_cases h:N < w1.heap.size
  ·exact h
  ·rw[vq (by omega)]at hN;cases hN
 rw[h.block N f d (by simp[Value.ownBlock])];exact hN
theorem ZJ.ZH {e:TypeId} (h:ZJ R zg ov w1 w2) (d:w1.ownsRow B e size v n xs) (i:R < B):w2.ownsRow B e size v n xs:=by
 obtain⟨f,h2⟩:=d;refine⟨f,?_⟩;rcases h2 with h2 | ⟨g,cap,cur,hv,hg,hh,r⟩
 ·exact Or.inl h2
 ·exact Or.inr ⟨g,cap,cur,hv,hg,h.qT hh (by omega),r⟩
theorem sd {ops:List qM} (i:kC w R tv ts n ov ops) (h:∀t∈ts,t.text.size<=40000):Calls Tryz.prog 214 #[.pointer (some ⟨R,0,none⟩)] w fun e w'=>
   (∃v,Rt.XC (ts.drop n)=some (v,ts.drop (n+1))/\e=.returned (.tuple #[.int .i64 v,.bool true])/\kC w' R tv ts (n+1) ov ops/\ZJ R ov ov w w')\/
   (Rt.XC (ts.drop n)=none/\e=.returned (.tuple #[.int .i64 0,.bool false])/\kC w' R tv ts n ov ops/\ZJ R ov ov w w'):=by
 by_cases hn:n < ts.length
 ·by_cases hk:ts[n].kind=2
  ·refine(fe i hn hk (by have:=h _ (zj hn);unfold maxLen;omega)).mono ?_;rintro e w' ⟨rfl,f,d⟩;exact Or.inl ⟨_,by rw[ql hn,Rt.XC,zE hk],rfl,f,d⟩
  ·refine(ff i hn hk).mono ?_;rintro e w' ⟨rfl,f,d⟩;exact Or.inr ⟨by rw[ql hn,Rt.XC,zA hk],rfl,f,d⟩
 ·refine(da i hn).mono ?_;rintro e w' ⟨rfl,f,d⟩;exact Or.inr ⟨by rw[vW hn,Rt.XC],rfl,f,d⟩
theorem BR (O:kC w R tv ts n zg []) (M:∀t∈ts,t.text.size<=40000):Calls Tryz.prog 197 #[.pointer (some ⟨R,0,none⟩)] w (YQ Rt.pArray R tv ts n w):=by
 have U:R < w.heap.size:=zt w _ (zC O.block 0 (by simp));have V:=zD M;clear M;go_enter func197,ntmps197;go_wp2_with fail;obtain⟨A,i⟩:=O.zP ((zI w.heap.size w).alloc (zB _) (.cells yo 143));have z:(w.alloc (.cells yo 143)).heap[w.heap.size]?=some (.cells yo 143 (0,0)):=zN w _;refine(JH A).mono ?_;rintro e w1 (⟨W,hn,N,rfl,y,f⟩| ⟨N,rfl,y,f⟩)
 ·have T:=f.qT z (by omega);have L:=zD N;have j:=zD (i.trans f);clear O A i f N z;go_wp2_with fail;refine(sd y V.u).mono ?_;rintro e w2 (⟨v,k,rfl,x,d⟩| ⟨k,rfl,x,d⟩)
  ·obtain⟨J,I,H,G,F,D,f0,f1,f2,f3,f4,Z⟩:=YD (d.qT T (by omega));have o:=zD k;have HR:=zD x;have h:=zD (j.u.trans d);clear y x d k j T;by_cases hv1:v < 1
   ·go_wp2_with fail;refine zT (v:=.tuple #[.agg yo,.bool false]) ?_ rfl (Or.inr ⟨by rw[Rt.pArray,L.u];simp only;rw[o.u];simp only;rw[zE (Or.inl hv1)],rfl,_,h.u.jM (zB _) _ _ _ _ _ _⟩);simp[results,results197,go_sem,J,I,H,G,F,D]
   ·by_cases hv2:32 < v
    ·go_wp2_with fail;refine zT (v:=.tuple #[.agg yo,.bool false]) ?_ rfl (Or.inr ⟨by rw[Rt.pArray,L.u];simp only;rw[o.u];simp only;rw[zE (Or.inr hv2)],rfl,_,h.u.jM (zB _) _ _ _ _ _ _⟩);simp[results,results197,go_sem,J,I,H,G,F,D]
    ·have HE:Hd (Rt.pArray (ts.drop n)=some (⟨2,W,v,[],[],[]⟩,ts.drop (n+1+1))):=by
      refine zD ?_;rw[Rt.pArray,L.u];simp only;rw[o.u];simp only;rw[zA (by omega)]
     go_wp2_with fail;refine zT (v:=.tuple #[.agg #[.int .i64 2,.string W,.int .i64 v,zg,zg,zg],.bool true]) ?_ rfl
      (Or.inl ⟨_,_,_,HE.u,rfl,HR.u.jM U _ _ _ _ _ _,vM,h.u.jM (zB _) _ _ _ _ _ _⟩);simp[results,results197,go_sem,J,I,H,G,F,D]
  ·obtain⟨J,I,H,G,F,D,f0,f1,f2,f3,f4,Z⟩:=YD (d.qT T (by omega));have o:=zD k;have h:=zD (j.u.trans d);clear y x d k j T;go_wp2_with fail;refine zT (v:=.tuple #[.agg yo,.bool false]) ?_ rfl (Or.inr ⟨by rw[Rt.pArray,L.u];simp only;rw[o.u],rfl,_,h.u.jM (zB _) _ _ _ _ _ _⟩);simp[results,results197,go_sem,J,I,H,G,F,D]
 ·obtain⟨J,I,H,G,F,D,f0,f1,f2,f3,f4,Z⟩:=YD (f.qT z (by omega));have L:=zD N;have j:=zD (i.trans f);clear O A i f N z;go_wp2_with fail;refine zT (v:=.tuple #[.agg yo,.bool false]) ?_ rfl (Or.inr ⟨by rw[Rt.pArray,L.u],rfl,_,j.u.jM (zB _) _ _ _ _ _ _⟩);simp[results,results197,go_sem,J,I,H,G,F,D]
theorem kC.kept (d:kC w R tv ts n zg []) (h:∀k,k<=R->w1.heap[k]?=w.heap[k]?):kC w1 R tv ts n zg []:=by
 refine⟨d.le,d.VJ,d.YH,by rw[h R (zB _)];exact d.block,?_,zW _ _ _ _⟩;obtain⟨b,cap,rfl,o,x⟩:=d.yY;have f:∀j,w1.cell? ⟨b,j,none⟩=w.cell? ⟨b,j,none⟩:=fun j=>xG (w:=w) (h b (by omega));exact⟨b,cap,rfl,o,fun i h=>⟨by rw[f];exact(x i h).1,by rw[f];exact(x i h).2⟩⟩
theorem ZJ.grown (h:ZJ R a b w wr) (d:(wr.alloc o).grownBy w1 row) (f:∀k,row=some k->w.heap.size<=k):ZJ R a b w w1:=
 ⟨d.os.trans h.os,d.tape.trans h.tape,d.output.trans h.output,by have:=d.size;have:=h.size;simp at *;omega,
  fun k hk h1 h2=>((d.block k (by have:=h.size;simp;omega) (fun e=>by have:=f k e.symm;omega)).trans (jx wr o k (zX hk h.size))).trans (h.block k hk h1 h2),h.own⟩
theorem mA (f:(wr.alloc o).grownBy w1 row) (h:R < wr.heap.size) (d:∀k,row=some k->R < k):∀k,k<=R->w1.heap[k]?=wr.heap[k]?:=fun k hk=>by
 rw[f.block k (by simp;omega) (fun e=>by have:=d k e.symm;omega),jx wr o k (by omega)]
theorem Cb {ops:List qM} (d:kC w R tv ts n ov ops):Calls Tryz.prog 170 #[.pointer (some ⟨R,0,none⟩)] w fun e w'=>e=.returned (.bool (decide (n < ts.length)))/\kC w' R tv ts n ov ops/\ZJ R ov ov w w':=
 (QL d).mono (by rintro e w' ⟨rfl,q,rfl⟩;exact⟨rfl,d.quiet q⟩)
theorem Kz {M:Nat} (h:w.heap[N]?=some o) (d:N≠M) (i:Nat) (v:Value):(w.setCell ⟨M,i,none⟩ v).heap[N]?=some o:=by
 rw[zO w ⟨M,i,none⟩ v N d];exact h
theorem B8:(#[a,b,c,d,e,f].setIfInBounds 3 x)=#[a,b,c,x,e,f]:=rfl
theorem oL {nm2:ByteArray} (d:n2 < ts.length) (h:Rt.kE (ts.drop n2)=some (nm2,ts.drop (n2+1))) (f:acc.length < 4):Rt.jO acc (ts.drop n2)=Rt.jO (acc++[nm2]) (ts.drop (n2+1)):=by
 rw[ql d,Rt.kE]at h;rw[ql d,Rt.jO];split at h
 ·next hk=>
  rw[zE ⟨hk,f⟩];simp at h;rw[h]
 ·cases h
theorem oM (d:n2 < ts.length) (f:4<=acc.length):Rt.jO acc (ts.drop n2)=none:=by
 rw[ql d,Rt.jO,zA (by omega)]
theorem sQ (d:n2 < ts.length) (h:Rt.kE (ts.drop n2)=none):Rt.jO acc (ts.drop n2)=none:=by
 rw[ql d,Rt.kE]at h;rw[ql d,Rt.jO];split at h
 ·cases h
 ·next hk=>rw[zA (fun x=>hk x.1)]
theorem lJ (h:Rt.kE rem=some (nm,r)) (d:Rt.jO [] r=none):Rt.pProc rem=none:=by
 rw[Rt.pProc,h];simp only;rw[d]
theorem wu {ps:List ByteArray} (h:Rt.kE rem=some (nm,r)) (d:Rt.jO [] r=some ps):Rt.pProc rem=some (⟨3,nm,0,ps,[],[]⟩,[]):=by
 rw[Rt.pProc,h];simp only;rw[d]
theorem iV (hr:kC w R tv ts n zg []):Calls Tryz.prog 198 #[.pointer (some ⟨R,0,none⟩)] w (YQ Rt.pProc R tv ts n w):=by
 have d8:R < w.heap.size:=zt w _ (zC hr.block 0 (by simp));obtain⟨i0,hi,d7,d6,b9⟩:=yi eT;go_enter func198,ntmps198;go_wp2_with fail;obtain⟨b0,L⟩:=hr.zP ((zI w.heap.size w).alloc (zB _) (.cells yo 143));have a5:(w.alloc (.cells yo 143)).heap[w.heap.size]?=some (.cells yo 143 (0,0)):=zN w _;refine(JH b0).mono ?_;rintro e w1 (⟨nm,hn,hs,rfl,a9,o⟩| ⟨hs,rfl,a9,o⟩)
 ·have hN:=o.qT a5 (by omega);have f8:=zQ hN;have a6:=L.trans o;have HS:=zD hs;have hst:kC (w1.alloc (.cells #[.int .i64 3,.string nm,.int .i64 0,zg,zg,zg] 143)) R tv ts (n+1) zg []:=(a9.zP ((zI w1.heap.size w1).alloc (zB _) _)).1;have hfrB:=a6.alloc (.cells #[.int .i64 3,.string nm,.int .i64 0,zg,zg,zg] 143);have hNB:=yR hN (.cells #[.int .i64 3,.string nm,.int .i64 0,zg,zg,zg] 143);have hMB:=zN w1 (.cells #[.int .i64 3,.string nm,.int .i64 0,zg,zg,zg] 143);clear hr b0 L o hs a5 a6 hN a9;go_wp2_with fail;go_loopg [7,8] (ts.length-(n+1)) (fun k _ _ wr=>∃(n2:Nat) (pv:Value) (acc:List ByteArray),k=ts.length-n2/\n+1<=n2/\acc.length<=4/\Rt.jO acc (ts.drop n2)=Rt.jO [] (ts.drop (n+1))/\
   kC wr R tv ts n2 zg []/\ZJ R zg zg w wr/\wr.heap[w.heap.size]?=some (.cells yo 143 (0,0))/\
   wr.heap[w1.heap.size]?=some (.cells #[.int .i64 3,.string nm,.int .i64 0,pv,zg,zg] 143 (0,0))/\wr.ownsRow (w1.heap.size+1) 9 1 pv acc.length (acc.map Value.string))
  case atStart=>exact⟨n+1,zg,[],rfl,zB _,by simp,rfl,hst,hfrB,hNB,hMB,zW _ _ _ _⟩
  case round=>
   clear hst hfrB hNB hMB;obtain⟨n2,pv,acc,hk,g1,f7,hT,b4,a8,b7,b8,Z⟩:=hrel;have HK:=zD hk;have HT:=zD hT;clear hk hT;obtain⟨ad,cap,rfl⟩:=zK Z;go_wp2_with fail;refine(Cb b4).mono ?_;rintro e w3 ⟨rfl,W,D⟩;have O:=D.qT b7 (by omega);have a1:=D.qT b8 (by omega);have f:=D.ZH Z (by omega);have x:=a8.trans D;clear b4 a8 b7 b8 Z D;by_cases hn3:n2 < ts.length
   ·have hd:decide (n2 < ts.length)=true:=by simpa using hn3
    rw[hd];go_wp2_with fail;refine(JH W).mono ?_;rintro e w4 (⟨b2,g0,U,rfl,V,d⟩| ⟨U,rfl,V,d⟩)
    ·have G:=d.qT O (by omega);have T:=d.qT a1 (by omega);have F:=d.ZH f (by omega);have I:=x.trans d;have f6:=zD U;clear W O a1 f x d U;by_cases hfull:4<=acc.length
     ·obtain⟨c0,c1,c2,c3,c4,c5,f0,f1,f2,f3,f4,f5⟩:=YD G;have ⟨_,_,_,d3,_,_,_,_,_,_,_,_⟩:=YD T;have H:=zD I;have HE:=zD (lJ HS.u (HT.u.symm.trans (oM hn3 hfull)));have a3:(4:Int)<=(acc.length:Int):=by omega
      clear G T V I;go_wp2_with fail;refine zT (v:=.tuple #[.agg yo,.bool false]) ?_ rfl (Or.inr ⟨HE.u,rfl,_,H.u.jM (zB _) _ _ _ _ _ _⟩);simp[results,results198,go_sem,c0,c1,c2,c3,c4,c5]
     ·have a3:¬(4:Int)<=(acc.length:Int):=by omega
      have d9:=zD ((oL hn3 f6.u (by omega)).symm.trans HT.u);have ⟨_,_,_,d3,_,_,_,_,_,g3,_,_⟩:=YD T;have f9:=zQ T;have b5:R < w4.heap.size:=by omega
      go_wp2_with (at_builtin;refine xQ _ rfl (.tmp 36) (.tmp 38) 87 rfl (w1.heap.size+1) 9 i0 _ 1 16 underlying87 hi d7 d6 b9 rfl (by decide) _ _ _ rfl (F.alloc _) ⟨_,0,none⟩ 1 1 [.string b2] rfl rfl (cell_one_new _ _ _) ?c2 ?c3 ?c4 ?c5 ?_)
      case c2=>intro u hu;simp at hu;rcases hu with rfl;rfl
      case c3=>unfold maxLen;omega
      case c4=>omega
      case c5=>simp;omega
      intro v' w5 z j _;have A:∀k,(Value.slice ad acc.length cap).ownBlock=some k->w1.heap.size < k:=fun k hk=>by have:=(F.lt k hk).1;omega
      have b1:=QW j T (fun h=>by have:=A _ h;omega);have b6:=QW j G (fun h=>by have:=A _ h;omega);have b3:=V.kept (mA j b5 (fun k hk=>by have:=A k hk;omega));have a7:=I.grown j (fun k hk=>by have:=A k hk;omega);obtain⟨ad5,cap5,rfl⟩:=zK z;have ⟨_,_,_,e3,_,_,_,_,_,k3,_,_⟩:=YD b1;have a0:=zf b1 3 (Value.slice ad5 (acc.length+1) cap5);rw[B8]at a0;have a4:=Kz b6 (M:=w1.heap.size) (by omega) 3 (Value.slice ad5 (acc.length+1) cap5);have a2:=b3.setOther (N:=w1.heap.size) (i:=3) (by omega) (by intro g h;cases h) (Value.slice ad5 (acc.length+1) cap5);have J:=a7.YS (N:=w1.heap.size) (i:=3) (by omega) (Value.slice ad5 (acc.length+1) cap5);have y:=yk z (a:=⟨w1.heap.size,3,none⟩) (fun g hg=>by have:=(z.lt g hg).1;show g≠w1.heap.size;omega) (Value.slice ad5 (acc.length+1) cap5);have HH:=DA a0 a4 a2 J y;clear a0 a4 a2 J y b1 b6 b3 a7 z j V I T G F A;go_wp2_with fail;go_roundg (ts.length-(n2+1))
      case measure=>have:=HK.u;omega
      case rel=>
       obtain⟨a0,a4,a2,J,y⟩:=HH.u;exact⟨n2+1,_,acc++[b2],rfl,by omega,by simp;omega,d9.u,a2,J,a4,a0,by simpa using y⟩
    ·have G:=d.qT O (by omega);obtain⟨c0,c1,c2,c3,c4,c5,f0,f1,f2,f3,f4,f5⟩:=YD G;have H:=zD (x.trans d);have HE:=zD (lJ HS.u (HT.u.symm.trans (sQ hn3 U)));clear W V O a1 f x d U G;go_wp2_with fail;refine zT (v:=.tuple #[.agg yo,.bool false]) ?_ rfl (Or.inr ⟨HE.u,rfl,_,H.u.jM (zB _) _ _ _ _ _ _⟩);simp[results,results198,go_sem,c0,c1,c2,c3,c4,c5]
   ·have hd:decide (n2 < ts.length)=false:=by simpa using hn3
    rw[hd];have HE:Hd (Rt.pProc (ts.drop n)=some (⟨3,nm,0,acc,[],[]⟩,ts.drop n2)):=by
     refine zD ?_;have h:=HT.u;rw[vW hn3,Rt.jO]at h;rw[wu HS.u h.symm,vW hn3]
    obtain⟨c0,c1,c2,c3,c4,c5,f0,f1,f2,f3,f4,f5⟩:=YD O;have ⟨d0,d1,d2,d3,d4,d5,_,_,_,_,_,_⟩:=YD a1;have HR:=zD W;have H:=zD x;have HO:=zD (yn (b':=w.heap.size) (ZU (N:=w.heap.size) f (fun g hg=>by have:=(f.lt g hg).1;omega) (.int .i64 3) (.string nm) (.int .i64 0) (.slice ad acc.length cap) zg zg) (by omega));clear W O a1 f x;go_wp2_with fail;refine zT (v:=.tuple #[.agg #[.int .i64 3,.string nm,.int .i64 0,.slice ad acc.length cap,zg,zg],.bool true]) ?_ rfl
     (Or.inl ⟨⟨3,nm,0,acc,[],[]⟩,n2,_,HE.u,rfl,HR.u.jM d8 _ _ _ _ _ _,⟨_,zg,zg,[],rfl,HO.u,zW _ _ _ _,zW _ _ _ _,trivial⟩,H.u.jM (zB _) _ _ _ _ _ _⟩);simp[results,results198,go_sem,c0,c1,c2,c3,c4,c5]
 ·obtain⟨c0,c1,c2,c3,c4,c5,f0,f1,f2,f3,f4,f5⟩:=YD (o.qT a5 (by omega));have HS:=zD hs;have H:=zD (L.trans o);clear hr b0 L o hs a5;go_wp2_with fail;refine zT (v:=.tuple #[.agg yo,.bool false]) ?_ rfl (Or.inr ⟨by rw[Rt.pProc,HS.u],rfl,_,H.u.jM (zB _) _ _ _ _ _ _⟩);simp[results,results198,go_sem,c0,c1,c2,c3,c4,c5]
end Go.Proofs.YthleadfkfnnadaaGreat
