/- The machine: one piece of the work on an expression. -/
import Derived.Test.YthleadfkfnnadaaGreatRefW
set_option maxHeartbeats 4000000
set_option maxRecDepth 100000
set_option linter.unusedSimpArgs false
namespace Go.Proofs.YthleadfkfnnadaaGreat
open Rt Go.Proofs.Tryz
open Go.RowKit
attribute [local go_sem ↓] Go.wp_at_zero Go.wp_at_succ
variable {cs:Array Value} {st:List Int} {tail:List Value} {X:ZK} {M B N K:Nat} {m m':Rt.Mc} {S:Rt.Src} {ty t:TypeId} {sv:Value} {w w' w1 wx:World}
def V8 (M B:Nat) (ty:TypeId) (tail:List Value) (S:Rt.Src) (m m':Rt.Mc) (X:ZK) (w w':World):Prop:=jz w' M B ty tail S m' X/\VM w w' (xh (rowsOf S.input X m))
theorem EJ (s:Rt.Q9) (v:Int) (h:jz w M B ty tail S m X) (H:dL S m):Calls Tryz.prog 206 #[.pointer (some ⟨M,0,none⟩),.agg #[.int .i64 s.line,.int .i64 s.cell],.int .i64 v] w fun e w'=>e=.returned (.tuple #[])/\V8 M B ty tail S m (Rt.jN m s v) X w w':=by
 have a0:=dG H s.line;have f:=(zI w.heap.size w).alloc (zB _) (.cells #[.int .i64 s.line,.int .i64 s.cell] 160);have J:=h.zP f;clear h;go_enter func206,ntmps206;go_wp2_with fail;refine(dH s.line J H).mono ?_;rintro e w1 ⟨rfl,F⟩;have x:=J.zP F;have d:=x.bV s.line;have G:=f.trans (F.mono (B':=w.heap.size) (by simp));have I:=zU (zN w (.cells #[.int .i64 s.line,.int .i64 s.cell] 160)) F;have V:=zC I 1 (by simp);simp at V;have HH:=qG x G;by_cases hh:Rt.Q6 m s=true
 ·obtain⟨g,cap,A,R,N,L⟩:=x.stored s hh v;have o:0<=s.cell/\s.cell < (Rt.cellsOf m s.line).length:=qf hh;rw[A]at d ⊢;have D:=d.frozenAt s.cell.toNat;have y:Hd (V8 M B ty tail S m (Rt.jN m s v) X w (w1.setCell ⟨g,s.cell.toNat,none⟩ (.int .i64 v))):=zD ⟨N,(VM.jQ _ G).trans L (vd.refl _ _)⟩;obtain⟨g2,T,z,_,_,U⟩:=yD d (j:=s.cell.toNat) (u:=.int .i64 ((Rt.cellsOf m s.line)[s.cell.toNat]'(by omega))) (by simp[xR,zJ (show s.cell.toNat < (Rt.cellsOf m s.line).length by omega)]);injection z with e1 _ e2;injection e1 with e1;injection e1 with e1;subst e1;have Z:¬g=w.heap.size:=by
   intro e;obtain⟨c,hc⟩:=yW d (g:=g) rfl;rw[e,I]at hc;injection hc with hc;injection hc with _ hc;exact absurd hc (by decide)
  clear d F J f I x G N L H A hh e2;generalize (Rt.cellsOf m s.line)[s.cell.toNat]'(by omega)=J8 at *;generalize (Rt.cellsOf m s.line).length=n at *;obtain⟨k,W⟩:=yr o.1;rw[W]at V y D U o;simp only[xS]at y D U;have k1:¬(k:Int) < 0:=by omega
  have k2:¬(n:Int)<=(k:Int):=by omega
  have k3:(k:Int) < (n:Int):=by omega
  have k0:(0:Int)<=(k:Int):=by omega
  clear o;go_wp2_with fail;go_end0;exact⟨rfl,y.u⟩
 ·have i:¬(0<=s.cell/\s.cell < (Rt.cellsOf m s.line).length):=fun e=>hh (qA e);have y:Hd (V8 M B ty tail S m (Rt.jN m s v) X w w1):=by
   refine zD ?_;rw[show Rt.jN m s v=m by unfold Rt.jN;rw[zA hh]];exact⟨x,VM.jQ _ G⟩
  obtain⟨ad,cap,O⟩:=zK d;rw[O];clear d F J f I x G H hh O;generalize (Rt.cellsOf m s.line).length=n at *;generalize s.cell=c at *;by_cases hc:c < 0
  ·clear i;go_wp2_with fail;refine zT (results_none rfl _ _ _) rfl ?_;exact⟨rfl,y.u⟩
  ·have a1:(n:Int)<=c:=by omega
   clear i;go_wp2_with fail;refine zT (results_none rfl _ _ _) rfl ?_;exact⟨rfl,y.u⟩
theorem El (s:Rt.Q9) (h:jz w M B ty tail S m X) (k:dL S m):Calls Tryz.prog 193 #[.pointer (some ⟨M,0,none⟩),.agg #[.int .i64 s.line,.int .i64 s.cell]] w fun e w'=>e=.returned (.bool (Rt.Q6 m s))/\Below w.heap.size w w':=by
 have D:=dG k s.line;have f:=(zI w.heap.size w).alloc (zB _) (.cells #[.int .i64 s.line,.int .i64 s.cell] 160);have o:=h.zP f;clear h;go_enter func193,ntmps193;go_wp2_with fail;refine(dH s.line o k).mono ?_;rintro e w1 ⟨rfl,j⟩;have d:=yG (o.bV s.line) j;have y:=zD (f.trans (j.mono (B':=w.heap.size) (by simp)));have A:=zU (zN w (.cells #[.int .i64 s.line,.int .i64 s.cell] 160)) j;have F:=zC A 1 (by simp);simp at F;obtain⟨G,cap,z⟩:=zK d;rw[z];have x:=zD (show Rt.Q6 m s=decide (0<=s.cell/\s.cell < (Rt.cellsOf m s.line).length)from rfl);clear d j o f A k z;generalize (Rt.cellsOf m s.line).length=n at *;generalize s.cell=c at *;by_cases h1:0<=c
 ·by_cases h2:c < (n:Int)
  ·have i:=zD (show Rt.Q6 m s=true by rw[x.u];exact qA ⟨h1,h2⟩);go_wp2;go_ret;exact⟨by rw[i.u];rfl,y.u⟩
  ·have i:=zD (show Rt.Q6 m s=false by rw[x.u];exact qP (fun e=>h2 e.2));go_wp2;go_ret;exact⟨by rw[i.u];exact yj (qP (by omega)),y.u⟩
 ·have i:=zD (show Rt.Q6 m s=false by rw[x.u];exact qP (fun e=>h1 e.1));go_wp2;go_ret;exact⟨by rw[i.u];rfl,y.u⟩
theorem QF {qo:List Int} (h:Own w (rowsOf qo X m)) (k:w.heap[N]?=some (.cells cs t (0,0))) (f:t≠3/\t≠153/\t≠24):N∉xh (rowsOf qo X m):=by
 intro e;obtain⟨r,i,j⟩:=ju.mp e;obtain⟨c,d⟩:=yW (h.rows r i) j;rw[k]at d;injection d with d;injection d with _ d;have:=JF i;rw[<-d]at this;rcases this with e | e | e
 ·exact f.1 e
 ·exact f.2.1 e
 ·exact f.2.2 e
theorem V8.aside {M B:Nat} {ty:TypeId} {tail:List Value} {S:Rt.Src} {m m':Rt.Mc} {X:ZK} {w w':World} (h:V8 M B ty tail S m m' X w w') (o:M < w.heap.size) {N:Nat} {cs:Array Value} {t:TypeId} (j:w'.heap[N]?=some (.cells cs t (0,0))) (f:w.heap.size<=N) (d:¬Xe t/\t≠3/\t≠153/\t≠24) (i:Nat) (v:Value):V8 M B ty tail S m m' X w (w'.setCell ⟨N,i,none⟩ v):=by
 refine⟨h.1.aside j (by omega) d i v,⟨h.2.os,h.2.tape,h.2.output,zi h.2.size (by simp[World.setCell]),fun k hk hn=>?_⟩⟩;rw[zO w' ⟨N,i,none⟩ v k (by show k≠N;omega)];exact h.2.block k hk hn
abbrev W5 (w:World) (N:Nat) (a b c d e:Value):World:=((((w.setCell ⟨N,0,none⟩ a).setCell ⟨N,1,none⟩ b).setCell ⟨N,2,none⟩ c).setCell ⟨N,3,none⟩ d).setCell ⟨N,4,none⟩ e
theorem V8.five (h:V8 M B ty tail S m m' X w w') (i:M < w.heap.size) (x:w'.heap[N]?=some (.cells cs t (0,0))) (f:w.heap.size<=N) (j:¬Xe t/\t≠3/\t≠153/\t≠24) (a b c d e:Value):V8 M B ty tail S m m' X w (W5 w' N a b c d e):=by
 have o:=zf x 0 a;have n2:=zf o 1 b;have k:=zf n2 2 c;have y:=zf k 3 d;exact((((h.aside i x f j 0 a).aside i o f j 1 b).aside i n2 f j 2 c).aside i k f j 3 d).aside i y f j 4 e
theorem QY {v0 v1 v2 v3 v4:Value} (h:w.heap[N]?=some (.cells #[v0,v1,v2,v3,v4] t (0,0))):w.cell? ⟨N,0,none⟩=some v0/\w.cell? ⟨N,1,none⟩=some v1/\w.cell? ⟨N,2,none⟩=some v2/\w.cell? ⟨N,3,none⟩=some v3/\w.cell? ⟨N,4,none⟩=some v4:=
 ⟨zC h 0 (by simp),zC h 1 (by simp),zC h 2 (by simp),zC h 3 (by simp),zC h 4 (by simp)⟩
theorem Kv (s:Rt.Q9) (v:Int) (h:jz w M B ty tail S m X) (L:dL S m):Calls Tryz.prog 181 #[.pointer (some ⟨M,0,none⟩),.agg #[.int .i64 s.line,.int .i64 s.cell],.int .i64 v] w fun e w'=>e=.returned (.agg #[.int .i64 4,.int .i64 0,.int .i64 s.line,.int .i64 s.cell,.int .i64 (Rt.ZL m s)])/\V8 M B ty tail S m (Rt.jN m s v) X w w':=by
 have N:=zQ h.block;have F:=(zI w.heap.size w).alloc (zB _) (.cells #[.int .i64 s.line,.int .i64 s.cell] 160);have x:=F.alloc (by simp) (.cells #[.int .i64 0,.int .i64 0,.int .i64 0,.int .i64 0,.int .i64 0] 162);have O:=h.zP x;have W:=yR (zN w (.cells #[.int .i64 s.line,.int .i64 s.cell] 160)) (.cells #[.int .i64 0,.int .i64 0,.int .i64 0,.int .i64 0,.int .i64 0] 162);have Z:=qD w (.cells #[.int .i64 s.line,.int .i64 s.cell] 160) (.cells #[.int .i64 0,.int .i64 0,.int .i64 0,.int .i64 0,.int .i64 0] 162);clear h F;go_enter func181,ntmps181;go_wp2_with fail;refine(nT s O L).mono ?_;rintro e w1 ⟨rfl,i⟩;have J:=O.zP i;have H:=x.trans (i.mono (B':=w.heap.size) (by simp;omega));have f:=zU W i;have o:=zU Z i;have U:=zC f 0 (by simp);have T:=zC f 1 (by simp);simp at U T;clear O x W Z i;generalize I:Rt.ZL m s=J8 at *;go_wp2_with fail;refine(EJ s v J L).mono ?_;rintro e w2 ⟨rfl,V,j⟩;have A:=QF J.own f (by decide);have D:=QF J.own o (by decide);have y:=(j.block _ (zQ f) A).trans f;have k:=(j.block _ (zQ o) D).trans o;have q0:=zC y 0 (by simp);have q1:=zC y 1 (by simp);simp at q0 q1;obtain⟨r0,r1,r2,r3,r4⟩:=QY k;have z:=zS k;have HF:=zD (show V8 M B ty tail S m (Rt.jN m s v) X w w2 from⟨V,(VM.jQ _ H).trans j (vd.refl _ _)⟩);have G:M < w.heap.size:=N;have R:=zD (fun a b c d e=>HF.u.five G k (by omega) (by unfold Xe;decide) a b c d e);clear J V j H L f o A D U T HF y k;go_wp2_with fail;refine zT (v:=.agg #[.int .i64 4,.int .i64 0,.int .i64 s.line,.int .i64 s.cell,.int .i64 J8]) ?_ rfl ⟨by rw[I],R.u _ _ _ _ _⟩;simp[results,results181,go_sem,r0,r1,r2,r3,r4]
namespace Rt
theorem oO:∀(i:Nat) (l:List ByteArray) (x:ByteArray),parNo i l x=parFrom i l x
 | _,[],_=>rfl
 | i,p::r,x=>by rw[parNo,parFrom,oO (i+1) r x]
theorem Dx (S:Src) (m:Mc) (x:ByteArray):vx S m x=if 0<=YW S.zL (qJ S m) x then ⟨0,YW S.zL (qJ S m) x⟩else ⟨xb S.zL x,0⟩:=by
 unfold vx YW;rw[oO]
end Rt
theorem fy (x:ByteArray) (h:jz w M B ty tail S m X) (I:dL S m):Calls Tryz.prog 164 #[.pointer (some ⟨M,0,none⟩),.string x] w fun e w'=>e=.returned (.agg #[.int .i64 (Rt.vx S m x).line,.int .i64 (Rt.vx S m x).cell])/\Below w.heap.size w w':=by
 have f:=aJ I.ZX (Rt.qJ S m);have F:=I.zL;have o:=(zI w.heap.size w).alloc (zB _) (.cells #[.int .i64 0,.int .i64 0] 160);have J:=h.zP o;have U:=zN w (.cells #[.int .i64 0,.int .i64 0] 160);have H:=zD (Dx S m x);clear h I;go_enter func164,ntmps164;go_wp2_with fail;refine(CF J).mono ?_;rintro e w1 ⟨rfl,j⟩;have N:=J.prog.zP j;have y:=o.trans (j.mono (B':=w.heap.size) (by simp));have G:=zU U j;clear J o j U;generalize Rt.qJ S m=pc at *;go_wp2_with fail;refine(FI pc x N f).mono ?_;rintro e w2 ⟨rfl,i⟩;have L:=N.zP i;have k:=y.trans (i.mono (B':=w.heap.size) y.size);have d:=zU G i;clear N y i G;generalize YW S.zL pc x=pi at *;by_cases hpi:0<=pi
 ·have O:=zD (show Rt.vx S m x=⟨0,pi⟩ by rw[H.u,zE hpi]);have D:=zC d 0 (by simp);have A:=zC d 1 (by simp);have z:=zS d;simp at D A;have R:=zD (fun a b:Value=>(k.setCell (p:=⟨w.heap.size,0,none⟩) (zB _) a).setCell (p:=⟨w.heap.size,1,none⟩) (zB _) b);clear L k H f d;go_wp2_with fail;refine zT (v:=.agg #[.int .i64 0,.int .i64 pi]) ?_ rfl ⟨by rw[O.u],R.u _ _⟩;simp[results,results164,go_sem,D,A]
 ·have O:=zD (show Rt.vx S m x=⟨Rt.xb S.zL x,0⟩ by rw[H.u,zA hpi]);have T:¬0<=pi:=hpi;clear H f;go_wp2_with fail;refine(XE x L F).mono ?_;rintro e V ⟨rfl,rfl⟩;have D:=zC d 0 (by simp);have A:=zC d 1 (by simp);have z:=zS d;simp at D A;have R:=zD (fun a b:Value=>(k.setCell (p:=⟨w.heap.size,0,none⟩) (zB _) a).setCell (p:=⟨w.heap.size,1,none⟩) (zB _) b);clear L k d;generalize Rt.xb S.zL x=dp at *;go_wp2_with fail;refine zT (v:=.agg #[.int .i64 dp,.int .i64 0]) ?_ rfl ⟨by rw[O.u],R.u _ _⟩;simp[results,results164,go_sem,D,A]
def cellR:Option Rt.Q9->Value
 | none=>.tuple #[.agg #[.int .i64 0,.int .i64 0],.bool false]
 | some s=>.tuple #[.agg #[.int .i64 s.line,.int .i64 s.cell],.bool true]
theorem lU (x:ByteArray) (n:Int) (h:jz w M B ty tail S m X) (G:dL S m):Calls Tryz.prog 167 #[.pointer (some ⟨M,0,none⟩),.string x,.int .i64 n] w fun e w'=>e=.returned (cellR (Rt.kX S m x n))/\Below w.heap.size w w':=by
 have k:=G.zL;have i:=(zI w.heap.size w).alloc (zB _) (.cells #[.int .i64 0,.int .i64 0] 160);have H:=h.zP i;clear h;go_enter func167,ntmps167;go_wp2_with fail;refine(XE x H.prog k).mono ?_;rintro e w1 ⟨rfl,rfl⟩;have A:=zD (show Rt.kX S m x n=if Rt.Q6 m ⟨Rt.xb S.zL x,n⟩=true then some ⟨Rt.xb S.zL x,n⟩else none from rfl);generalize U:(Rt.xb S.zL x:Int)=dp at *;have o:=i.alloc (by simp) (.cells #[.int .i64 dp,.int .i64 n] 160);have J:=H.zP ((zI _ _).alloc (zB _) (.cells #[.int .i64 dp,.int .i64 n] 160));have N:=yR (zN w (.cells #[.int .i64 0,.int .i64 0] 160)) (.cells #[.int .i64 dp,.int .i64 n] 160);have L:=qD w (.cells #[.int .i64 0,.int .i64 0] 160) (.cells #[.int .i64 dp,.int .i64 n] 160);clear H i;go_wp2_with fail;refine(El ⟨dp,n⟩ J G).mono ?_;rintro e w2 ⟨rfl,d⟩;have y:=o.trans (d.mono (B':=w.heap.size) (by simp;omega));have f:=zU N d;have j:=zU L d;have F:=zC f 0 (by simp);have D:=zC f 1 (by simp);have z:=zS f;have T:=zC j 0 (by simp);have R:=zC j 1 (by simp);simp at F D T R;have O:=zD (fun a b:Value=>(y.setCell (p:=⟨w.heap.size,0,none⟩) (zB _) a).setCell (p:=⟨w.heap.size,1,none⟩) (zB _) b);clear o J d y N L f j G;cases hh:Rt.Q6 m ⟨dp,n⟩with
 | true=>
  have I:=zD (show Rt.kX S m x n=some ⟨dp,n⟩ by rw[A.u,zE hh]);clear A hh;go_wp2_with fail;refine zT (v:=.tuple #[.agg #[.int .i64 dp,.int .i64 n],.bool true]) ?_ rfl ⟨by rw[I.u];rfl,O.u _ _⟩;simp[results,results167,go_sem,F,D]
 | false=>
  have I:=zD (show Rt.kX S m x n=none by rw[A.u,zA (by rw[hh];simp)]);clear A hh;go_wp2_with fail;refine zT (v:=.tuple #[.agg #[.int .i64 0,.int .i64 0],.bool false]) ?_ rfl ⟨by rw[I.u];rfl,O.u _ _⟩;simp[results,results167,go_sem,F,D]
structure Qf (w:World) (K:Nat) (st:List Int) (sv:Value):Prop where
 block:w.heap[K]?=some (.cells #[sv] 232 (0,0))
 own:w.ownsRow (K+1) 3 1 sv st.length (xR st)
theorem Qf.zP (h:Qf w K st sv) (d:Below w.heap.size w w'):Qf w' K st sv:=⟨zU h.block d,yG h.own d⟩
structure uA (K:Nat) (sv:Value) (w w':World):Prop where
 os:w'.os=w.os
 tape:w'.tape=w.tape
 output:w'.output=w.output
 size:w.heap.size<=w'.heap.size
 block:∀k,k < w.heap.size->k≠K->some k≠sv.ownBlock->w'.heap[k]?=w.heap[k]?
theorem uA.below (h:uA K sv w w') (d:Qf w K st sv):Below K w w':=by
 have f:=zQ d.block;exact⟨h.os,h.tape,h.output,h.size,fun k hk=>h.block k (by omega) (by omega) (fun e=>by have:=(d.own.lt k e.symm).1;omega)⟩
theorem uA.other (h:uA K sv w w') (i:Qf w K st sv) {c:Array Value} (d:w.heap[N]?=some (.cells c t (0,0))) (k:t≠3) (j:t≠232):w'.heap[N]?=some (.cells c t (0,0)):=by
 rw[h.block N (zQ d) ?_ ?_]
 ·exact d
 ·intro e;rw[e,i.block]at d;injection d with d;injection d with _ d;exact j d.symm
 ·intro e;obtain⟨o,f⟩:=yW i.own e.symm;rw[d]at f;injection f with f;injection f with _ f;exact k f
theorem sdec (o:List Int):o=[]\/∃pre x,o=pre++[x]:=by
 rcases ZC o with h | ⟨pre,b,h⟩
 ·exact Or.inl h
 ·exact Or.inr ⟨pre,b,by simpa using h⟩
theorem Qf.put {st':List Int} {sv':Value} (h:Qf w K st sv) (f:Below w.heap.size w wx) (o:wx.grownBy w1 sv.ownBlock) (j:w1.ownsRow (K+1) 3 1 sv' st'.length (xR st')):Qf (w1.setCell ⟨K,0,none⟩ sv') K st' sv'/\uA K sv w (w1.setCell ⟨K,0,none⟩ sv'):=by
 have y:=zQ h.block;have x:∀k,k<=K->some k≠sv.ownBlock:=fun k hk e=>by have:=(h.own.lt k e.symm).1;omega
 have d:∀k,k < w.heap.size->some k≠sv.ownBlock->w1.heap[k]?=w.heap[k]?:=fun k hk hv=>(o.block k (zX hk f.size) hv).trans (f.block k hk);have i:∀k,k≠K->(w1.setCell ⟨K,0,none⟩ sv').heap[k]?=w1.heap[k]?:=fun k hk=>zO w1 ⟨K,0,none⟩ _ k hk;refine⟨⟨?_,qL j (by show K < K+1;omega) _⟩,⟨o.os.trans f.os,o.tape.trans f.tape,o.output.trans f.output,?_,fun k hk hk2 hk3=>?_⟩⟩
 ·have:=zf ((d K y (x K (zB _))).trans h.block) 0 sv';simpa using this
 ·have:=o.size;have:=f.size;simp[World.setCell];omega
 ·rw[i k hk2,d k hk hk3]
theorem D9 (h:Qf w K st sv) (i:Below w.heap.size w wx) (j:wx.grownBy w1 sv.ownBlock):w1.cell? ⟨K,0,none⟩=some sv/\w1.frozen? ⟨K,0,none⟩=false:=by
 have d:=zQ h.block;have f:w1.heap[K]?=some (.cells #[sv] 232 (0,0)):=by
  rw[j.block K (zX d i.size) (fun e=>by have:=(h.own.lt K e.symm).1;omega),i.block K d];exact h.block
 exact⟨zC f 0 (by simp),zS f 0⟩
theorem XL:(Tryz.prog.info? 3).map (fun i=>(i.zero,i.size,i.bytes))=some (some (.int .i64 0),1,8):=by kernel_rfl
theorem KN (v:Int) (h:Qf w K st sv) (A:st.length<=2000):Calls Tryz.prog 218 #[.pointer (some ⟨K,0,none⟩),.int .i64 v] w fun e w'=>e=.returned (.tuple #[])/\(∃sv',Qf w' K (st++[v]) sv')/\uA K sv w w':=by
 obtain⟨I,x,o,k,j⟩:=yi XL;have i:=h.own;have L:=zC h.block 0 (by simp);simp at L;have F:=zQ h.block;have G:=zD h;obtain⟨N,cap,rfl⟩:=zK h.own;clear h;go_enter func218,ntmps218;go_wp2_with (at_builtin;refine wpList_append_lies _ rfl _ _ 24 rfl (K+1) 3 I _ 1 8 underlying24 x o k j rfl (by decide) _ _ _ rfl (i.alloc _) ⟨w.heap.size,0,none⟩ 1 1 [.int .i64 v] rfl rfl (cell_one_new _ _ _) (by simp[Value.oneCell']) (by omega) (by unfold maxLen;omega) (by omega) (by simp;omega) (w.heap.size+1) (by simp) ?_);intro g cap' M f d y z;obtain⟨D,J⟩:=D9 G.u ((zI _ _).alloc (zB _) _) d;have H:=zD (G.u.put (st':=st++[v]) ((zI _ _).alloc (zB _) _) d (by rw[ze,xR,yB];exact f));clear f d y i;go_wp2_with fail;go_end0;exact⟨rfl,⟨_,H.u.1⟩,H.u.2⟩
theorem aM (h:Qf w K st sv) (f:st.length<=2000):Calls Tryz.prog 208 #[.pointer (some ⟨K,0,none⟩)] w fun e w'=>e=.returned (.int .i64 (st.getLastD 0))/\(∃sv',Qf w' K st.dropLast sv')/\uA K sv w w':=by
 have z:=zC h.block 0 (by simp);have O:=zS h.block 0;simp at z;rcases sdec st with rfl | ⟨pre,x,rfl⟩
 ·have i:=zD h;obtain⟨T,cap,rfl⟩:=zK h.own;simp only[qQ]at z;clear h;go_enter func208,ntmps208;go_wp2;go_ret;exact⟨rfl,⟨_,i.u⟩,⟨rfl,rfl,rfl,zB _,fun _ _ _ _=>rfl⟩⟩
 ·have j:pre.length+1<=3000:=by simp at f;omega
  have M:(xR (pre++[x]))[pre.length]?=some (.int .i64 x):=by simp[xR]
  obtain⟨g,cap,k,N,_,R⟩:=yD h.own M;have hown:=h.own;have o:=h;subst k;simp only[ze,yE,qQ,xW]at hown z o ⊢;have A:pre.length+1<=cap:=by
   rcases hown.2 with⟨y,_⟩| ⟨g',cap',cur,y,_,_,hn,_⟩
   ·cases y
   ·simp at y;omega
  have d:w.ownsRow (K+1) 3 1 (.slice (some ⟨g,0,none⟩) pre.length cap) pre.length (xR pre):=by
   rw[xR,yB]at hown;exact ownsRow_pop (by simp[xR]) hown
  have i:=zD (fun q=>o.put (st':=pre) (below_drewN w q) ⟨rfl,rfl,rfl,zB _,fun _ _ _=>rfl⟩ (show (w.drewN q).ownsRow (K+1) 3 1 (.slice (some ⟨g,0,none⟩) pre.length cap) pre.length (xR pre)from d));rw[show (pre++[x]).getLastD 0=x by simp,show (pre++[x]).dropLast=pre by simp];clear h o hown d;generalize HPL:pre.length=m at *
  replace HPL:=zD HPL
  have L:(0:Int)<=(m:Int):=by omega
  have J:(m:Int) < (m:Int)+1:=by omega
  have I:(m:Int)<=3000:=by omega
  have H:IntKind.i64.wrap ((m:Int)+1-1)=(m:Int):=by rw[show (m:Int)+1-1=(m:Int) by omega,yv,yC _ (by omega)]
  have G:IntKind.i64.wrap (m:Int)=(m:Int):=by rw[yv,yC _ (by omega)]
  have F:¬(m:Int) < 0:=by omega
  have D:(m:Int)<=(cap:Int):=by omega
  go_enter func208,ntmps208;go_wp2;go_ret;exact⟨rfl,⟨_,(i.u 0).1⟩,(i.u 0).2⟩
theorem iy (b:Bool):Calls Tryz.prog 223 #[.bool b] w fun e w'=>e=.returned (.int .i64 (Rt.Vi b))/\w'=w:=by
 cases b
 all_goals
  go_enter func223,ntmps223;go_wp2;go_ret;exact⟨rfl,rfl⟩
theorem rA (code l r:Int):Calls Tryz.prog 219 #[.int .i64 code,.int .i64 l,.int .i64 r] w fun e w'=>e=.returned (.tuple #[.int .i64 (Rt.xF code l r).1,.int .i64 (Rt.xF code l r).2])/\w'=w:=by
 have f:∀k:Int,¬code=k->(code==k)=false:=fun k h=>by rw[zV];exact h
 by_cases h5:code=5
 ·subst h5;have d:=zD (show Rt.xF 5 l r=(wrap64 (l+r),0)from rfl);clear f;go_enter func219,ntmps219;go_wp2_with fail;go_ret2;exact⟨by rw[d.u];rfl,rfl⟩
 by_cases h6:code=6
 ·subst h6;have d:=zD (show Rt.xF 6 l r=(wrap64 (l-r),0)from rfl);clear f h5;go_enter func219,ntmps219;go_wp2_with fail;go_ret2;exact⟨by rw[d.u];rfl,rfl⟩
 by_cases h7:code=7
 ·subst h7;have d:=zD (show Rt.xF 7 l r=(wrap64 (l*r),0)from rfl);clear f h5 h6;go_enter func219,ntmps219;go_wp2_with fail;go_ret2;exact⟨by rw[d.u];rfl,rfl⟩
 by_cases h10:code=10
 ·subst h10;have d:=zD (show Rt.xF 10 l r=(Rt.Vi (decide (l < r)),0)from rfl);clear f h5 h6 h7;go_enter func219,ntmps219;go_wp2_with fail;refine(iy (decide (l < r))).mono ?_;rintro e w1 ⟨rfl,rfl⟩;go_wp2_with fail;go_ret2;exact⟨by rw[d.u];rfl,rfl⟩
 by_cases h11:code=11
 ·subst h11;have d:=zD (show Rt.xF 11 l r=(Rt.Vi (decide (l=r)),0)from rfl);clear f h5 h6 h7 h10;go_enter func219,ntmps219;go_wp2_with fail;refine(iy _).mono ?_;rintro e w1 ⟨rfl,rfl⟩;go_wp2_with fail;go_ret2;exact⟨by rw[d.u,beq_eq_decide];rfl,rfl⟩
 have D:=f 5 h5;have A:=f 6 h6;have z:=f 7 h7;have y:=f 10 h10;have x:=f 11 h11;have i:=zD (show Rt.xF code l r=if r=0 then (0,2)else if code=8 then (wrap64 (l.tdiv r),0)else (l.tmod r,0) by unfold Rt.xF;rw[zA h5,zA h6,zA h7,zA h10,zA h11]);clear f h5 h6 h7 h10 h11;by_cases hr:r=0
 ·subst hr;have d:=zD (show Rt.xF code l 0=(0,2) by rw[i.u,zE rfl]);clear i;go_enter func219,ntmps219;go_wp2_with fail;go_ret2;exact⟨by rw[d.u];rfl,rfl⟩
 have j:(r==0)=false:=by rw[zV];exact hr
 by_cases h8:code=8
 ·have d:=zD (show Rt.xF code l r=(wrap64 (l.tdiv r),0) by rw[i.u,zA hr,zE h8]);have o:(code==8)=true:=by simpa using h8
  clear i h8;go_enter func219,ntmps219;go_wp2_with fail;go_ret2;exact⟨by rw[d.u];rfl,rfl⟩
 ·have d:=zD (show Rt.xF code l r=(l.tmod r,0) by rw[i.u,zA hr,zA h8]);have o:(code==8)=false:=by simpa using h8
  clear i h8;go_enter func219,ntmps219;go_wp2_with fail;go_ret2;exact⟨by rw[d.u];rfl,rfl⟩
def mT (K:Nat) (x:List Int×Int) (w:World) (e:Ending) (w':World):Prop:=e=.returned (.int .i64 x.2)/\(∃sv,Qf w' K x.1 sv)/\Below K w w'
section
variable (w0 w:World) (M B:Nat) (ty:TypeId) (tail:List Value) (S:Rt.Src) (m:Rt.Mc) (X:ZK) (K:Nat) (st:List Int) (sv:Value) (code number:Int) (name:ByteArray)
theorem re (D:jz w0 M B ty tail S m X) (y:dL S m) (x:Below w0.heap.size w0 w) (H:w0.heap.size<=K) (k:Qf w K st sv) (z:st.length<=1000):Calls Tryz.prog 207 #[.pointer (some ⟨M,0,none⟩),.pointer (some ⟨K,0,none⟩),.agg #[.int .i64 1,.int .i64 number,.string name]] w (mT K (st++[number],0) w):=by
 have _u:=And.intro D (And.intro y H);clear _u;have A:=zQ k.block;have d:=(zI w.heap.size w).alloc (zB _) (.cells #[.int .i64 1,.int .i64 number,.string name] 236);have I:=zN w (.cells #[.int .i64 1,.int .i64 number,.string name] 236);have f:=k.zP d;have i:Below K w (w.alloc (.cells #[.int .i64 1,.int .i64 number,.string name] 236)):=d.mono (by omega);have o:Below w0.heap.size w0 (w.alloc (.cells #[.int .i64 1,.int .i64 number,.string name] 236)):=x.trans (d.mono x.size);clear k d;go_enter func207,ntmps207;go_wp2_with fail;refine(KN number f (by omega)).mono ?_;rintro e w2 ⟨rfl,⟨G,h⟩,j⟩;have F:=qG h (i.trans (j.below f));clear f h j i o x D y I;go_wp2;go_ret;exact⟨rfl,⟨_,F.u.1⟩,F.u.2⟩
theorem wH (N:jz w0 M B ty tail S m X) (L:dL S m) (R:Below w0.heap.size w0 w) (Z:w0.heap.size<=K) (O:Qf w K st sv) (T:st.length<=1000):Calls Tryz.prog 207 #[.pointer (some ⟨M,0,none⟩),.pointer (some ⟨K,0,none⟩),.agg #[.int .i64 2,.int .i64 number,.string name]] w (mT K (st++[Rt.ZL m (Rt.vx S m name)],0) w):=by
 have _u:=And.intro N (And.intro L Z);clear _u;have U:=zQ O.block;have h:=(zI w.heap.size w).alloc (zB _) (.cells #[.int .i64 2,.int .i64 number,.string name] 236);have bO:=zN w (.cells #[.int .i64 2,.int .i64 number,.string name] 236);have G:=O.zP h;have H:Below K w (w.alloc (.cells #[.int .i64 2,.int .i64 number,.string name] 236)):=h.mono (by omega);have i:Below w0.heap.size w0 (w.alloc (.cells #[.int .i64 2,.int .i64 number,.string name] 236)):=R.trans (h.mono R.size);clear O h;go_enter func207,ntmps207;go_wp2_with fail;refine(fy name (N.zP i) L).mono ?_;rintro e w2 ⟨rfl,d⟩;have z:=G.zP d;have o:=H.trans (d.mono (B':=K) (by simp;omega));have D:=i.trans (d.mono (B':=w0.heap.size) i.size);clear G H i d bO;generalize Rt.vx S m name=sp at *;have f:=(zI w2.heap.size w2).alloc (zB _) (.cells #[.int .i64 sp.line,.int .i64 sp.cell] 160);have y:=z.zP f;have k:=o.trans (f.mono (B':=K) (by have:=zQ z.block;omega));have J:=D.trans (f.mono (B':=w0.heap.size) D.size);clear z o D f;go_wp2_with fail;refine(nT sp (N.zP J) L).mono ?_;rintro e w4 ⟨rfl,A⟩;have x:=y.zP A;have j:=k.trans (A.mono (B':=K) (by have:=zQ y.block;omega));clear y k J A;generalize Rt.ZL m sp=gx at *;go_wp2_with fail;refine(KN gx x (by first | omega | (simp;omega))).mono ?_;rintro e w9 ⟨rfl,⟨W,F⟩,I⟩;have V:=qG F (j.trans (I.below x));clear x F I j R N L;go_wp2;go_ret;exact⟨rfl,⟨_,V.u.1⟩,V.u.2⟩
theorem work_cell (W:jz w0 M B ty tail S m X) (O:dL S m) (hb:Below w0.heap.size w0 w) (hK:w0.heap.size<=K) (hs:Qf w K st sv) (a0:st.length<=1000) (x:List Int×Int) (hx:x=match Rt.kX S m name (st.getLastD 0)with | none=>(st.dropLast,3)| some s=>(st.dropLast++[Rt.ZL m s],0)):Calls Tryz.prog 207 #[.pointer (some ⟨M,0,none⟩),.pointer (some ⟨K,0,none⟩),.agg #[.int .i64 3,.int .i64 number,.string name]] w (mT K x w):=by
 have _u:=And.intro W (And.intro O hK);clear _u;have a1:=zQ hs.block;have o:=(zI w.heap.size w).alloc (zB _) (.cells #[.int .i64 3,.int .i64 number,.string name] 236);have bO:=zN w (.cells #[.int .i64 3,.int .i64 number,.string name] 236);have j:=hs.zP o;have R:Below K w (w.alloc (.cells #[.int .i64 3,.int .i64 number,.string name] 236)):=o.mono (by omega);have V:Below w0.heap.size w0 (w.alloc (.cells #[.int .i64 3,.int .i64 number,.string name] 236)):=hb.trans (o.mono hb.size);clear hs o;have HX:=zD hx;clear hx;go_enter func207,ntmps207;go_wp2_with fail;refine(aM j (by first | omega | (simp <;> omega))).mono ?_;rintro e w2 ⟨rfl,⟨a3,I⟩,i⟩;have L:=i.below j;have F:=R.trans L;have z:=V.trans (L.mono (B':=w0.heap.size) hK);have Z:w2.heap[w.heap.size]?=some (.cells #[.int .i64 3,.int .i64 number,.string name] 236 (0,0)):=i.other j bO (by decide) (by decide);have k2:=zC Z 2 (by simp);simp at k2;have a4:st.dropLast.length<=1000:=by simp;omega
 clear j R V L bO Z i;generalize st.getLastD 0=idx at *;generalize st.dropLast=st2 at *;go_wp2_with fail;refine(lU name idx (W.zP z) O).mono ?_;rintro e w3 ⟨rfl,k⟩;have h:=I.zP k;have f:=F.trans (k.mono (B':=K) (by have:=zQ I.block;omega));have y:=z.trans (k.mono (B':=w0.heap.size) z.size);clear I F z k;cases hc:Rt.kX S m name idx with
 | none=>
  have HY:=zD (show x=(st2,3) by rw[HX.u,hc]);have d:=(zI w3.heap.size w3).alloc (zB _) (.cells #[.int .i64 0,.int .i64 0] 160);have HF:=qG (h.zP d) (f.trans (d.mono (B':=K) (by have:=zQ h.block;omega)));clear h f y hb W O hc d;simp only[cellR];go_wp2;go_ret;rw[HY.u];exact⟨rfl,⟨_,HF.u.1⟩,HF.u.2⟩
 | some sp=>
  have HY:=zD (show x=(st2++[Rt.ZL m sp],0) by rw[HX.u,hc]);clear hc;simp only[cellR];have d:=(zI w3.heap.size w3).alloc (zB _) (.cells #[.int .i64 sp.line,.int .i64 sp.cell] 160);have H:=h.zP d;have D:=f.trans (d.mono (B':=K) (by have:=zQ h.block;omega));have U:=y.trans (d.mono (B':=w0.heap.size) y.size);clear h f y d;go_wp2_with fail;refine(nT sp (W.zP U) O).mono ?_;rintro e w5 ⟨rfl,J⟩;have G:=H.zP J;have A:=D.trans (J.mono (B':=K) (by have:=zQ H.block;omega));clear H D U J;generalize Rt.ZL m sp=gx at *;go_wp2_with fail;refine(KN gx G (by first | omega | (simp;omega))).mono ?_;rintro e w9 ⟨rfl,⟨a2,N⟩,T⟩;have HF:=qG N (A.trans (T.below G));clear G N T A hb W O;go_wp2;go_ret;rw[HY.u];exact⟨rfl,⟨_,HF.u.1⟩,HF.u.2⟩
theorem Bi (L:jz w0 M B ty tail S m X) (G:dL S m) (F:Below w0.heap.size w0 w) (J:w0.heap.size<=K) (A:Qf w K st sv) (H:st.length<=1000):Calls Tryz.prog 207 #[.pointer (some ⟨M,0,none⟩),.pointer (some ⟨K,0,none⟩),.agg #[.int .i64 4,.int .i64 number,.string name]] w (mT K (st.dropLast++[wrap64 (-(st.getLastD 0))],0) w):=by
 have _u:=And.intro L (And.intro G J);clear _u;have I:=zQ A.block;have d:=(zI w.heap.size w).alloc (zB _) (.cells #[.int .i64 4,.int .i64 number,.string name] 236);have U:=zN w (.cells #[.int .i64 4,.int .i64 number,.string name] 236);have i:=A.zP d;have x:Below K w (w.alloc (.cells #[.int .i64 4,.int .i64 number,.string name] 236)):=d.mono (by omega);have z:Below w0.heap.size w0 (w.alloc (.cells #[.int .i64 4,.int .i64 number,.string name] 236)):=F.trans (d.mono F.size);clear A d;go_enter func207,ntmps207;go_wp2_with fail;refine(aM i (by first | omega | (simp <;> omega))).mono ?_;rintro e w2 ⟨rfl,⟨R,h⟩,o⟩;have j:=o.below i;have f:=x.trans j;have D:=z.trans (j.mono (B':=w0.heap.size) J);have T:st.dropLast.length<=1000:=by simp;omega
 clear i x z j U D;generalize st.getLastD 0=idx at *;generalize st.dropLast=st2 at *;go_wp2_with fail;refine(KN (wrap64 (-idx)) h (by omega)).mono ?_;rintro e V ⟨rfl,⟨O,k⟩,y⟩;have N:=qG k (f.trans (y.below h));clear h k y f F L G;go_wp2;go_ret;exact⟨rfl,⟨_,N.u.1⟩,N.u.2⟩
theorem Bh (W:jz w0 M B ty tail S m X) (T:dL S m) (O:Below w0.heap.size w0 w) (V:w0.heap.size<=K) (R:Qf w K st sv) (a1:st.length<=1000) (h1:¬code=1) (h2:¬code=2) (h3:¬code=3) (h4:¬code=4) (x:List Int×Int) (hx:x=if (Rt.xF code (st.dropLast.getLastD 0) (st.getLastD 0)).2=0 then (st.dropLast.dropLast++[(Rt.xF code (st.dropLast.getLastD 0) (st.getLastD 0)).1],0)else (st.dropLast.dropLast,(Rt.xF code (st.dropLast.getLastD 0) (st.getLastD 0)).2)):Calls Tryz.prog 207 #[.pointer (some ⟨M,0,none⟩),.pointer (some ⟨K,0,none⟩),.agg #[.int .i64 code,.int .i64 number,.string name]] w (mT K x w):=by
 have _u:=And.intro W (And.intro T V);clear _u;have a2:=zQ R.block;have o:=(zI w.heap.size w).alloc (zB _) (.cells #[.int .i64 code,.int .i64 number,.string name] 236);have bO:=zN w (.cells #[.int .i64 code,.int .i64 number,.string name] 236);have k:=R.zP o;have F:Below K w (w.alloc (.cells #[.int .i64 code,.int .i64 number,.string name] 236)):=o.mono (by omega);have I:Below w0.heap.size w0 (w.alloc (.cells #[.int .i64 code,.int .i64 number,.string name] 236)):=O.trans (o.mono O.size);clear R o;have HX:=zD hx;clear hx;have b1:(code==1)=false:=by rw[zV];exact h1
 have b2:(code==2)=false:=by rw[zV];exact h2
 have b3:(code==3)=false:=by rw[zV];exact h3
 have b4:(code==4)=false:=by rw[zV];exact h4
 clear h1 h2 h3 h4;go_enter func207,ntmps207;go_wp2_with fail;refine(aM k (by first | omega | (simp <;> omega))).mono ?_;rintro e w2 ⟨rfl,⟨a5,j⟩,i⟩;have A:=i.below k;have y:=F.trans A;have H:=I.trans (A.mono (B':=w0.heap.size) V);have L:w2.heap[w.heap.size]?=some (.cells #[.int .i64 code,.int .i64 number,.string name] 236 (0,0)):=i.other k bO (by decide) (by decide);have a6:st.dropLast.length<=1000:=by simp;omega
 clear k F I A bO;generalize st.getLastD 0=rx at *;generalize st.dropLast=st2 at *;go_wp2_with fail;refine(aM j (by first | omega | (simp <;> omega))).mono ?_;rintro e w3 ⟨rfl,⟨a4,f⟩,h⟩;have z:=h.below j;have d:=y.trans z;have U:=H.trans (z.mono (B':=w0.heap.size) V);have J:w3.heap[w.heap.size]?=some (.cells #[.int .i64 code,.int .i64 number,.string name] 236 (0,0)):=h.other j L (by decide) (by decide);have k0:=zC J 0 (by simp);simp at k0;have a0:st2.dropLast.length<=1000:=by simp;omega
 clear j y H z L J i h U;generalize st2.getLastD 0=lx at *;generalize st2.dropLast=st3 at *;go_wp2_with fail;refine(rA code lx rx).mono ?_;rintro e w4 ⟨rfl,rfl⟩;generalize (Rt.xF code lx rx).1=cv at *;generalize (Rt.xF code lx rx).2=ct at *;by_cases hct:ct=0
 ·subst hct;have Z:=zD (show x=(st3++[cv],0) by rw[HX.u,zE rfl]);go_wp2_with fail;refine(KN cv f (by omega)).mono ?_;rintro e w9 ⟨rfl,⟨a3,D⟩,G⟩;have N:=qG D (d.trans (G.below f));clear f D G d O W T;go_wp2;go_ret;rw[Z.u];exact⟨rfl,⟨_,N.u.1⟩,N.u.2⟩
 ·have Z:=zD (show x=(st3,ct) by rw[HX.u,zA hct]);have bc:(ct==0)=false:=by rw[zV];exact hct
  have N:=qG f d;clear f d O W T hct;go_wp2;go_ret;rw[Z.u];exact⟨rfl,⟨_,N.u.1⟩,N.u.2⟩
end
end Go.Proofs.YthleadfkfnnadaaGreat
