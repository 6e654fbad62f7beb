/- What a session has printed. -/
import Derived.Test.YthleadfkfnnadaaGreatSeB
set_option maxHeartbeats 4000000
set_option maxRecDepth 100000
set_option linter.unusedSimpArgs false
namespace Go.Proofs.YthleadfkfnnadaaGreat
open Rt Go.Proofs.Tryz
open Go.RowKit
attribute [local go_sem ↓] Go.wp_at_zero Go.wp_at_succ
variable {cap:Int} {X:ZK} {P k B:Nat} {s:Se} {S:Rt.Src} {jv:Value} {w:World}
namespace Rt
def uQ (S:Src):Se:=⟨firstM S,[],0,0,List.replicate 101 false⟩
end Rt
def Gw (S:Rt.Src) (cap:Int) (w:World) (e:Ending) (w':World):Prop:=
 Below w.heap.size w w'/\∃P B X,e=.returned (.tuple #[.pointer (some ⟨P,0,none⟩),.int .i64 0,.int .i64 0])/\w.heap.size<=P/\(∀k∈Z4 X,w.heap.size<=k)/\Zv w' P B S cap (uQ S) X (.slice none 0 0)
theorem Cq (cap:Int):Calls Tryz.prog 57 #[.int .i64 cap] w fun e w'=>e=.returned (.agg #[.int .i64 cap,.slice none 0 0,.int .i64 0])/\Below w.heap.size w w':=by
 go_enter func57,ntmps57;go_wp2_with fail;have E:=yb (zN w (.cells #[.int .i64 cap,.slice none 0 0,.int .i64 0] 101));refine zT (v:=.agg #[.int .i64 cap,.slice none 0 0,.int .i64 0]) ?_ rfl ⟨rfl,(zI _ _).alloc (zB _) _⟩;revert E;generalize w.alloc (.cells #[.int .i64 cap,.slice none 0 0,.int .i64 0] 101)=wz;intro E;simp[results,results57,go_sem,E.1,E.2.1,E.2.2]
theorem wg {v0 v1 v2 v3 v4 v5 v6 v7 v8 v9 v10:Value}:(((((((((((Tryz.zeroCells105.setIfInBounds 0 v0).setIfInBounds 1 v1).setIfInBounds 2 v2).setIfInBounds 3 v3).setIfInBounds 4 v4).setIfInBounds 5 v5).setIfInBounds 6 v6).setIfInBounds 7 v7).setIfInBounds 8 v8).setIfInBounds 9 v9).setIfInBounds 10 v10)=(#[v0,v1,v2,v3,v4,v5,v6,v7]++([v8,v9,v10,.int .i64 0]++(List.replicate 101 false).map Value.bool).toArray:Array Value):=by kernel_rfl
theorem B0 (s:ByteArray) {iv:Value} {qo:List Int} (cap:Int) (zL:List Rt.PL) (hs:s.size<=maxLen) (hi:kA w iv qo) (hR:Rt.qx s=(0,0,zL)) (hl:qo.length<=100) (hc:5<=cap/\cap<=500):Calls Tryz.prog 30 #[.string s,iv,.int .i64 cap] w (Gw (Zs s zL qo) cap w):=by
 have j:=tQ hR;have HI:=zD hi;have a6:¬cap < 5:=by omega
 have a5:¬500 < cap:=by omega
 obtain⟨a3,a1,rfl,_⟩:=hi;go_enter func30,ntmps30;go_wp2_with fail;refine(nC s hs HI.u (fun p hp=>by rw[hR]at hp;injection hp with _ hp;injection hp with _ hp;rw[<-hp];exact j)).mono ?_;rintro e w1 ⟨f,hcase⟩;rcases hcase with⟨hlt,_⟩| ⟨_,er,ln,a0,i,hcc⟩
 ·exact absurd hlt (by omega)
 rw[hR]at i;injection i with e1 i;injection i with e2 e3;subst e1 e2 e3;rcases hcc with⟨h0,_⟩| ⟨_,_,hlen,M0,X,rfl,hM0,hblk,hmc⟩
 ·exact absurd rfl h0
 obtain⟨H,G,J,I,M,L,A,z,F,D,q1,Z,W,V,U⟩:=hmc.shape;generalize h:Rt.firstM (Zs s zL qo)=m0 at *;have d:xC X m0 []=#[.slice H zL.length G,.slice J qo.length I,.slice M m0.zH.length L,.slice A m0.values.length z,.int .i64 m0.taken,.slice F m0.output.length D,.int .i64 m0.line,.int .i64 m0.fin]:=by
  simp only[xC,q1,Z,W,V,U,Zs,qR];rfl
 rw[d];have HX:=DA f hblk hmc d h;clear f hblk hmc d h q1 Z W V U hR j;go_wp2_with fail;have y:=(zI w1.heap.size w1).alloc (zB _) (.cells #[.slice H zL.length G,.slice J qo.length I,.slice M m0.zH.length L,.slice A m0.values.length z,.int .i64 m0.taken,.slice F m0.output.length D,.int .i64 m0.line,.int .i64 m0.fin] 90);refine(Cq cap).mono ?_;rintro e w2 ⟨rfl,k⟩;have T:=zU (zN w1 (.cells #[.slice H zL.length G,.slice J qo.length I,.slice M m0.zH.length L,.slice A m0.values.length z,.int .i64 m0.taken,.slice F m0.output.length D,.int .i64 m0.line,.int .i64 m0.fin] 90)) k;obtain⟨y0,y1,y2,y3,y4,y5,y6,y7⟩:=xH T;have a2:=zQ T;have a4:¬w1.heap.size=w2.heap.size:=by omega
 have o:=zD (y.trans (k.mono (B':=w1.heap.size) (by simp)));clear y k T;go_wp2_with fail;have O:(((((((((((Tryz.zeroCells105.setIfInBounds 0 (.slice H zL.length G)).setIfInBounds 1 (.slice J qo.length I)).setIfInBounds 2 (.slice M m0.zH.length L)).setIfInBounds 3 (.slice A m0.values.length z)).setIfInBounds 4 (.int .i64 m0.taken)).setIfInBounds 5 (.slice F m0.output.length D)).setIfInBounds 6 (.int .i64 m0.line)).setIfInBounds 7 (.int .i64 m0.fin)).setIfInBounds 8 (.int .i64 cap)).setIfInBounds 9 (.slice none 0 0)).setIfInBounds 10 (.int .i64 0))=xC X m0 (vF cap (.slice none 0 0) 0 0 (List.replicate 101 false)):=by
  rw[wg];have:=HX.u.2.2.2.1;have e:(xC X m0 (vF cap (.slice none 0 0) 0 0 (List.replicate 101 false)))=xC X m0 []++(vF cap (.slice none 0 0) 0 0 (List.replicate 101 false)).toArray:=by
   unfold xC;rw[yX,List.append_toArray]
  rw[e,this];simp[vF]
 rw[O];obtain⟨f,hblk,hmc,_,h⟩:=HX.u;have R:=((zI w2.heap.size w2).alloc (zB _) (.cells #[.int .i64 cap,.slice none 0 0,.int .i64 0] 101)).alloc (by simp) (.cells (xC X m0 (vF cap (.slice none 0 0) 0 0 (List.replicate 101 false))) 105);have bS:=qD w2 (.cells #[.int .i64 cap,.slice none 0 0,.int .i64 0] 101) (.cells (xC X m0 (vF cap (.slice none 0 0) 0 0 (List.replicate 101 false))) 105);have x:=o.u.trans (R.mono (B':=w1.heap.size) o.u.size);have N:=hmc.Gg x bS (by unfold FE;decide);refine zT (v:=.tuple #[.pointer (some ⟨w2.heap.size+1,0,none⟩),.int .i64 0,.int .i64 0]) ?_ rfl ⟨f.trans (x.mono (B':=w.heap.size) f.size),_,_,X,rfl,by have:=o.u.size;have:=f.size;omega,hblk,⟨by rw[uQ,h];exact N,zW _ _ _ _⟩⟩;simp[results,results30,go_sem]
def J7 (P:Nat) (X:ZK) (jv:Value):List Nat:=P::Z4 X++jv.ownBlock.toList
theorem oZ (h:k∉J7 P X jv):k∉P::Z4 X/\jv.ownBlock≠some k:=by
 unfold J7 at h;simp only[yF,zw,zd,Qu,not_or]at h;exact⟨by simp only[zw,not_or];exact⟨h.1,h.2.1⟩,h.2.2⟩
theorem eV (h:k∈J7 P X jv):k=P\/k∈Z4 X\/jv.ownBlock=some k:=by
 unfold J7 at h;simpa only[yF,zw,zd,Qu] using h
theorem K2 (h:k=P\/k∈Z4 X\/jv.ownBlock=some k):k∈J7 P X jv:=by
 unfold J7;simpa only[yF,zw,zd,Qu] using h
section
variable {w w':World} {P B:Nat} {S:Rt.Src} {cap:Int} {s s':Se} {X X':ZK} {jv jv':Value}
theorem vX.kept (h:vX P B S cap X X' jv jv' s' w w') (f:k < w.heap.size) (d:k∉J7 P X jv):w'.heap[k]?=w.heap[k]?:=h.vz.block k f (oZ d).1 (oZ d).2
theorem vX.owns (h:vX P B S cap X X' jv jv' s' w w') (hk:k∈J7 P X' jv'):k∈J7 P X jv\/w.heap.size<=k:=by
 rcases eV hk with e | e | e
 ·exact Or.inl (K2 (Or.inl e))
 ·rcases h.grow k e with e | e
  ·exact Or.inl (K2 (Or.inr (Or.inl e)))
  ·exact Or.inr e
 ·rcases h.jg k e with e | e
  ·exact Or.inl (K2 (Or.inr (Or.inr e)))
  ·exact Or.inr e
theorem Zv.Vq (h:Zv w P B S cap s X jv) (hk:k∈J7 P X jv):k < w.heap.size:=by
 rcases eV hk with e | e | e
 ·rw[e];exact zQ h.mc.block
 ·rw[<-h.mc.xh]at e;exact h.mc.own.lt k e
 ·obtain⟨c,d⟩:=yW h.jr e;exact zQ d
end
def Vn (S:Rt.Src) (rs:Int) (k n:Nat):Array Value:=#[.int .i64 rs,.int .i64 (k:Int),.int .i64 (Rt.atM S n).fin,.int .i64 (Rt.atM S n).line,.int .i64 ((Rt.atM S n).zH.length:Int),.int .i64 (n:Int)]
structure Jx (w:World) (P B:Nat) (S:Rt.Src) (cap:Int) (n low:Nat) (mk:List Bool) (X:ZK) (jv:Value):Prop where
 Yo:Zv w P B S cap (XY S n low mk) X jv
 ok:VK S cap n low
structure Cst (S:Rt.Src) (cap:Int) (mk:List Bool):Prop where
 Gc:Be S
 lo:5<=cap
 hi:cap<=500
 Yw:mk.length=101
def MvP (P B:Nat) (S:Rt.Src) (cap:Int) (mk:List Bool) (X:ZK) (jv:Value) (n' low' k:Nat) (rs:Int) (w:World) (e:Ending) (w':World):Prop:=
 e=.returned (.tuple #[.agg (Vn S rs k n'),.int .i64 0])/\∃X' jv',vX P B S cap X X' jv jv' (XY S n' low' mk) w w'/\VK S cap n' low'
section
variable {w:World} {P B:Nat} {S:Rt.Src} {cap:Int} {n low:Nat} {mk:List Bool} {X:ZK} {jv:Value}
theorem Jx.zP {w':World} (h:Jx w P B S cap n low mk X jv) (d:Below w.heap.size w w'):Jx w' P B S cap n low mk X jv:=⟨h.Yo.zP d,h.ok⟩
theorem Jx.FU (h:Jx w P B S cap n low mk X jv):Calls Tryz.prog 59 #[.pointer (some ⟨P,0,none⟩)] w fun e w'=>e=.returned (.agg (Vn S 0 0 n))/\Below w.heap.size w w':=iw h.Yo
theorem Jx.fwd (h:Jx w P B S cap n low mk X jv) (i:Cst S cap mk) (f:Int) (d:Nat) (o:0<=f/\f<=3) (x:d<=1000) (F:n+1001<=4611686018427386000):Calls Tryz.prog 65 #[.pointer (some ⟨P,0,none⟩),.int .i64 f,.int .i64 d] w (MvP P B S cap mk X jv (Rt.fwdN S mk f d (Rt.atM S n).zH.length (d+1) n 0).1 (JI S cap ((Rt.fwdN S mk f d (Rt.atM S n).zH.length (d+1) n 0).1-n) n low) (Rt.fwdN S mk f d (Rt.atM S n).zH.length (d+1) n 0).2.1 (Rt.fwdN S mk f d (Rt.atM S n).zH.length (d+1) n 0).2.2 w):=by
 have j:0<=cap:=by have:=i.lo;omega
 obtain⟨D,A,_⟩:=mE j mk f d (Rt.atM S n).zH.length (d+1) n 0 low h.ok (by omega);refine(pe h.Yo i.Gc.Gj i.Gc.call ⟨j,i.hi⟩ (i.Gc.Gh h.ok mk i.Yw) f d o x).mono ?_;rintro e w' ⟨X',k,y,z⟩;rw[show ((XY S n low mk).m.zH.length:Int)=((Rt.atM S n).zH.length:Int)from rfl,D]at y z;exact⟨y,X',k,z,A⟩
end
theorem dd {M:Nat} {ty:TypeId} {tail:List Value} {m:Rt.Mc} (h:jz w M B ty tail S m X) (n:Int):Calls Tryz.prog 105 #[.pointer (some ⟨M,0,none⟩),.int .i64 n] w fun e w'=>e=.returned (.bool (Rt.xV S.zL (yM S.zL n)))/\Below w.heap.size w w':=by
 have f:=zD (pQ n h.prog);clear h;go_enter func105,ntmps105;go_wp2_with fail;refine f.u.mono ?_;rintro e w1 ⟨rfl,d⟩;have i:=zD d;clear d;go_wp2;go_ret;exact⟨rfl,i.u⟩
theorem ti (X:ZK) (m:Rt.Mc) (cap:Int) (jv:Value) (low d:Int) (marks:List Bool) (l:Nat) (b:Bool):(xC X m (vF cap jv low d marks)).setIfInBounds (12+l) (.bool b)=xC X m (vF cap jv low d (marks.set l b)):=by
 rw[Xs];simp[xC,vF,bk]
theorem Zv.marked (h:Zv w P B S cap s X jv) (l:Nat) (b:Bool):vX P B S cap X X jv jv { s with marks:=s.marks.set l b } w (w.setCell ⟨P,12+l,none⟩ (.bool b)):=by
 have j:KB P jv w (w.setCell ⟨P,12+l,none⟩ (.bool b)):=⟨rfl,rfl,rfl,by simp[World.setCell],fun k _ hp _=>zO _ _ _ _ hp⟩;have o:=zf h.mc.block (12+l) (.bool b);have e:(([X.lv,X.iv,X.fv,X.vv,.int .i64 s.m.taken,X.ov,.int .i64 s.m.line,.int .i64 s.m.fin]++vF cap jv s.low s.idx s.marks).toArray).setIfInBounds (12+l) (.bool b)=xC X s.m (vF cap jv s.low s.idx (s.marks.set l b)):=ti X s.m cap jv s.low s.idx s.marks l b;rw[e]at o;have f:=h.mc.ru h.jr j o;have d:jv.ownBlock≠some P:=h.jrS.ne;have i:=yP (w':=w.setCell ⟨P,12+l,none⟩ (.bool b)) h.jr (fun g hg=>zO _ _ _ _ (fun e=>d (by rw[hg,show g=P from e])));exact⟨⟨f,i⟩,⟨rfl,rfl,rfl,by simp[World.setCell],fun k _ hn _=>zO _ _ _ _ (fun e=>hn (by rw[show k=P from e];exact xB ..))⟩,vd.refl _ _,fun _ h=>Or.inl h,zQ h.mc.block⟩
theorem lV (h:Zv w P B S cap s X jv) (l:Nat) (k:l < 101) (f:Rt.xV S.zL (yM S.zL l)=false):Calls Tryz.prog 63 #[.pointer (some ⟨P,0,none⟩),.int .i64 l] w fun e w'=>e=.returned (.tuple #[.bool false,.int .i64 8])/\Below w.heap.size w w':=by
 have i:=zD (dd h.mc l);rw[f]at i;have x:¬(l:Int) < 0:=by omega
 have o:¬(101:Int)<=(l:Int):=by omega
 clear h f;go_enter func63,ntmps63;go_wp2_with fail;refine i.u.mono ?_;rintro e w1 ⟨rfl,d⟩;have j:=zD d;clear d;go_wp2_with fail;refine zT (v:=.tuple #[.bool false,.int .i64 8]) ?_ rfl ⟨rfl,j.u⟩;simp[results,results63,go_sem]
theorem Ag (h:Zv w P B S cap s X jv) (x:s.marks.length=101) (l:Nat) (z:l < 101) (o:Rt.xV S.zL (yM S.zL l)=true) (b:Bool) (k:s.marks[l]?=some b):Calls Tryz.prog 63 #[.pointer (some ⟨P,0,none⟩),.int .i64 l] w fun e w'=>e=.returned (.tuple #[.bool (!b),.int .i64 0])/\vX P B S cap X X jv jv { s with marks:=s.marks.set l (!b) } w w':=by
 have y:=zD (dd h.mc l);rw[o]at y;have I:¬(l:Int) < 0:=by omega
 have A:(0:Int)<=(l:Int):=by omega
 have H:¬(101:Int)<=(l:Int):=by omega
 have G:(l:Int) < 101:=by omega
 have j:=qG h x;clear h o x;go_enter func63,ntmps63;go_wp2_with fail;refine y.u.mono ?_;rintro e w1 ⟨rfl,f⟩;have d:=j.u.1.zP f;have D:=d.ow j.u.2 l z;have J:w1.frozen? ⟨P,12+l,none⟩=false:=zS d.mc.block _;have F:=zD (fun b=>(vX.start j.u.1 f).trans (d.marked l b));have i:s.marks[l]'(by have:=j.u.2;omega)=b:=by
  rw[zJ (by have:=j.u.2;omega)]at k;exact Option.some.inj k
 rw[i]at D;clear f d i k;go_wp2_with fail;go_region;go_wp2_with fail;refine zT (v:=.tuple #[.bool (!b),.int .i64 0]) ?_ rfl ⟨rfl,(F.u _).below (zh _)⟩;simp[results,results63,go_sem]
theorem sOutput_any (h:Zv w P B S cap s X jv) (j:s.m.output.length<=1000):Calls Tryz.prog 40 #[.pointer (some ⟨P,0,none⟩)] w fun e w'=>Below w.heap.size w w'/\∃v,e=.returned v/\w'.ownsRow w.heap.size 3 1 v s.m.output.length (xR s.m.output):=by
 go_enter func40,ntmps40;go_wp2_with fail;refine(output_any h.mc j).mono ?_;rintro e w1 ⟨d,v,rfl,f⟩;have i:=qG d f;clear d f h;go_wp2;go_ret;exact⟨i.u.1,v,rfl,i.u.2⟩
end Go.Proofs.YthleadfkfnnadaaGreat
