/- A session as a place of the one run: plain. -/
import Derived.Test.YthleadfkfnnadaaGreatMuC
set_option maxHeartbeats 4000000
set_option maxRecDepth 100000
set_option linter.unusedSimpArgs false
namespace Go.Proofs.YthleadfkfnnadaaGreat
open Rt Go.Proofs.Tryz
open Go.RowKit
variable {c:Array Value} {cap:Int} {tail:List Value} {X X':ZK} {M B P N k lo n low:Nat} {m:Rt.Mc} {s s':Se} {S:Rt.Src} {ty t:TypeId} {jv jv':Value} {w w':World}
section
attribute [local go_sem ↓] Go.wp_at_zero Go.wp_at_succ
namespace Rt
def kf (kind d0:Int) (d:Nat):Bool:=if kind=0 then true else if kind=1 then decide ((d:Int)<=d0)else if kind=2 then decide ((d:Int) < d0)else false
def Qk (s:Se):Bool:=decide (0<=s.m.line/\s.m.line < 101) && (s.marks[s.m.line.toNat]?).getD false
def jS (s:Se) (kind d0 mv:Int):Int:=if mv=0 then 0 else if kf kind d0 s.m.zH.length=true then 1 else if Qk s=true then 2 else 0
def kq (s:Se) (kind fuel d0 mv:Int):Int:=if ¬s.m.fin=0 then 3 else if jS s kind d0 mv=0/\fuel<=mv then 4 else jS s kind d0 mv
end Rt
theorem dE (h:jz w M B ty tail S m X):Calls Tryz.prog 101 #[.pointer (some ⟨M,0,none⟩)] w fun e w'=>e=.returned (.int .i64 (m.zH.length:Int))/\w'=w:=by
 have j:=h.c2;obtain⟨i,f,d⟩:=zK h.zH;rw[d]at j;clear h d;go_enter func101,ntmps101;go_wp2;go_ret;exact⟨rfl,rfl⟩
theorem lf (h:jz w M B ty tail S m X):Calls Tryz.prog 100 #[.pointer (some ⟨M,0,none⟩)] w fun e w'=>e=.returned (.int .i64 m.line)/\w'=w:=by
 have d:=h.c6;clear h;go_enter func100,ntmps100;go_wp2;go_ret;exact⟨rfl,rfl⟩
theorem rz (kind fuel:Int) (d:0<=kind/\kind<=3) (f:0<=fuel/\fuel<=1000):Calls Tryz.prog 106 #[.int .i64 kind,.int .i64 fuel] w fun e w'=>e=.returned (.int .i64 0)/\w'=w:=by
 have k:¬kind < 0:=by omega
 have j:¬3 < kind:=by omega
 have i:¬fuel < 0:=by omega
 have h:¬1000 < fuel:=by omega
 go_enter func106,ntmps106;go_wp2;go_ret;exact⟨rfl,rfl⟩
abbrev om (kind fuel d0 mv:Int):Array Value:=#[.int .i64 kind,.int .i64 fuel,.int .i64 d0,.int .i64 mv]
theorem oG (h:Zv w P B S cap s X jv) (kind f i x:Int):Calls Tryz.prog 187 #[.pointer (some ⟨P,0,none⟩),.agg (om kind f i x)] w fun e w'=>e=.returned (.bool (kf kind i s.m.zH.length))/\Below w.heap.size w w':=by
 have y:=(zI w.heap.size w).alloc (zB _) (.cells (om kind f i x) 169);have H:=zN w (.cells (om kind f i x) 169);have F:=h.zP y;have o:=zD y;clear h y;go_enter func187,ntmps187;go_wp2_with fail;refine(dE F.mc).mono ?_;rintro e w1 ⟨rfl,rfl⟩;generalize G:s.m.zH.length=d at *;have k:=zD G;clear F H G;by_cases h0:kind=0
 ·have j:=zD (show kf kind i d=true by unfold kf;rw[zE h0]);have D:(kind==0)=true:=by simpa using h0
  clear h0;go_wp2;go_ret;exact⟨by rw[k.u,j.u];rfl,o.u⟩
 ·have D:(kind==0)=false:=by simpa using h0
  by_cases h1:kind=1
  ·have j:=zD (show kf kind i d=decide ((d:Int)<=i) by unfold kf;rw[zA h0,zE h1]);have A:(kind==1)=true:=by simpa using h1
   clear h0 h1;go_wp2;go_ret;exact⟨by rw[k.u,j.u];rfl,o.u⟩
  ·have A:(kind==1)=false:=by simpa using h1
   by_cases h2:kind=2
   ·have j:=zD (show kf kind i d=decide ((d:Int) < i) by unfold kf;rw[zA h0,zA h1,zE h2]);have z:(kind==2)=true:=by simpa using h2
    clear h0 h1 h2;go_wp2;go_ret;exact⟨by rw[k.u,j.u];rfl,o.u⟩
   ·have j:=zD (show kf kind i d=false by unfold kf;rw[zA h0,zA h1,zA h2]);have z:(kind==2)=false:=by simpa using h2
    clear h0 h1 h2;go_wp2;go_ret;exact⟨by rw[k.u,j.u];rfl,o.u⟩
theorem Zv.ow (h:Zv w P B S cap s X jv) (d:s.marks.length=101) (j:Nat) (f:j < 101):w.cell? ⟨P,12+j,none⟩=some (.bool (s.marks[j]'(by omega))):=by
 have:=vj w P (12+j) _ _ _ h.mc.block;rw[this];simp only[List.getElem?_toArray];unfold vF;rw[<-yK,yU (by simp),yt,zJ (by simp;omega)];simp
theorem rL (h:Zv w P B S cap s X jv) (H:s.marks.length=101) (kind i d0 mv:Int):Calls Tryz.prog 158 #[.pointer (some ⟨P,0,none⟩),.agg (om kind i d0 mv)] w fun e w'=>e=.returned (.int .i64 (jS s kind d0 mv))/\Below w.heap.size w w':=by
 have F:=(zI w.heap.size w).alloc (zB _) (.cells (om kind i d0 mv) 169);have A:=h.zP F;have z:=zD F;clear h F;by_cases h0:mv=0
 ·have HE:=zD (show jS s kind d0 mv=0 by unfold jS;rw[zE h0]);have G:(mv==0)=true:=by simpa using h0
  clear h0;go_enter func158,ntmps158;go_wp2;go_ret;exact⟨by rw[HE.u];rfl,z.u⟩
 ·have G:(mv==0)=false:=by simpa using h0
  have HE:=zD (show jS s kind d0 mv=if kf kind d0 s.m.zH.length=true then 1 else if Qk s=true then 2 else 0 by unfold jS;rw[zA h0]);clear h0;go_enter func158,ntmps158;go_wp2_with fail;refine(oG A kind i d0 mv).mono ?_;rintro e w1 ⟨rfl,y⟩;have k:=zD (z.u.trans (y.mono z.u.size));have d:=A.zP y;clear A y z;cases hr:kf kind d0 s.m.zH.length with
  | true=>
   replace HE:=zD (HE.u.trans (zE hr))
   clear hr d;go_wp2;go_ret;exact⟨by rw[HE.u];rfl,k.u⟩
  | false=>
   replace HE:=zD (HE.u.trans (show _=if Qk s=true then (2:Int)else 0 by rw[hr];rfl))
   clear hr;go_wp2_with fail;refine(lf d.mc).mono ?_;rintro e w2 ⟨rfl,rfl⟩;by_cases hl:0<=s.m.line/\s.m.line < 101
   ·obtain⟨j,D⟩:=yr hl.1;have x:j < 101:=by omega
    have o:j < s.marks.length:=by omega
    have M:=d.ow H j x;have f:Qk s=s.marks[j]'o:=by
     unfold Qk;rw[show decide (0<=s.m.line/\s.m.line < 101)=true by simpa using hl,D];simp[o]
    replace HE:=zD (HE.u.trans (by rw[f]))
    have I:(0:Int)<=(j:Int):=by omega
    have L:(j:Int) < 101:=by omega
    rw[D];clear d hl D f;generalize s.marks[j]'o=b at *;cases b with
    | true=>
     replace HE:=zD (HE.u.trans (zE rfl))
     go_wp2;go_ret;exact⟨by rw[HE.u];rfl,k.u⟩
    | false=>
     replace HE:=zD (HE.u.trans (zA (by simp)))
     go_wp2;go_ret;exact⟨by rw[HE.u];rfl,k.u⟩
   ·have f:Qk s=false:=by
     unfold Qk;rw[show decide (0<=s.m.line/\s.m.line < 101)=false by simpa using hl];rfl
    replace HE:=zD (HE.u.trans (show _=(0:Int) by rw[f];rfl))
    clear d f;by_cases hl0:0<=s.m.line
    ·have J:¬s.m.line < 101:=fun e=>hl ⟨hl0,e⟩;clear hl;go_wp2;go_ret;exact⟨by rw[HE.u];rfl,k.u⟩
    ·clear hl;go_wp2;go_ret;exact⟨by rw[HE.u];rfl,k.u⟩
theorem J2 (h:Zv w P B S cap s X jv) (F:s.marks.length=101) (d fuel f mv:Int):Calls Tryz.prog 107 #[.pointer (some ⟨P,0,none⟩),.agg (om d fuel f mv)] w fun e w'=>e=.returned (.int .i64 (kq s d fuel f mv))/\Below w.heap.size w w':=by
 have z:=(zI w.heap.size w).alloc (zB _) (.cells (om d fuel f mv) 169);have D:=zN w (.cells (om d fuel f mv) 169);have o:=h.zP z;have x:=zD z;clear h z;go_enter func107,ntmps107;go_wp2_with fail;refine(ur o.mc).mono ?_;rintro e w1 ⟨rfl,rfl⟩;by_cases hz:s.m.fin=0
 ·have y:(s.m.fin != 0)=false:=by simpa using hz
  have HE:=zD (show kq s d fuel f mv=if jS s d f mv=0/\fuel<=mv then 4 else jS s d f mv by unfold kq;rw[zA (by simpa using hz)]);clear hz;go_wp2_with fail;refine(rL o F d fuel f mv).mono ?_;rintro e w2 ⟨rfl,i⟩;have k:=zD (x.u.trans (i.mono x.u.size));have j:=zU D i;have H:w2.cell? ⟨w.heap.size,1,none⟩=some (.int .i64 fuel):=by have:=zC j 1 (by simp);simpa using this
  have G:w2.cell? ⟨w.heap.size,3,none⟩=some (.int .i64 mv):=by have:=zC j 3 (by simp);simpa using this
  clear o i D j x;generalize jS s d f mv=a at *;by_cases ha:a=0
  ·have A:(a==0)=true:=by simpa using ha
   by_cases hf:fuel<=mv
   ·replace HE:=zD (HE.u.trans (zE ⟨ha,hf⟩))
    clear ha;go_wp2;go_ret;exact⟨by rw[HE.u];rfl,k.u⟩
   ·replace HE:=zD (HE.u.trans (zA (fun e=>hf e.2)))
    clear ha;go_wp2;go_ret;exact⟨by rw[HE.u];rfl,k.u⟩
  ·have A:(a==0)=false:=by simpa using ha
   replace HE:=zD (HE.u.trans (zA (fun e=>ha e.1)))
   clear ha;go_wp2;go_ret;exact⟨by rw[HE.u];rfl,k.u⟩
 ·have y:(s.m.fin != 0)=true:=by simpa using hz
  have HE:=zD (show kq s d fuel f mv=3 by unfold kq;rw[zE hz]);clear hz o D;go_wp2;go_ret;exact⟨by rw[HE.u];rfl,x.u⟩
theorem Zv.c11 (h:Zv w P B S cap s X jv):w.cell? ⟨P,11,none⟩=some (.int .i64 s.idx):=by
 have:=vj w P 11 _ _ _ h.mc.block;rw[this];simp[vF]
abbrev Yp (reason mv:Int) (s:Se):Array Value:=#[.int .i64 reason,.int .i64 mv,.int .i64 s.m.fin,.int .i64 s.m.line,.int .i64 (s.m.zH.length:Int),.int .i64 s.idx]
theorem YA {b:Nat} {v0 v1 v2 v3 v4 v5:Value} (h:w.heap[b]?=some (.cells #[v0,v1,v2,v3,v4,v5] t (0,0))):w.cell? ⟨b,0,none⟩=some v0/\w.cell? ⟨b,1,none⟩=some v1/\w.cell? ⟨b,2,none⟩=some v2/\w.cell? ⟨b,3,none⟩=some v3/\w.cell? ⟨b,4,none⟩=some v4/\w.cell? ⟨b,5,none⟩=some v5/\∀i,w.frozen? ⟨b,i,none⟩=false:=by
 refine⟨?_,?_,?_,?_,?_,?_,fun i=>zS h i⟩
 ·have:=zC h 0 (by simp);simpa using this
 ·have:=zC h 1 (by simp);simpa using this
 ·have:=zC h 2 (by simp);simpa using this
 ·have:=zC h 3 (by simp);simpa using this
 ·have:=zC h 4 (by simp);simpa using this
 ·have:=zC h 5 (by simp);simpa using this
theorem iw (h:Zv w P B S cap s X jv):Calls Tryz.prog 59 #[.pointer (some ⟨P,0,none⟩)] w fun e w'=>e=.returned (.agg (Yp 0 0 s))/\Below w.heap.size w w':=by
 have F:=h.c11;have j:=zQ h.mc.block;have D:¬P=w.heap.size:=by omega
 have i:¬w.heap.size=P:=by omega
 have d:=zD ((zI w.heap.size w).alloc (zB _) (.cells #[.int .i64 0,.int .i64 0,.int .i64 0,.int .i64 0,.int .i64 0,.int .i64 0] 111));have f:=zD h;clear h;go_enter func59,ntmps59;go_wp2_with fail;go_region_held3 (fun w'=>w'.cell? ⟨P,11,none⟩=some (.int .i64 s.idx)) (go_keep) (first | (go_at_call 50;refine(ur (f.u.mc.zP (d.u.drew))).mono ?_;rintro e w1 ⟨rfl,rfl⟩)| (go_at_call 100;refine(lf (f.u.mc.zP (d.u.drew))).mono ?_;rintro e w1 ⟨rfl,rfl⟩)| (go_at_call 101;refine(dE (f.u.mc.zP (d.u.drew))).mono ?_;rintro e w1 ⟨rfl,rfl⟩));go_wp2_with fail;have G:=zD (((zI w.heap.size w).alloc (zB _) (.cells (Yp 0 0 s) 111)).drew);have E:=zU (zN w (.cells (Yp 0 0 s) 111)) (zh _);refine zT (v:=.agg (Yp 0 0 s)) ?_ rfl ⟨rfl,G.u⟩;revert E;generalize (w.alloc (.cells (Yp 0 0 s) 111)).drew=wz;intro E;obtain⟨A,z,y,x,o,k,_⟩:=YA E;simp[results,results59,go_sem,A,z,y,x,o,k]
theorem wj (h:Zv w P B S cap s X jv) (i j D f d:Int):Calls Tryz.prog 109 #[.pointer (some ⟨P,0,none⟩),.agg (om i j D f),.int .i64 d] w fun e w'=>e=.returned (.agg (Yp d f s))/\Below w.heap.size w w':=by
 have HH:=zD h;have I:=zQ h.mc.block;clear h;go_enter func109,ntmps109;go_wp2_with fail;have x:=((zI w.heap.size w).alloc (zB _) (.cells (om i j D f) 169)).alloc (by simp) (.cells #[.int .i64 0,.int .i64 0,.int .i64 0,.int .i64 0,.int .i64 0,.int .i64 0] 111);have L:=yR (zN w (.cells (om i j D f) 169)) (.cells #[.int .i64 0,.int .i64 0,.int .i64 0,.int .i64 0,.int .i64 0,.int .i64 0] 111);have J:=qD w (.cells (om i j D f) 169) (.cells #[.int .i64 0,.int .i64 0,.int .i64 0,.int .i64 0,.int .i64 0,.int .i64 0] 111);refine(iw (HH.u.zP x)).mono ?_;rintro e w1 ⟨rfl,k⟩;have A:=zU L k;have o:=zU J k;have F:=zD (x.trans (k.mono (B':=w.heap.size) (by simp;omega)));have m3:w1.cell? ⟨w.heap.size,3,none⟩=some (.int .i64 f):=by have:=zC A 3 (by simp);simpa using this
 obtain⟨y0,y1,y2,y3,y4,y5,z⟩:=YA o;have H:=zQ o;have G:=zQ A;have a3:¬w.heap.size=w1.heap.size:=by omega
 have a2:¬w.heap.size+1=w1.heap.size:=by omega
 have a1:¬w1.heap.size=w.heap.size:=by omega
 have a0:¬w1.heap.size=w.heap.size+1:=by omega
 have HZ:=zD o;clear x L J k A o;go_wp2_with fail;have y:=YI F.u (N:=w.heap.size+1) (by omega) (.int .i64 d) (.int .i64 f) (.int .i64 s.m.fin) (.int .i64 s.m.line) (.int .i64 (s.m.zH.length:Int)) (.int .i64 s.idx);have M:(W6 w1 (w.heap.size+1) (.int .i64 d) (.int .i64 f) (.int .i64 s.m.fin) (.int .i64 s.m.line) (.int .i64 (s.m.zH.length:Int)) (.int .i64 s.idx)).heap[w.heap.size+1]?=some (.cells (Yp d f s) 111 (0,0)):=by
  have:=zf (zf (zf (zf (zf (zf HZ.u 0 (.int .i64 d)) 1 (.int .i64 f)) 2 (.int .i64 s.m.fin)) 3 (.int .i64 s.m.line)) 4 (.int .i64 (s.m.zH.length:Int))) 5 (.int .i64 s.idx);simpa using this
 have O:=zD (y.trans (((zI _ (W6 w1 (w.heap.size+1) (.int .i64 d) (.int .i64 f) (.int .i64 s.m.fin) (.int .i64 s.m.line) (.int .i64 (s.m.zH.length:Int)) (.int .i64 s.idx))).alloc (zB _) (.cells (Yp d f s) 111)).mono (B':=w.heap.size) y.size));have E:=yR M (.cells (Yp d f s) 111);clear y M;refine zT (v:=.agg (Yp d f s)) ?_ rfl ⟨rfl,O.u⟩;clear O;revert E;generalize (W6 w1 (w.heap.size+1) (.int .i64 d) (.int .i64 f) (.int .i64 s.m.fin) (.int .i64 s.m.line) (.int .i64 (s.m.zH.length:Int)) (.int .i64 s.idx)).alloc (.cells (Yp d f s) 111)=wz;intro E;obtain⟨Z,W,V,U,T,R,_⟩:=YA E;simp[results,results109,go_sem,Z,W,V,U,T,R]
namespace Rt
def fwdRun (S:Src) (cap kind fuel d0:Int):Nat->Se->Nat->Se×Nat×Int
 | 0,s,k=>(s,k,4)
 | f+1,s,k=>if kq s kind fuel d0 k=0 then fwdRun S cap kind fuel d0 f (Vl S cap s) (k+1)else (s,k,kq s kind fuel d0 k)
theorem ue (cap:Int):∀(f:Nat) (rs:List Rec) (low:Int),rs.length<=f->0<=cap->((jnL cap f rs low).1.length:Int)<=cap
 | 0,rs,low,h,hc=>by
  have:rs.length=0:=by omega
  rw[jnL];show (rs.length:Int)<=cap;omega
 | f+1,rs,low,h,hc=>by
  rw[jnL];split
  ·next hh=>
   have:=Zm hh.2;exact ue cap f _ _ (by rw[xp];omega) hc
  ·next hh=>
   show (rs.length:Int)<=cap;omega
theorem As (cap:Int) {rs:List Rec} {low:Int} (d:0<=cap):((QR cap rs low).1.length:Int)<=cap:=ue cap rs.length rs low (zB _) d
theorem Xo {s:Se} {kind fuel d0 mv:Int} (h:kq s kind fuel d0 mv=0):s.m.fin=0/\mv < fuel:=by
 unfold kq at h;split at h
 ·omega
 ·next hz=>
  split at h
  ·omega
  ·next hn=>exact⟨Yg.mp hz,by omega⟩
end Rt
structure rT (S:Rt.Src) (cap:Int) (s:Se):Prop where
 g:XW S s.m
 p:iK s.m
 r:(s.YU.length:Int)<=cap
 ms:s.marks.length=101
theorem oA (f:Good S) (i:iN S) (d:0<=cap) (h:rT S cap s):rT S cap (Vl S cap s):=
 ⟨fK f h.g,(Kw i h.p).1,As cap d,h.ms⟩
def FwdP (P B:Nat) (S:Rt.Src) (cap:Int) (X:ZK) (jv:Value) (r:Se×Nat×Int) (w:World) (e:Ending) (w':World):Prop:=
 ∃X' jv',e=.returned (.tuple #[.agg (Yp r.2.2 r.2.1 r.1),.int .i64 0])/\vX P B S cap X X' jv jv' r.1 w w'
def bg (t:TypeId):Prop:=¬Xe t/\t≠3/\t≠153/\t≠24/\t≠162
theorem vX.keeps (k:Zv w P B S cap s X jv) (h:vX P B S cap X X' jv jv' s' w w') (i:w.heap[N]?=some (.cells c t (0,0))) (j:N≠P) (f:bg t):w'.heap[N]?=some (.cells c t (0,0)):=by
 refine(h.vz.block N (zQ i) (fun hk=>?_) (fun e=>?_)).trans i
 ·rcases zw.mp hk with hk | hk
  ·exact j hk
  ·rw[<-k.mc.xh]at hk;exact QF k.mc.own i ⟨f.2.1,f.2.2.1,f.2.2.2.1⟩ hk
 ·obtain⟨o,d⟩:=yW k.jr e;rw[i]at d;injection d with d;injection d with _ d;exact f.2.2.2.2 d
theorem Zv.other (h:Zv w P B S cap s X jv) (z:w.heap[N]?=some (.cells c t (0,0))) (hne:N≠P) (j:bg t) (i:Nat) (v:Value):Zv (w.setCell ⟨N,i,none⟩ v) P B S cap s X jv:=by
 have hot:∀k,k≠N->(w.setCell ⟨N,i,none⟩ v).heap[k]?=w.heap[k]?:=fun k hk=>zO w ⟨N,i,none⟩ v k hk;refine⟨h.mc.next (by rw[hot P (xK hne)];exact h.mc.block) (by simp[World.setCell]) ?_ ⟨fun r hr=>yP (h.mc.own.rows r hr) (fun g hg=>hot g (fun e=>?_)),h.mc.own.apart⟩ rfl rfl h.mc.fl h.mc.vl,yP h.jr (fun g hg=>hot g (fun e=>?_))⟩
 ·intro k x f _ o;rw[hot k (fun e=>by
   rw[e,z]at f;injection f with f;obtain⟨A,D,y,o⟩:=o;rw[<-f]at y;injection y with _ y;rw[<-y]at o;exact j.1 o)]
  exact f
 ·obtain⟨A,d⟩:=yW (h.mc.own.rows r hr) hg;rw[e,z]at d;injection d with d;injection d with _ d;have h3:=JF hr;rw[<-d]at h3;rcases h3 with e | e | e
  ·exact j.2.1 e
  ·exact j.2.2.1 e
  ·exact j.2.2.2.1 e
 ·obtain⟨A,d⟩:=yW h.jr hg;rw[e,z]at d;injection d with d;injection d with _ d;exact j.2.2.2.2 d
theorem vX.other {w w':World} {P B:Nat} {S:Rt.Src} {cap:Int} {s':Se} {X X':ZK} {jv jv':Value} (h:vX P B S cap X X' jv jv' s' w w') {N:Nat} {c:Array Value} {t:TypeId} (j:w'.heap[N]?=some (.cells c t (0,0))) (f:w.heap.size<=N) (d:bg t) (i:Nat) (v:Value):vX P B S cap X X' jv jv' s' w (w'.setCell ⟨N,i,none⟩ v):=
 ⟨h.Yo.other j (by have:=h.lt;omega) d i v,⟨h.vz.os,h.vz.tape,h.vz.output,zi h.vz.size (by simp[World.setCell]),fun k hk hn hv=>by rw[zO w' ⟨N,i,none⟩ v k (by show k≠N;omega)];exact h.vz.block k hk hn hv⟩,h.grow,h.jg,h.lt⟩
theorem vX.YD (h:vX P B S cap X X' jv jv' s' w w') {cs:Array Value} (o:w'.heap[N]?=some (.cells cs t (0,0))) (d:w.heap.size<=N) (f:bg t) (a b c x y q:Value):vX P B S cap X X' jv jv' s' w (W6 w' N a b c x y q):=by
 have k:=zf o 0 a;have n2:=zf k 1 b;have j:=zf n2 2 c;have i:=zf j 3 x;have z:=zf i 4 y;exact(((((h.other o d f 0 a).other k d f 1 b).other n2 d f 2 c).other j d f 3 x).other i d f 4 y).other z d f 5 q
theorem vX.below {w1 w2:World} (h:vX P B S cap X X' jv jv' s' w w1) (d:Below w1.heap.size w1 w2):vX P B S cap X X' jv jv' s' w w2:=h.trans (vX.start h.Yo d)
def so (w:World) (N:Nat):Nat:=match w.cell? ⟨N,3,none⟩with
 | some (.int _ k)=>k.toNat
 | _=>0
theorem pe (h:Zv w P B S cap s X jv) (V:Good S) (W:iN S) (hc:0<=cap/\cap<=500) (hk:rT S cap s) (kind:Int) (fuel:Nat) (a3:0<=kind/\kind<=3) (a9:fuel<=1000):Calls Tryz.prog 65 #[.pointer (some ⟨P,0,none⟩),.int .i64 kind,.int .i64 fuel] w (FwdP P B S cap X jv (Rt.fwdRun S cap kind fuel s.m.zH.length (fuel+1) s 0) w):=by
 have a5:=zQ h.mc.block;have HH:=gN h V W hk;clear h V W hk;go_enter func65,ntmps65;go_wp2_with fail;refine(rz kind fuel a3 (by omega)).mono ?_;rintro e w0 ⟨rfl,rfl⟩;go_wp2_with fail;have M:=(zI w.heap.size w).alloc (zB _) (.cells #[.int .i64 0,.int .i64 0,.int .i64 0,.int .i64 0,.int .i64 0,.int .i64 0] 111);refine(dE (HH.u.1.mc.zP M)).mono ?_;rintro e w0 ⟨rfl,rfl⟩;generalize hd:(s.m.zH.length:Int)=d at *;have HD:=zD hd;clear hd;go_wp2_with fail;have N:=M.alloc (by simp) (.cells (om kind fuel d 0) 169);have D:=yR (zN w (.cells #[.int .i64 0,.int .i64 0,.int .i64 0,.int .i64 0,.int .i64 0,.int .i64 0] 111)) (.cells (om kind fuel d 0) 169);have j:=qD w (.cells #[.int .i64 0,.int .i64 0,.int .i64 0,.int .i64 0,.int .i64 0,.int .i64 0] 111) (.cells (om kind fuel d 0) 169);refine(J2 (HH.u.1.zP N) HH.u.2.2.2.ms kind fuel d 0).mono ?_;rintro e w1 ⟨rfl,I⟩;have HA:=XX (vX.start HH.u.1 (N.trans (I.mono (B':=w.heap.size) (by simp;omega)))) (zU D I) (zU j I);clear M N D j I;go_wp2_with fail;go_loopw [10] (fun rv wr=>∃(k:Nat) (s':Se) (X':ZK) (jv':Value),k<=fuel/\rv=.int .i64 (kq s' kind fuel d k)/\wr.heap[w.heap.size]?=some (.cells #[.int .i64 0,.int .i64 0,.int .i64 0,.int .i64 0,.int .i64 0,.int .i64 0] 111 (0,0))/\wr.heap[w.heap.size+1]?=some (.cells (om kind fuel d k) 169 (0,0))/\vX P B S cap X X' jv jv' s' w wr/\rT S cap s'/\Rt.fwdRun S cap kind fuel d (fuel+1-k) s' k=Rt.fwdRun S cap kind fuel d (fuel+1) s 0) (fun _ wr=>fuel+1-so wr (w.heap.size+1))
 case atStart=>exact⟨0,s,X,jv,zo _,rfl,HA.u.2.1,HA.u.2.2,HA.u.1,HH.u.2.2.2,rfl⟩
 case round=>
  obtain⟨k,s',X',jv',hk,rfl,D,j,A,f,i⟩:=hrel;have m3:wr.cell? ⟨w.heap.size+1,3,none⟩=some (.int .i64 (k:Int)):=by have:=zC j 3 (by simp);simpa using this
  have f3:=zS j 3;have HM:=zD (show so wr (w.heap.size+1)=k by unfold so;rw[m3];simp);have HX:=DA D j A f i;have b0:=zQ D;have b1:=zQ j;clear D j A f i HA;by_cases hz:kq s' kind fuel d k=0
  ·have a1:(kq s' kind fuel d k==0)=true:=by simpa using hz
   obtain⟨U,a8⟩:=Xo hz;have HN:=zD (show Rt.fwdRun S cap kind fuel d (fuel+1-(k+1)) (Vl S cap s') (k+1)=Rt.fwdRun S cap kind fuel d (fuel+1) s 0 by
    rw[<-HX.u.2.2.2.2,show fuel+1-k=(fuel+1-(k+1))+1 by omega,Rt.fwdRun,zE hz])
   clear hz;go_wp2_with fail;obtain⟨D,j,A,f,i⟩:=HX.u;obtain⟨_,V,W,_⟩:=HH.u;refine(nF A.Yo V f.g W f.p U (by have:=f.r;omega)).mono ?_;rintro e w2 ⟨rfl,X2,jv2,J⟩;have Z:=vX.keeps A.Yo J D (by omega) (by unfold bg Xe;decide);have o:=vX.keeps A.Yo J j (by omega) (by unfold bg Xe;decide);have G:=(A.trans J).other o (by omega) (by unfold bg Xe;decide) 3 (.int .i64 ((k:Int)+1));have a0:(w2.setCell ⟨w.heap.size+1,3,none⟩ (.int .i64 ((k:Int)+1))).heap[w.heap.size+1]?=some (.cells (om kind fuel d ((k:Int)+1)) 169 (0,0)):=by
    have:=zf o 3 (.int .i64 ((k:Int)+1));simpa using this
   have F:(w2.setCell ⟨w.heap.size+1,3,none⟩ (.int .i64 ((k:Int)+1))).heap[w.heap.size]?=some (.cells #[.int .i64 0,.int .i64 0,.int .i64 0,.int .i64 0,.int .i64 0,.int .i64 0] 111 (0,0)):=(zO w2 ⟨w.heap.size+1,3,none⟩ _ _ (by show w.heap.size≠w.heap.size+1;omega)).trans Z;have L:=oA V W hc.1 f;have HY:=gN G a0 F L;have n0:w2.cell? ⟨w.heap.size+1,0,none⟩=some (.int .i64 kind):=by have:=zC o 0 (by simp);simpa using this
   have n1:w2.cell? ⟨w.heap.size+1,1,none⟩=some (.int .i64 (fuel:Int)):=by have:=zC o 1 (by simp);simpa using this
   have n2:w2.cell? ⟨w.heap.size+1,2,none⟩=some (.int .i64 d):=by have:=zC o 2 (by simp);simpa using this
   have n3:w2.cell? ⟨w.heap.size+1,3,none⟩=some (.int .i64 (k:Int)):=by have:=zC o 3 (by simp);simpa using this
   have g3:=zS o 3;have a7:wrap64 ((k:Int)+1)=(k:Int)+1:=yC _ (by omega);have a6:IntKind.i64.wrap ((k:Int)+1)=(k:Int)+1:=by rw[yv,yC _ (by omega)]
   clear D j A f i J Z o G a0 F L m3 f3;go_wp2_with fail;refine(J2 HY.u.1.Yo HY.u.2.2.2.ms kind fuel d ((k:Int)+1)).mono ?_;rintro e w4 ⟨rfl,H⟩;have R:=zU HY.u.2.1 H;have T:w4.cell? ⟨w.heap.size+1,3,none⟩=some (.int .i64 ((k:Int)+1)):=by have:=zC R 3 (by simp);simpa using this
   have a4:=zD (show so w4 (w.heap.size+1)=k+1 by unfold so;rw[T];show ((k:Int)+1).toNat=k+1;omega);have HZ:=XX (HY.u.1.below H) R (zU HY.u.2.2.1 H);clear H R T n0 n1 n2 n3 g3;go_wp2_with fail;go_roundw
   case rel=>exact⟨k+1,_,X2,jv2,by omega,rfl,HZ.u.2.2,HZ.u.2.1,HZ.u.1,HY.u.2.2.2,HN.u⟩
   case measure=>
    show fuel+1-so w4 (w.heap.size+1) < fuel+1-so wr (w.heap.size+1);rw[HM.u,a4.u];omega
  ·have a1:(kq s' kind fuel d k==0)=false:=by simpa using hz
   have HE:=zD (show Rt.fwdRun S cap kind fuel d (fuel+1) s 0=(s',k,kq s' kind fuel d k) by
    rw[<-HX.u.2.2.2.2,show fuel+1-k=(fuel-k)+1 by omega,Rt.fwdRun,zA hz])
   clear hz;obtain⟨D,j,A,f,i⟩:=HX.u;have n0:wr.cell? ⟨w.heap.size+1,0,none⟩=some (.int .i64 kind):=by have:=zC j 0 (by simp);simpa using this
   have n1:wr.cell? ⟨w.heap.size+1,1,none⟩=some (.int .i64 (fuel:Int)):=by have:=zC j 1 (by simp);simpa using this
   have n2:wr.cell? ⟨w.heap.size+1,2,none⟩=some (.int .i64 d):=by have:=zC j 2 (by simp);simpa using this
   clear D j A f i;generalize a2:kq s' kind fuel d k=rs at *;clear a2;go_wp2_with fail;obtain⟨D,j,A,_,_⟩:=HX.u;refine(wj A.Yo kind fuel d k rs).mono ?_;rintro e w3 ⟨rfl,O⟩;have F:=zU D O;have G:=A.below O;obtain⟨y0,y1,y2,y3,y4,y5,z⟩:=YA F;have HF:=zD (fun a b c x y q=>vX.YD G F (zB _) (by unfold bg Xe;decide) a b c x y q);clear D j A O F G n0 n1 n2 m3;go_wp2_with fail;refine zT (v:=.tuple #[.agg (Yp rs k s'),.int .i64 0]) ?_ rfl ⟨_,_,by rw[HE.u],by rw[HE.u];exact HF.u _ _ _ _ _ _⟩;simp[results,results65,go_sem,y0,y1,y2,y3,y4,y5]
end
namespace Rt
def atM (S:Src):Nat->Mc
 | 0=>firstM S
 | n+1=>(qd S (atM S n)).1
def ku (S:Src) (i:Nat):List Rec:=(qd S (atM S i)).2
def xT (S:Src) (lo:Nat):Nat->List Rec
 | 0=>[]
 | k+1=>xT S lo k++ku S (lo+k)
theorem YT (S:Src) (d:Nat):∀k,xT S d (k+1)=ku S d++xT S (d+1) k
 | 0=>by simp[xT]
 | k+1=>by
  rw[xT,YT S d k,xT,yK,show d+(k+1)=d+1+k by omega]
def XS (l:List Rec):Prop:=∃r t,l=r::t/\jt r=true/\∀x∈t,jt x=false
theorem mx (S:Src) (m:Mc) {f:qS}:(perform S m f).fin=0->XS (perform S m f).YU:=by
 have h:jt (stay m.line)=true:=rfl;have i:XS [stay m.line]:=⟨_,_,rfl,h,by simp⟩;have d:∀r:Rec,jt r=false->XS [stay m.line,r]:=fun r hr=>⟨_,_,rfl,h,by simpa using hr⟩;unfold perform;simp only
 repeat' split
 all_goals first
  | (intro _;exact d _ rfl)
  | (intro _;exact i)
  | (intro j;exact absurd j (by assumption))
  | (intro j;simp[ended]at j;done)
  | skip
 ·intro _;exact⟨_,_,rfl,h,by simp[jt,stored]⟩
 ·intro _;exact⟨_,_,rfl,rfl,by simp⟩
 ·intro _;refine⟨_,_,rfl,rfl,?_⟩;intro x k;obtain⟨v,_,rfl⟩:=xr.mp k;rfl
theorem wQ (S:Src) {m:Mc} (h:m.fin=0):XS (qd S m).2:=by
 unfold qd;rw[zE h];simp only;split
 ·next hz=>exact mx S m hz
 ·exact⟨_,_,rfl,rfl,by simp⟩
theorem dU:∀(t l:List Rec),(∀x∈t,jt x=false)->(l=[]\/∃r u,l=r::u/\jt r=true)->restLen (t++l)=t.length
 | [],l,_,hl=>by
  rcases hl with rfl | ⟨r,u,rfl,hr⟩
  ·rfl
  ·show restLen (r::u)=0;rw[restLen,zE hr]
 | x::t,l,ht,hl=>by
  show restLen (x::(t++l))=_;rw[restLen,zA (by rw[ht x (xB ..)];simp),dU t l (fun y hy=>ht y (zm _ hy)) hl];rfl
theorem im {a l:List Rec} (h:XS a) (f:l=[]\/∃r u,l=r::u/\jt r=true):qV (a++l)=a.length:=by
 obtain⟨r,t,rfl,_,d⟩:=h;show restLen (t++l)+1=t.length+1;rw[dU t l d f]
theorem Hj (l:List Rec) (r:Rec) (t:List Rec) (i:jt r=true) (f:∀x∈t,jt x=false):∀j,j<=t.length->lastFrom (l++r::t) (l.length+j)=l.length
 | 0,_=>by
  cases h:l.length with
  | zero=>rfl
  | succ n=>
   show lastFrom (l++r::t) (n+1)=n+1;have d:(l++r::t)[n+1]?=some r:=by rw[yU (by omega),h];simp
   rw[lastFrom,d];simp[i]
 | j+1,hj=>by
  show lastFrom (l++r::t) ((l.length+j)+1)=_;have d:(l++r::t)[(l.length+j)+1]?=some t[j]:=by
   rw[yU (by omega),show l.length+j+1-l.length=j+1 by omega,List.getElem?_cons_succ,zJ (by omega)]
  rw[lastFrom,d];simp only[f _ (zj _),YL,Hm];exact Hj l r t i f j (by omega)
theorem lastAt_step {l a:List Rec} (h:XS a):G5 (l++a)=l.length:=by
 obtain⟨r,t,rfl,f,d⟩:=h;unfold G5;have:=Hj l r t f d t.length (zB _);rw[<-this];simp
def lowR (S:Src) (cap:Int):Nat->Nat->Nat
 | 0,lo=>lo
 | k+1,lo=>if cap < (xT S lo (k+1)).length then lowR S cap k (lo+1)else lo
theorem Ed (S:Src) (cap:Int):∀k lo,lo<=lowR S cap k lo
 | 0,_=>zB _
 | k+1,lo=>by
  have:=Ed S cap k (lo+1);unfold lowR;split <;> omega
theorem uX (S:Src) (cap:Int):∀k lo,lowR S cap k lo<=lo+k
 | 0,_=>zB _
 | k+1,lo=>by
  have:=uX S cap k (lo+1);unfold lowR;split <;> omega
theorem pA (S:Src) (cap:Int) (d:0<=cap):∀k lo,((xT S (lowR S cap k lo) (lo+k-lowR S cap k lo)).length:Int)<=cap
 | 0,lo=>by
  unfold lowR;simp[xT,d]
 | k+1,lo=>by
  have:=pA S cap d k (lo+1);unfold lowR;split
  ·rw[show lo+(k+1)=lo+1+k by omega];exact this
  ·next h=>
   rw[show lo+(k+1)-lo=k+1 by omega];omega
theorem Cf (S:Src) (cap:Int):∀k lo,lowR S cap k lo=lo\/∃l,lowR S cap k lo=l+1/\lo<=l/\cap < (xT S l (lo+k-l)).length
 | 0,_=>Or.inl rfl
 | k+1,lo=>by
  unfold lowR;split
  ·next h=>
   rcases Cf S cap k (lo+1)with e | ⟨l,e,hl,hc⟩
   ·exact Or.inr ⟨lo,e,zB _,by rw[show lo+(k+1)-lo=k+1 by omega];exact h⟩
   ·exact Or.inr ⟨l,e,by omega,by rw[show lo+(k+1)-l=lo+1+k-l by omega];exact hc⟩
  ·exact Or.inl rfl
theorem Ah (S:Src) (cap:Int) (h:((xT S lo k).length:Int)<=cap):lowR S cap k lo=lo:=by
 cases k with
 | zero=>rfl
 | succ k=>unfold lowR;rw[zA (by omega)]
theorem oD {S:Src} (h:∀i,lo<=i->i < lo+k->XS (ku S i)):xT S lo k=[]\/∃r u,xT S lo k=r::u/\jt r=true:=by
 cases k with
 | zero=>exact Or.inl rfl
 | succ k=>
  right;rw[YT];obtain⟨r,t,e,d,_⟩:=h lo (zB _) (by omega);exact⟨r,t++xT S (lo+1) k,by rw[e];rfl,d⟩
theorem pN (S:Src) (cap:Int) (y:0<=cap):∀k lo:Nat,(∀i,lo<=i->i < lo+k->XS (ku S i))->lo+k < 4611686018427387904->QR cap (xT S lo k) lo=(xT S (lowR S cap k lo) (lo+k-lowR S cap k lo),(lowR S cap k lo:Int))
 | 0,lo,_,_=>by
  rw[Vx _ (by simp[xT])];simp[xT,lowR]
 | k+1,lo,h,hlt=>by
  by_cases hcap:cap < (xT S lo (k+1)).length
  ·have f:=h lo (zB _) (by omega);have j:0 < (xT S lo (k+1)).length:=by omega
   rw[gJ _ ⟨hcap,j⟩];have o:qV (xT S lo (k+1))=(ku S lo).length:=by
    rw[YT];exact im f (oD (fun i h1 h2=>h i (by omega) (by omega)))
   have x:(xT S lo (k+1)).drop (qV (xT S lo (k+1)))=xT S (lo+1) k:=by
    rw[o,YT,List.drop_left'];rfl
   rw[x,yC _ (by omega)];have:=pN S cap y k (lo+1) (fun i h1 h2=>h i (by omega) (by omega)) (by omega);have d:lowR S cap (k+1) lo=lowR S cap k (lo+1):=by rw[lowR,zE hcap]
   rw[d,show lo+(k+1)=lo+1+k by omega];exact this
  ·rw[Vx _ (fun h=>hcap h.1)];have d:lowR S cap (k+1) lo=lo:=by rw[lowR,zA hcap]
   rw[d,show lo+(k+1)-lo=k+1 by omega]
def XY (S:Src) (n low:Nat) (marks:List Bool):Se:=⟨atM S n,xT S low (n-low),low,n,marks⟩
structure VK (S:Src) (cap:Int) (n low:Nat):Prop where
 run:∀i,i < n->(atM S i).fin=0
 le:low<=n
 room:((xT S low (n-low)).length:Int)<=cap
def ik (S:Src) (cap:Int) (n low:Nat):Nat:=lowR S cap (n+1-low) low
theorem VK.step {S:Src} (h:VK S cap n low) (f:0<=cap) (d:(atM S n).fin=0):VK S cap (n+1) (ik S cap n low):=by
 have j:=h.le;refine⟨fun i hi=>?_,?_,?_⟩
 ·by_cases e:i=n
  ·rw[e];exact d
  ·exact h.run i (by omega)
 ·have:=uX S cap (n+1-low) low;unfold ik;omega
 ·have:=pA S cap f (n+1-low) low;unfold ik;rw[show low+(n+1-low)=n+1 by omega]at this;exact this
theorem wh {S:Src} (h:VK S cap n low) (x:0<=cap) (j:(atM S n).fin=0) (z:n < 4611686018427387000) (mk:List Bool):Vl S cap (XY S n low mk)=XY S (n+1) (ik S cap n low) mk:=by
 have A:=h.le;have f:∀i,low<=i->i < low+(n+1-low)->XS (ku S i):=fun i h1 h2=>wQ S (by
  by_cases e:i=n
  ·rw[e];exact j
  ·exact h.run i (by omega))
 have o:=pN S cap x (n+1-low) low f (by omega);have d:xT S low (n-low)++ku S n=xT S low (n+1-low):=by
  rw[show n+1-low=(n-low)+1 by omega,xT,show low+(n-low)=n by omega]
 unfold Vl XY;simp only;have y:(qd S (atM S n)).2=ku S n:=rfl;rw[y,d,o,show low+(n+1-low)=n+1 by omega];have k:wrap64 ((n:Int)+1)=((n+1:Nat):Int):=by rw[yC _ (by omega)];omega
 rw[k];rfl
def Hg (s:Se):Se:=⟨Hb s.m (s.YU.drop (G5 s.YU)),s.YU.take (G5 s.YU),s.low,wrap64 (s.idx-1),s.marks⟩
theorem VK.back {S:Src} (h:VK S cap (n+1) low) (d:low<=n):VK S cap n low:=by
 refine⟨fun i hi=>h.run i (by omega),d,?_⟩;have:=h.room;rw[show n+1-low=(n-low)+1 by omega,xT,ze]at this;omega
theorem seBack_at {S:Src} (h:VK S cap (n+1) low) (z:low<=n) (o:S.input.length<=100) (y:n < 4611686018427387000) (mk:List Bool):Hg (XY S (n+1) low mk)=XY S n low mk:=by
 have k:xT S low (n+1-low)=xT S low (n-low)++ku S n:=by
  rw[show n+1-low=(n-low)+1 by omega,xT,show low+(n-low)=n by omega]
 have f:=h.run n (by omega);have d:G5 (xT S low (n-low)++ku S n)=(xT S low (n-low)).length:=lastAt_step (wQ S f);unfold Hg XY;simp only;rw[k,d,List.drop_left',J4]
 ·have j:=undo_step S (atM S n) f o;have x:Hb (atM S (n+1)) (ku S n)=atM S n:=j;rw[x];have i:wrap64 (((n+1:Nat):Int)-1)=(n:Int):=by rw[yC _ (by omega)];omega
  rw[i]
 ·rfl
 ·rfl
theorem last_lt {S:Src} (h:VK S cap (n+1) low) (d:low<=n):0 < (xT S low (n+1-low)).length:=by
 rw[show n+1-low=(n-low)+1 by omega,xT,show low+(n-low)=n by omega,ze];obtain⟨r,t,e,_⟩:=wQ S (h.run n (by omega));have:ku S n=r::t:=e;rw[this];simp only[yE];omega
end Rt
theorem wD {S:Rt.Src} (d:Good S) (f:XW S (Rt.firstM S)):∀n,XW S (Rt.atM S n)
 | 0=>f
 | n+1=>fK d (wD d f n)
theorem wC {S:Rt.Src} (d:iN S):∀n,iK (Rt.atM S n)
 | 0=>tS S
 | n+1=>(Kw d (wC d n)).1
end Go.Proofs.YthleadfkfnnadaaGreat
