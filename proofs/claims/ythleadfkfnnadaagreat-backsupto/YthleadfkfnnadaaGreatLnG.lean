/- The law: a pair of sessions is moved (Forward). -/
import Derived.Test.YthleadfkfnnadaaGreatCuG
set_option maxHeartbeats 4000000
set_option maxRecDepth 100000
set_option linter.unusedSimpArgs false
namespace Go.Proofs.YthleadfkfnnadaaGreat
open Rf Rt Go.Proofs.Tryz
open Go.RowKit
attribute [local go_sem ↓] Go.wp_at_zero Go.wp_at_succ
variable {xs:List Value} {X':ZK} {k n len' n' low' l:Nat} {s':Se} {t:TypeId} {jv' v:Value} {w1 w2 w:World}
structure mU where
 q:Nat
 P:Nat
 B:Nat
 X:ZK
 jv:Value
 C:Nat
 Y:iQ
 ps:List Rt.PL
 zL:List Rt.PL
 ls:List (List ByteArray)
 S:Rt.Src
 cap:Int
 len:Nat
 n:Nat
 low:Nat
 Yw:List Bool
structure vf (w:World) (s:mU):Prop where
 pair:w.heap[s.q]?=some (.cells #[.pointer (some ⟨s.P,0,none⟩),.pointer (some ⟨s.C,0,none⟩)] 65 (0,0))
 Yo:Jx w s.P s.B s.S s.cap s.n s.low s.Yw s.X s.jv
 Bb:Cst s.S s.cap s.Yw
 cur:vg w s.C s.zL s.ls s.S s.cap s.len s.n s.low (s.Yw.take (s.ls.length+1)) s.Y
 ctx:Rf.Ctx s.ps s.zL s.ls s.S
 le:s.n<=s.len
 apart:∀k∈J7 s.P s.X s.jv,k∉Dt s.zL s.S s.C s.Y
def rV (s:mU):List Nat:=s.q::(J7 s.P s.X s.jv++Dt s.zL s.S s.C s.Y)
def Dr (t:TypeId):Prop:=Xe t\/FG t\/t=65
theorem eF.CU (h:eF t):¬Dr t:=by
 rintro (e | e | e)
 ·exact h.notP e
 ·exact h.notS e
 ·rw[e]at h;exact absurd h (by unfold eF;decide)
structure YJ (s s':mU) (w w':World):Prop where
 ok:vf w' s'
 q:s'.q=s.q
 os:w'.os=w.os
 tape:w'.tape=w.tape
 output:w'.output=w.output
 size:w.heap.size<=w'.heap.size
 block:∀k,k < w.heap.size->k∉rV s->w'.heap[k]?=w.heap[k]?
 kept:∀k t,Dr t->qm w k t->w'.heap[k]?=w.heap[k]?
 own:∀k∈rV s',k∈rV s\/w.heap.size<=k
 iP:s'.len<=s.len+1000
section
variable {w w':World} {s:mU}
theorem vf.lt (h:vf w s) {k:Nat} (hk:k∈rV s):k < w.heap.size:=by
 rcases zw.mp hk with rfl | hk
 ·exact zQ h.pair
 ·rcases zd.mp hk with hk | hk
  ·exact h.Yo.Yo.Vq hk
  ·exact h.cur.lt hk
theorem vf.stay (h:vf w s) (i:w.heap.size<=w'.heap.size) (d:∀k∈rV s,w'.heap[k]?=w.heap[k]?) (f:∀k t,Dr t->qm w k t->w'.heap[k]?=w.heap[k]?):vf w' s:=
 ⟨(d _ (xB ..)).trans h.pair,h.Yo.stay i (fun k hm=>d k (zm _ (zY _ hm))) (fun k t hp=>f k t (Or.inl hp)),h.Bb,h.cur.stay (fun k hm=>d k (zm _ (zb _ hm))) (fun k t hp=>f k t (Or.inr (Or.inl hp))),h.ctx,h.le,h.apart⟩
theorem vf.zP (h:vf w s) (d:Below w.heap.size w w'):vf w' s:=h.stay d.size (fun k hk=>d.block k (h.lt hk)) (fun k _ _ hk=>d.block k hk.lt)
theorem YJ.below (h:vf w s) (d:Below w.heap.size w w'):YJ s s w w':=
 ⟨h.zP d,rfl,d.os,d.tape,d.output,d.size,fun k hk _=>d.block k hk,fun k _ _ hk=>d.block k hk.lt,fun k hk=>Or.inl hk,by omega⟩
theorem YJ.then {s2:mU} (h:YJ s s w w1) (h2:YJ s s2 w1 w2):YJ s s2 w w2:=
 ⟨h2.ok,h2.q,h2.os.trans h.os,h2.tape.trans h.tape,h2.output.trans h.output,zi h.size h2.size,fun k hk hn=>(h2.block k (zX hk h.size) hn).trans (h.block k hk hn),fun k t ht hk=>(h2.kept k t ht (by unfold qm;rw[h.kept k t ht hk];exact hk)).trans (h.kept k t ht hk),fun k hk=>by
  rcases h2.own k hk with e | e
  ·exact Or.inl e
  ·exact Or.inr (zi h.size e),h2.iP⟩
theorem CH (zL:List Rt.PL) (S:Rt.Src) (n:Nat):(ZN zL S n).line=(Rt.atM S n).line/\(ZN zL S n).fin=(Rt.atM S n).fin/\(ZN zL S n).zH.length=(Rt.atM S n).zH.length:=⟨rfl,rfl,Rf.XD _ _ _⟩
theorem dV (h:vf w s) (rs H:Int):Calls Tryz.prog 60 #[.pointer (some ⟨s.q,0,none⟩),.agg #[.int .i64 rs,.int .i64 H,.int .i64 (Rt.atM s.S s.n).fin,.int .i64 (Rt.atM s.S s.n).line,.int .i64 ((Rt.atM s.S s.n).zH.length:Int),.int .i64 (s.n:Int)],.int .i64 rs,.int .i64 H] w fun e w'=>e=.returned (.bool true)/\Below w.heap.size w w':=by
 have HH:=zD h;obtain⟨e1,e2,e3⟩:=CH s.zL s.S s.n;rw[<-e1,<-e2,<-e3];have W:w.cell? ⟨s.q,1,none⟩=some (.pointer (some ⟨s.C,0,none⟩)):=zC h.pair 1 (by simp);have c5:w.cell? ⟨s.C,5,none⟩=some (.int .i64 s.n):=zC h.cur.block 5 (by simp[Du]);have a0:=zQ h.pair;have a5:=zQ h.cur.block;clear h e1 e2 e3;have L:=(zI w.heap.size w).alloc (zB _) (.cells #[.int .i64 rs,.int .i64 H,.int .i64 (ZN s.zL s.S s.n).fin,.int .i64 (ZN s.zL s.S s.n).line,.int .i64 ((ZN s.zL s.S s.n).zH.length:Int),.int .i64 (s.n:Int)] 111);have J:=zN w (.cells #[.int .i64 rs,.int .i64 H,.int .i64 (ZN s.zL s.S s.n).fin,.int .i64 (ZN s.zL s.S s.n).line,.int .i64 ((ZN s.zL s.S s.n).zH.length:Int),.int .i64 (s.n:Int)] 111);have i:=qG L J;clear L J;go_enter func60,ntmps60;go_wp2_with fail;refine(AD (HH.u.zP i.u.1).cur HH.u.le).mono ?_;generalize w.alloc (.cells #[.int .i64 rs,.int .i64 H,.int .i64 (ZN s.zL s.S s.n).fin,.int .i64 (ZN s.zL s.S s.n).line,.int .i64 ((ZN s.zL s.S s.n).zH.length:Int),.int .i64 (s.n:Int)] 111)=wa at *;rintro e w1 ⟨j,X,_,Z,rfl⟩;obtain⟨D,A,z,y,x,k,G,F,f1,f2,f3,f4⟩:=Z.ZX;have I:jh X.fv X.vv X.cv X.ov (ZN s.zL s.S s.n)=#[.slice D (ZN s.zL s.S s.n).zH.length A,.slice z (ZN s.zL s.S s.n).vars.length y,.slice x (ZN s.zL s.S s.n).cells.length k,.int .i64 (ZN s.zL s.S s.n).read,.slice G (ZN s.zL s.S s.n).out.length F,.int .i64 (ZN s.zL s.S s.n).line,.int .i64 (ZN s.zL s.S s.n).fin]:=by rw[f1,f2,f3,f4];rfl
 rw[I];have f:Below w.heap.size w w1:=i.u.1.trans (j.mono (B':=w.heap.size) i.u.1.size);have d1:=cell_later f W;have d5:=cell_later f c5;have O:=zU i.u.2 j;obtain⟨r0,r1,V,U,T,R,_⟩:=YA O;have a4:=zQ O;have N:=f.size;have a3:¬w.heap.size=w1.heap.size:=by omega
 have a2:¬s.q=w1.heap.size:=by omega
 have a1:¬s.C=w1.heap.size:=by omega
 have HF:=zD (fun o=>f.alloc N o);clear f j O Z f1 f2 f3 f4 I W c5;generalize ZN s.zL s.S s.n=p at *;have d:=(zI w1.heap.size w1).alloc (zB _) (.cells (Ha D A z y x k G F p) 72);obtain⟨q0,_,_,_,_,q5,q6⟩:=seven (zN w1 (.cells (Ha D A z y x k G F p) 72));have d1:=cell_later d d1;have d5:=cell_later d d5;have k2:=cell_later d V;have k3:=cell_later d U;have k4:=cell_later d T;have k5:=cell_later d R;have M:=zD (HF.u (.cells (Ha D A z y x k G F p) 72));go_wp2_with fail;clear HF d;generalize w1.alloc (.cells (Ha D A z y x k G F p) 72)=wq at *;clear r0 r1 V U T R;go_quiet (fail);go_wp2;go_ret;exact⟨rfl,M.u.trans ((below_drewN wq _).mono M.u.size)⟩
theorem iu (h:vf w s):Calls Tryz.prog 32 #[.pointer (some ⟨s.q,0,none⟩)] w fun e w'=>e=.returned (.bool true)/\Below w.heap.size w w':=by
 have y:=zD h;have J:w.cell? ⟨s.q,0,none⟩=some (.pointer (some ⟨s.P,0,none⟩)):=zC h.pair 0 (by simp);clear h;go_enter func32,ntmps32;go_wp2_with fail;refine(y.u.Yo.FU).mono ?_;rintro e w1 ⟨rfl,d⟩;have z:=zD d;have k:=zN w1 (.cells (Vn s.S 0 0 s.n) 111);have f:=(zI w1.heap.size w1).alloc (zB _) (.cells (Vn s.S 0 0 s.n) 111);unfold Vn at k f;unfold Vn;obtain⟨I,H,G,F,D,A,_⟩:=YA k;have o:=zD ((y.u.zP d).zP f);have j:=zD (d.trans (f.mono (B':=w.heap.size) d.size));clear d k f;go_wp2_with fail;refine(dV o.u 0 0).mono ?_;rintro e w2 ⟨rfl,i⟩;have x:=zD (j.u.trans (i.mono (B':=w.heap.size) j.u.size));clear i;go_wp2;go_ret;exact⟨rfl,x.u⟩
theorem vf.room (h:vf w s):(xT s.S s.low (s.n-s.low)).length<=1000000/\s.low<=s.n:=by
 have f:=h.Yo.ok.room;have d:=h.Bb.hi;exact⟨by omega,h.Yo.ok.le⟩
theorem AE (h:vf w s) (i:s.len < 4611686018427387904):Calls Tryz.prog 33 #[.pointer (some ⟨s.q,0,none⟩)] w fun e w'=>e=.returned (.bool true)/\Below w.heap.size w w':=by
 have f:=zD h;have o:w.cell? ⟨s.q,0,none⟩=some (.pointer (some ⟨s.P,0,none⟩)):=zC h.pair 0 (by simp);have k:w.cell? ⟨s.q,1,none⟩=some (.pointer (some ⟨s.C,0,none⟩)):=zC h.pair 1 (by simp);clear h;go_enter func33,ntmps33;go_wp2_with fail;refine(f.u.Yo.held).mono ?_;rintro e w1 ⟨rfl,rfl⟩;go_wp2_with fail;refine(BJ f.u.cur f.u.le f.u.room.2 i f.u.room.1).mono ?_;rintro e w2 ⟨rfl,d⟩;have j:=zD d;clear d;go_wp2;go_ret;exact⟨by first | rfl | simp,j.u⟩
end
theorem qm.one {u:TypeId} (f:qm w k t) (d:qm w k u):t=u:=by
 apply Zt;intro h;exact f.ne d h rfl
section
variable {w w1 w2:World} {s:mU}
theorem vg.mty {C:Nat} {zL:List Rt.PL} {ls:List (List ByteArray)} {S:Rt.Src} {cap:Int} {len low:Nat} {mk:List Bool} {Y:iQ} (h:vg w C zL ls S cap len n low mk Y) (hk:k∈Ev C Y):∃t,qm w k t/\eF t:=by
 have d:∀{o:Option Nat} {g:Nat},g∈o.toList->o=some g:=fun hg=>by simpa using hg
 rcases zw.mp hk with rfl | hk
 ·exact⟨_,⟨_,h.block⟩,by simp[eF]⟩
 ·rcases zd.mp hk with hk | hk
  ·rcases zd.mp hk with hk | hk
   ·exact⟨_,yW h.tr (d hk),by simp[eF]⟩
   ·exact⟨_,yW h.oH (d hk),by simp[eF]⟩
  ·exact⟨_,yW h.Yw (d hk),by simp[eF]⟩
theorem vf.ua (h:vf w s) (i:vX s.P s.B s.S s.cap s.X X' s.jv jv' s' w w1) (d:Dr t) (f:qm w k t):w1.heap[k]?=w.heap[k]?:=
 i.kept f.lt (fun hm=>by
  obtain⟨u,o,j⟩:=h.Yo.mty hm;rw[f.one o]at d;exact j.CU d)
theorem vf.Eu (h:vf w s) (d:vX s.P s.B s.S s.cap s.X X' s.jv jv' s' w w1):vg w1 s.C s.zL s.ls s.S s.cap s.len s.n s.low (s.Yw.take (s.ls.length+1)) s.Y:=
 h.cur.stay (fun k hk=>d.kept (h.cur.lt hk) (fun hm=>h.apart k hm hk)) (fun _ _ ht hk=>h.ua d (Or.inr (Or.inl ht)) hk)
theorem vf.act (h:vf w s) {Y':iQ} {mk':List Bool} (hA:vX s.P s.B s.S s.cap s.X X' s.jv jv' (XY s.S n' low' mk') w w1) (x:VK s.S s.cap n' low') (hc:Cst s.S s.cap mk') (hD:Ds s.C s.zL s.ls s.S s.cap len' n' low' (mk'.take (s.ls.length+1)) s.Y Y' w1 w2) (y:n'<=len') (f:len'<=s.len+1000):YJ s { s with X:=X',jv:=jv',Y:=Y',len:=len',n:=n',low:=low',Yw:=mk' } w w2:=by
 have z:=h.Eu hA;have j:∀k t,Dr t->qm w k t->w1.heap[k]?=w.heap[k]?:=fun k t ht hk=>h.ua hA ht hk;have i:∀k t,Dr t->qm w1 k t->w2.heap[k]?=w1.heap[k]?:=fun k t ht hk=>hD.vz.block k hk.lt (fun hm=>by
  obtain⟨u,h1,F⟩:=z.mty hm;rw[hk.one h1]at ht;exact F.CU ht)
 have hk:∀k t,Dr t->qm w k t->w2.heap[k]?=w.heap[k]?:=fun k t ht hk=>(i k t ht (by unfold qm;rw[j k t ht hk];exact hk)).trans (j k t ht hk);have d:=hA.vz.size;have A:Jx w1 s.P s.B s.S s.cap n' low' mk' X' jv':=⟨hA.Yo,x⟩;have o:∀k∈J7 s.P X' jv',k∉Dt s.zL s.S s.C s.Y:=fun k hm hc=>by
  rcases hA.owns hm with h1 | h1
  ·exact h.apart k h1 hc
  ·have:=h.cur.lt hc;omega
 refine⟨⟨(hk _ _ (Or.inr (Or.inr rfl)) ⟨_,h.pair⟩).trans h.pair,A.stay hD.vz.size (fun k hm=>hD.vz.block k (hA.Yo.Vq hm) (fun hc=>o k hm (zY _ hc))) (fun k t ht hk'=>i k t (Or.inl ht) hk'),hc,hD.cur,h.ctx,y,fun k hm hc=>?_⟩,rfl,hD.vz.os.trans hA.vz.os,hD.vz.tape.trans hA.vz.tape,hD.vz.output.trans hA.vz.output,zi d hD.vz.size,fun k hk' hn=>?_,hk,fun k hm=>?_,f⟩
 ·rcases hD.own k hc with h1 | h1
  ·exact o k hm h1
  ·have:=hA.Yo.Vq hm;omega
 ·have D:k∉J7 s.P s.X s.jv:=fun hm=>hn (zm _ (zY _ hm));have n2:k∉Ev s.C s.Y:=fun hm=>hn (zm _ (zb _ (zY _ hm)));exact(hD.vz.block k (zX hk' d) n2).trans (hA.kept hk' D)
 ·rcases zw.mp hm with rfl | hm
  ·exact Or.inl (xB ..)
  ·rcases zd.mp hm with hm | hm
   ·rcases hA.owns hm with h1 | h1
    ·exact Or.inl (zm _ (zY _ h1))
    ·exact Or.inr h1
   ·rcases hD.own k hm with h1 | h1
    ·exact Or.inl (zm _ (zb _ h1))
    ·exact Or.inr (zi d h1)
theorem Af (h:vf w s) (l:Int) (x:Calls Tryz.prog 63 #[.pointer (some ⟨s.P,0,none⟩),.int .i64 l] w fun e w'=>e=.returned (.tuple #[.bool false,.int .i64 8])/\Below w.heap.size w w') (z:∀w1,vf w1 s->Calls Tryz.prog 64 #[.pointer (some ⟨s.C,0,none⟩),.int .i64 l] w1 fun e w'=>e=.returned (.tuple #[.bool false,.int .i64 8])/\Below w1.heap.size w1 w'):Calls Tryz.prog 34 #[.pointer (some ⟨s.q,0,none⟩),.int .i64 l] w fun e w'=>e=.returned (.bool true)/\YJ s s w w':=by
 have y:=zD h;have j:=zD x;have k:=zD z;have D:w.cell? ⟨s.q,0,none⟩=some (.pointer (some ⟨s.P,0,none⟩)):=zC h.pair 0 (by simp);have A:w.cell? ⟨s.q,1,none⟩=some (.pointer (some ⟨s.C,0,none⟩)):=zC h.pair 1 (by simp);clear h x z;go_enter func34,ntmps34;go_wp2_with fail;refine j.u.mono ?_;rintro e w1 ⟨rfl,d⟩;have F:=cell_later d A;have f:=zD d;clear d;go_wp2_with fail;refine(k.u w1 (y.u.zP f.u)).mono ?_;rintro e w2 ⟨rfl,i⟩;have o:=zD (f.u.trans (i.mono (B':=w.heap.size) f.u.size));clear i;go_wp2_with (go_at_call 20;refine(K3 8).mono ?_;rintro e w' ⟨rfl,rfl⟩)
 all_goals
  go_ret;exact⟨by first | rfl | simp,YJ.below y.u o.u⟩
theorem ss (h:vf w s) (l:Nat) (b:Bool) {s':mU} (x:Calls Tryz.prog 63 #[.pointer (some ⟨s.P,0,none⟩),.int .i64 ((l:Int)+1)] w fun e w'=>e=.returned (.tuple #[.bool (!b),.int .i64 0])/\vX s.P s.B s.S s.cap s.X s.X s.jv s.jv (XY s.S s.n s.low (s.Yw.set (l+1) (!b))) w w') (y:∀w1,vX s.P s.B s.S s.cap s.X s.X s.jv s.jv (XY s.S s.n s.low (s.Yw.set (l+1) (!b))) w w1->Calls Tryz.prog 64 #[.pointer (some ⟨s.C,0,none⟩),.int .i64 ((l:Int)+1)] w1 fun e w'=>e=.returned (.tuple #[.bool (!b),.int .i64 0])/\YJ s s' w w'):Calls Tryz.prog 34 #[.pointer (some ⟨s.q,0,none⟩),.int .i64 ((l:Int)+1)] w fun e w'=>e=.returned (.bool true)/\YJ s s' w w':=by
 have j:=zD h;have i:=zD x;have k:=zD y;have z:w.cell? ⟨s.q,0,none⟩=some (.pointer (some ⟨s.P,0,none⟩)):=zC h.pair 0 (by simp);clear h x y;go_enter func34,ntmps34;go_wp2_with fail;refine i.u.mono ?_;rintro e w1 ⟨rfl,f⟩;have d:=(j.u.ua f (Or.inr (Or.inr rfl)) ⟨_,j.u.pair⟩).trans j.u.pair;have F:w1.cell? ⟨s.q,1,none⟩=some (.pointer (some ⟨s.C,0,none⟩)):=zC d 1 (by simp);have D:=zD f;clear f d z;go_wp2_with fail;refine(k.u w1 D.u).mono ?_;rintro e w2 ⟨rfl,o⟩;have A:=zD o;clear o;cases b <;> go_wp2_with (go_at_call 20;refine(K3 0).mono ?_;rintro e w' ⟨rfl,rfl⟩)
 all_goals
  go_ret;exact⟨by first | rfl | simp,A.u⟩
theorem iz (h:vf w s) (d:l < s.ls.length):Rt.xV s.S.zL (yM s.S.zL ((l+1:Nat):Int))=xx s.ls l s.ls[l]:=by
 have e:yM s.S.zL ((l+1:Nat):Int)=Rt.jK (Rt.vU s.zL ((l:Int)+1)):=by
  rw[h.ctx.Ja];exact Rt.QO s.zL ((l:Int)+1)
 rw[e,h.ctx.Ja,Jo];exact uN h.ctx.both d (ee h.ctx.both d)
theorem Bs (h:vf w s) (hl:l=0\/s.ls.length < l):Rt.xV s.S.zL (yM s.S.zL (l:Int))=false:=by
 have i:=h.ctx.both.len;have e:yM s.S.zL (l:Int)=Rt.jK (Rt.vU s.zL (l:Int)):=by
  rw[h.ctx.Ja];exact Rt.QO s.zL (l:Int)
 have f:(Rt.vU s.zL (l:Int)).form=Rt.zF:=by
  unfold Rt.vU;rw[zA (by omega),xS];rcases hl with rfl | hl
  ·obtain⟨q,d,_⟩:=h.ctx.both.ex;rw[d];rfl
  ·rw[xt (by omega)];rfl
 rw[e,h.ctx.Ja,Jo];unfold Rt.xV;rw[f];rfl
theorem su (h:vf w s) (l:Int):Calls Tryz.prog 34 #[.pointer (some ⟨s.q,0,none⟩),.int .i64 l] w fun e w'=>e=.returned (.bool true)/\∃s',YJ s s' w w':=by
 have d:=h.ctx.law.len;have o:=h.Bb.Yw;have i:Calls Tryz.prog 63 #[.pointer (some ⟨s.P,0,none⟩),.int .i64 l] w (fun e w'=>e=.returned (.tuple #[.bool false,.int .i64 8])/\Below w.heap.size w w')->(∀w1,vf w1 s->Calls Tryz.prog 64 #[.pointer (some ⟨s.C,0,none⟩),.int .i64 l] w1 fun e w'=>e=.returned (.tuple #[.bool false,.int .i64 8])/\Below w1.heap.size w1 w')->Calls Tryz.prog 34 #[.pointer (some ⟨s.q,0,none⟩),.int .i64 l] w fun e w'=>e=.returned (.bool true)/\∃s',YJ s s' w w':=fun a b=>
  (Af h l a b).mono (fun e w' hh=>⟨hh.1,s,hh.2⟩);by_cases h1:l < 0\/101<=l
 ·exact i (Cc w s.P l h1) (fun w1 h'=>mM h'.cur l (by omega))
 ·obtain⟨k,rfl⟩:∃k:Nat,l=(k:Int):=⟨l.toNat,by omega⟩;by_cases h2:k=0\/s.ls.length < k
  ·exact i (lV h.Yo.Yo k (by omega) (Bs h h2)) (fun w1 h'=>mM h'.cur k (by omega))
  ·obtain⟨j,rfl⟩:∃j,k=j+1:=⟨k-1,by omega⟩;have f:j < s.ls.length:=by omega
   cases hz:xx s.ls j s.ls[j]with
   | false=>exact i (lV h.Yo.Yo (j+1) (by omega) ((iz h f).trans hz)) (fun w1 h'=>th h'.cur d h.ctx.both.nested j f hz)
   | true=>
    obtain⟨b,x⟩:∃b,s.Yw[j+1]?=some b:=⟨_,zJ (by omega)⟩;have A:∀w1,vX s.P s.B s.S s.cap s.X s.X s.jv s.jv (XY s.S s.n s.low (s.Yw.set (j+1) (!b))) w w1->Calls Tryz.prog 64 #[.pointer (some ⟨s.C,0,none⟩),.int .i64 ((j:Int)+1)] w1 fun e w'=>e=.returned (.tuple #[.bool (!b),.int .i64 0])/\YJ s { s with Yw:=s.Yw.set (j+1) (!b) } w w':=fun w1 hA=>by
     refine(tg (h.Eu hA) d h.ctx.both.nested j f hz (by rw[jw];omega) b (by rw[List.getElem?_take,zE (by omega)];exact x)).mono ?_;rintro e w2 ⟨z,y⟩;rw[<-List.take_set]at y;exact⟨z,h.act hA h.Yo.ok ⟨h.Bb.Gc,h.Bb.lo,h.Bb.hi,by rw[jD];exact o⟩ y h.le (by omega)⟩
    exact(ss h j b (Ag h.Yo.Yo o (j+1) (by omega) ((iz h f).trans hz) b x) A).mono (fun e w' hh=>⟨hh.1,_,hh.2⟩)
end
structure WI (w:World) (S0:Nat) (pv lv:Value) (vs:List Value) (prs:List mU) (tag:Nat->Nat):Prop where
 lg:LG w S0 pv lv vs
 ps:w.ownsRow (S0+1) 36 1 pv prs.length (prs.map (fun s=>Value.pointer (some ⟨s.q,0,none⟩)))
 each:∀i (h:i < prs.length),vf w prs[i]
 tags:∀i (h:i < prs.length),∀k∈rV prs[i],tag k=i+1/\S0 < k
 Ce:∀k,lv.ownBlock=some k->tag k=0
 FP:∀k,pv.ownBlock=some k->tag k=0
 GR:∀i (h:i < vs.length) k,vs[i].ownBlock=some k->tag k=0
section
variable {w w':World} {S0:Nat} {pv lv:Value} {vs:List Value} {prs:List mU} {tag:Nat -> Nat}
theorem WI.zP (h:WI w S0 pv lv vs prs tag) (d:Below w.heap.size w w'):WI w' S0 pv lv vs prs tag:=
 ⟨h.lg.zP d,yG h.ps d,fun i hi=>(h.each i hi).zP d,h.tags,h.Ce,h.FP,h.GR⟩
theorem LG.stay (h:LG w S0 pv lv vs) (j:w'.heap[S0]?=w.heap[S0]?) (f:∀k,lv.ownBlock=some k->w'.heap[k]?=w.heap[k]?) (d:∀i (h:i < vs.length) k,vs[i].ownBlock=some k->w'.heap[k]?=w.heap[k]?):LG w' S0 pv lv vs:=by
 refine⟨j.trans h.block,yP h.own f,fun i hi=>?_⟩;rcases h.each i hi with e | ⟨g,c,e,hc,ho⟩
 ·exact Or.inl e
 ·exact Or.inr ⟨g,c,e,hc,yP ho (d i hi)⟩
theorem WI.act (h:WI w S0 pv lv vs prs tag) {i:Nat} (y:i < prs.length) {s':mU} (hA:YJ prs[i] s' w w'):WI w' S0 pv lv vs (prs.set i s') (fun k=>if k < w.heap.size then tag k else i+1)/\Below S0 w w':=by
 have d:∀k,k < w.heap.size->tag k≠i+1->w'.heap[k]?=w.heap[k]?:=fun k hk ht=>hA.block k hk (fun hm=>ht (h.tags i y k hm).1);have A:w'.heap[S0]?=w.heap[S0]?:=hA.block S0 (zQ h.lg.block) (fun hm=>by have:=(h.tags i y S0 hm).2;omega);have x:∀k,lv.ownBlock=some k->k < w.heap.size:=fun k e=>(h.lg.own.lt k e).2;have o:∀k,pv.ownBlock=some k->k < w.heap.size:=fun k e=>(h.ps.lt k e).2;have f:∀j (hj:j < vs.length) k,vs[j].ownBlock=some k->k < w.heap.size:=fun j hj k e=>(h.lg.lt j hj k e).2;have z:(prs.set i s').map (fun s=>Value.pointer (some ⟨s.q,0,none⟩))=prs.map (fun s=>Value.pointer (some ⟨s.q,0,none⟩)):=by
  apply qw
  ·simp
  ·intro j h1 D;simp only[qc,Zq];split
   ·next e=>subst e;rw[hA.q]
   ·rfl
 refine⟨⟨h.lg.stay A (fun k e=>d k (x k e) (by rw[h.Ce k e];omega)) (fun j hj k e=>d k (f j hj k e) (by rw[h.GR j hj k e];omega)),?_,fun j hj=>?_,fun j hj k hk=>?_,fun k e=>by simp only[zE (x k e)];exact h.Ce k e,fun k e=>by simp only[zE (o k e)];exact h.FP k e,fun j hj k e=>by simp only[zE (f j hj k e)];exact h.GR j hj k e⟩,⟨hA.os,hA.tape,hA.output,hA.size,fun k hk=>hA.block k (by have:=zQ h.lg.block;omega) (fun hm=>by have:=(h.tags i y k hm).2;omega)⟩⟩
 ·rw[z,jD];exact yP h.ps (fun k e=>d k (o k e) (by rw[h.FP k e];omega))
 ·rw[jD]at hj;rw[Zq];split
  ·exact hA.ok
  ·next e=>
   refine(h.each j hj).stay hA.size (fun k hk=>d k ((h.each j hj).lt hk) (by rw[(h.tags j hj k hk).1];omega)) hA.kept
 ·rw[jD]at hj;rw[Zq]at hk;split at hk
  ·next e=>
   subst e;rcases hA.own k hk with h1 | h1
   ·simp only[zE ((h.each i y).lt h1)];exact h.tags i y k h1
   ·have:=zQ h.lg.block;rw[zA (by omega)];exact⟨rfl,by omega⟩
  ·simp only[zE ((h.each j hj).lt hk)];exact h.tags j hj k hk
theorem oU (h:LG w S0 pv lv vs) {e:Ending} (j:w.ownsRow (S0+1) 3 1 v n xs) (o:GO S0 pv lv vs v w e w') (f:Dr t) (i:qm w k t):w'.heap[k]?=w.heap[k]?:=by
 have d:∀u,qm w k u->eF u->False:=fun u h1 h2=>by
  rw[i.one h1]at f;exact h2.CU f
 exact o.2.2.1 k i.lt (fun e=>d _ (by rw[e];exact qm.intro h.block) (by simp[eF])) (fun e=>d _ (yW h.own e) (by simp[eF])) (fun e=>d _ (yW j e) (by simp[eF]))
theorem WI.own (h:WI w S0 pv lv vs prs tag) {v:Value} {e:Ending} {n:Nat} {xs:List Value} (o:w.ownsRow (S0+1) 3 1 v n xs) (D:∀k,v.ownBlock=some k->tag k=0) (G:GO S0 pv lv vs v w e w'):∃lv' v' tag',WI w' S0 pv lv' (vs++[v']) prs tag'/\v'.ownBlock=v.ownBlock/\∀g,lv'.ownBlock=some g->lv.ownBlock=some g\/w.heap.size<=g:=by
 have y:∀k t,Dr t->qm w k t->w'.heap[k]?=w.heap[k]?:=fun k t ht hk=>oU h.lg o G ht hk;obtain⟨_,I,z,lv',v',H,f,hlo⟩:=G;have F:=zQ h.lg.block;have x:∀k,lv.ownBlock=some k->k < w.heap.size:=fun k e=>(h.lg.own.lt k e).2;have j:∀k,v.ownBlock=some k->k < w.heap.size:=fun k e=>(o.lt k e).2;have d:∀k,k < w.heap.size->¬(k=S0\/lv.ownBlock=some k\/v.ownBlock=some k)->w'.heap[k]?=w.heap[k]?:=fun k hk hn=>z k hk (fun e=>hn (Or.inl e)) (fun e=>hn (Or.inr (Or.inl e))) (fun e=>hn (Or.inr (Or.inr e)));refine⟨lv',v',fun k=>if k < w.heap.size then tag k else 0,⟨H,?_,fun i hi=>?_,fun i hi k hk=>?_,fun k e=>?_,fun k e=>?_,fun i hi k e=>?_⟩,f,hlo⟩
 ·refine yP h.ps (fun k e=>d k (h.ps.lt k e).2 (fun hc=>?_));rcases hc with rfl | e2 | e2
  ·have:=(h.ps.lt k e).1;omega
  ·obtain⟨L,h1⟩:=yW h.ps e;obtain⟨J,A⟩:=yW h.lg.own e2;exact absurd ((qm.intro h1).one (qm.intro A)) (by decide)
  ·obtain⟨L,h1⟩:=yW h.ps e;obtain⟨J,A⟩:=yW o e2;exact absurd ((qm.intro h1).one (qm.intro A)) (by decide)
 ·refine(h.each i hi).stay I.size (fun k hk=>d k ((h.each i hi).lt hk) (fun hc=>?_)) y;have h1:=h.tags i hi k hk;rcases hc with e | e | e
  ·omega
  ·have:=h.Ce k e;omega
  ·have:=D k e;omega
 ·simp only[zE ((h.each i hi).lt hk)];exact h.tags i hi k hk
 ·rcases hlo k e with h1 | h1
  ·simp only[zE (x k h1)];exact h.Ce k h1
  ·rw[zA (by omega)]
 ·simp only[zE (h.ps.lt k e).2];exact h.FP k e
 ·by_cases hiv:i < vs.length
  ·rw[xI hiv]at e;simp only[zE (h.lg.lt i hiv k e).2];exact h.GR i hiv k e
  ·have:i=vs.length:=by simp at hi;omega
   subst this;rw[xm (zB _)]at e;simp only[jC,zv]at e;rw[f]at e;simp only[zE (j k e)];exact D k e
end
section
variable {w w1 w2:World} {S0:Nat} {pv lv pv':Value} {vs:List Value} {prs:List mU} {tag:Nat -> Nat} {s:mU}
open Classical in
theorem WI.push (h:WI w S0 pv lv vs prs tag) (G:vf w s) (z:∀k∈rV s,S0 < k/\lv.ownBlock≠some k/\pv.ownBlock≠some k/\(∀i (hi:i < vs.length),vs[i].ownBlock≠some k)/\∀i (hi:i < prs.length),k∉rV prs[i]) (o:Below w.heap.size w w1) (A:w1.grownBy w2 pv.ownBlock) (L:w2.ownsRow (S0+1) 36 1 pv' (prs.length+1) (prs.map (fun s=>Value.pointer (some ⟨s.q,0,none⟩))++[.pointer (some ⟨s.q,0,none⟩)])) (hat:∀k,pv'.ownBlock=some k->pv.ownBlock=some k\/w.heap.size<=k):(∃tag',WI (w2.setCell ⟨S0,0,none⟩ pv') S0 pv' lv vs (prs++[s]) tag')/\Below S0 w (w2.setCell ⟨S0,0,none⟩ pv'):=by
 have F:=zQ h.lg.block;have H:pv.ownBlock≠some S0:=fun e=>by have:=(h.ps.lt S0 e).1;omega
 have j:∀k,k≠S0->(w2.setCell ⟨S0,0,none⟩ pv').heap[k]?=w2.heap[k]?:=fun k hk=>zO w2 ⟨S0,0,none⟩ _ k hk;have hk:∀k,k < w.heap.size->k≠S0->pv.ownBlock≠some k->(w2.setCell ⟨S0,0,none⟩ pv').heap[k]?=w.heap[k]?:=fun k hk h1 h2=>(j k h1).trans ((A.block k (zX hk o.size) (xK h2)).trans (o.block k hk));have J:w2.heap[S0]?=some (.cells #[pv,lv] 30 (0,0)):=(A.block S0 (zX F o.size) (xK H)).trans (zU h.lg.block o);have x:w.heap.size<=(w2.setCell ⟨S0,0,none⟩ pv').heap.size:=by
  have h1:=o.size;have h2:=A.size;simp[World.setCell];omega
 have D:∀k t,Dr t->qm w k t->(w2.setCell ⟨S0,0,none⟩ pv').heap[k]?=w.heap[k]?:=fun k t ht hk'=>hk k hk'.lt (fun e=>by
  have:=hk'.one (by rw[e];exact qm.intro h.lg.block);rw[this]at ht;exact(show eF 30 by simp[eF]).CU ht) (fun e=>by
  obtain⟨c,hc⟩:=yW h.ps e;have:=hk'.one (qm.intro hc);rw[this]at ht;exact(show eF 36 by simp[eF]).CU ht)
 have f:∀k,lv.ownBlock=some k->k < w.heap.size/\k≠S0/\pv.ownBlock≠some k:=fun k e=>⟨(h.lg.own.lt k e).2,by have:=(h.lg.own.lt k e).1;omega,fun e2=>by
  obtain⟨N,h1⟩:=yW h.ps e2;obtain⟨M,h2⟩:=yW h.lg.own e;exact absurd ((qm.intro h1).one (qm.intro h2)) (by decide)⟩
 have d:∀i (hi:i < vs.length) k,vs[i].ownBlock=some k->k < w.heap.size/\k≠S0/\pv.ownBlock≠some k:=fun i hi k e=>⟨(h.lg.lt i hi k e).2,by have:=(h.lg.lt i hi k e).1;omega,fun e2=>by
  obtain⟨N,h1⟩:=yW h.ps e2;rcases h.lg.each i hi with e3 | ⟨g,c,e3,_,hr⟩
  ·rw[e3]at e;cases e
  ·obtain⟨M,h2⟩:=yW hr e;exact absurd ((qm.intro h1).one (qm.intro h2)) (by decide)⟩
 refine⟨⟨fun k=>if k∈rV s then prs.length+1 else if k < w.heap.size then tag k else 0,⟨?_,yP ?_ (fun k e=>j k ?_),fun i hi=>?_,fun i hi k hm=>?_,fun k e=>?_,fun k e=>?_,fun i hi k e=>?_⟩⟩,?_⟩
 ·have I:=zf J 0 pv';refine⟨by simpa using I,yP h.lg.own (fun k e=>hk k (f k e).1 (f k e).2.1 (f k e).2.2),fun i hi=>?_⟩;rcases h.lg.each i hi with e | ⟨g,c,e,hc,hr⟩
  ·exact Or.inl e
  ·exact Or.inr ⟨g,c,e,hc,yP hr (fun k e=>hk k (d i hi k e).1 (d i hi k e).2.1 (d i hi k e).2.2)⟩
 ·rw[ze,yl,yB];exact L
 ·have:=(L.lt k e).1;omega
 ·by_cases hiv:i < prs.length
  ·rw[xI hiv];refine(h.each i hiv).stay x (fun k hm=>hk k ((h.each i hiv).lt hm) (by have:=(h.tags i hiv k hm).2;omega) (fun e=>?_)) D;have h1:=(h.tags i hiv k hm).1;have h2:=h.FP k e;omega
  ·have:i=prs.length:=by simp at hi;omega
   subst this;rw[xm (zB _)];simp only[jC,zv];exact G.stay x (fun k hm=>hk k (G.lt hm) (by have:=(z k hm).1;omega) (z k hm).2.2.1) D
 ·by_cases hiv:i < prs.length
  ·rw[xI hiv]at hm;have y:k∉rV s:=fun hc=>(z k hc).2.2.2.2 i hiv hm;simp only[zA y,zE ((h.each i hiv).lt hm)];exact h.tags i hiv k hm
  ·have:i=prs.length:=by simp at hi;omega
   subst this;rw[xm (zB _)]at hm;simp only[jC,zv]at hm;simp only[zE hm];exact⟨trivial,(z k hm).1⟩
 ·have y:k∉rV s:=fun hc=>(z k hc).2.1 e;simp only[zA y,zE (f k e).1];exact h.Ce k e
 ·have y:k∉rV s:=fun hc=>by
   rcases hat k e with h1 | h1
   ·exact(z k hc).2.2.1 h1
   ·have:=G.lt hc;omega
  simp only[zA y];rcases hat k e with h1 | h1
  ·simp only[zE (h.ps.lt k h1).2];exact h.FP k h1
  ·rw[zA (by omega)]
 ·have y:k∉rV s:=fun hc=>(z k hc).2.2.2.1 i hi e;simp only[zA y,zE (d i hi k e).1];exact h.GR i hi k e
 ·exact⟨A.os.trans o.os,A.tape.trans o.tape,A.output.trans o.output,x,fun k hk'=>hk k (by omega) (by omega) (fun e=>by have:=(h.ps.lt k e).1;omega)⟩
end
theorem Es (w:World):(Op.equalIn 10000 111 (.agg #[.int .i64 0,.int .i64 0,.int .i64 0,.int .i64 0,.int .i64 0,.int .i64 0]) (.agg #[.int .i64 0,.int .i64 0,.int .i64 0,.int .i64 0,.int .i64 0,.int .i64 0])).run Tryz.prog w=.ok true w:=by
 have d:Tryz.prog.underlying 111=some (.struct (Tryz.prog.fieldsOf 111)):=by kernel_rfl
 rw[show (10000:Nat)=9999+1 from rfl,run_equalIn_agg w 9999 111 _ _ d (by kernel_rfl)];simp only[Program.fieldsOf,underlying111];go_simp
theorem uP {b:Nat} {v0 v1 v2 v3 v4 v5:Value} (h:w.heap[b]?=some (.cells #[v0,v1,v2,v3,v4,v5] t (0,0))) (o k j i f d:Value):(W6 w b o k j i f d).heap[b]?=some (.cells #[o,k,j,i,f,d] t (0,0)):=by
 have:=zf (zf (zf (zf (zf (zf h 0 o) 1 k) 2 j) 3 i) 4 f) 5 d;simpa using this
theorem YJ.zP {s s':mU} {w w1 w2:World} (h:YJ s s' w w1) (d:Below w1.heap.size w1 w2):YJ s s' w w2:=
 ⟨h.ok.zP d,h.q,d.os.trans h.os,d.tape.trans h.tape,d.output.trans h.output,zi h.size d.size,fun k hk hn=>(d.block k (zX hk h.size)).trans (h.block k hk hn),fun k t ht hk=>(d.block k (zX hk.lt h.size)).trans (h.kept k t ht hk),h.own,h.iP⟩
attribute [local go_sem ↓] Es
section
variable {s:mU}
theorem Ea (h:vf w s) (d f:Int) (y:¬Q2 d f=0):Calls Tryz.prog 35 #[.pointer (some ⟨s.q,0,none⟩),.bool true,.int .i64 d,.int .i64 f] w fun e w'=>e=.returned (.bool true)/\∃s',YJ s s' w w':=by
 have HH:=zD h;have T:w.cell? ⟨s.q,0,none⟩=some (.pointer (some ⟨s.P,0,none⟩)):=zC h.pair 0 (by simp);have O:w.cell? ⟨s.q,1,none⟩=some (.pointer (some ⟨s.C,0,none⟩)):=zC h.pair 1 (by simp);have a0:=zQ h.pair;have Z:=zD (fun w=>GY s.P d f w y);have HD:=zD (fun w=>Gp s.C d f w y);have a3:(Q2 d f != 0)=true:=by simpa using y
 have U:=zN w (.cells Q1 111);have A:=(zI w.heap.size w).alloc (zB _) (.cells Q1 111);have q0:=cell_later A T;have N:=cell_later A O;have D:=qG A U;clear h y A U T O;generalize Q2 d f=R at *;go_enter func35,ntmps35;go_wp2_with fail;refine(Z.u _).mono ?_;rintro e w1 ⟨rfl,i⟩;have k:=zU D.u.2 i;have d1:=cell_later i N;obtain⟨M,L,J,I,H,G,z⟩:=YA k;have a2:¬s.q=w.heap.size:=by omega
 have a1:¬w.heap.size=s.q:=by omega
 have x:=zD (YI (D.u.1.trans (i.mono (B':=w.heap.size) D.u.1.size)) (zB _) (.int .i64 0) (.int .i64 0) (.int .i64 0) (.int .i64 0) (.int .i64 0) (.int .i64 0));have o:=zD (uP k (.int .i64 0) (.int .i64 0) (.int .i64 0) (.int .i64 0) (.int .i64 0) (.int .i64 0));clear i q0 N k Z;go_wp2_with fail;refine(HD.u _).mono ?_;rintro e w2 ⟨rfl,j⟩;have F:=zD (show Below w.heap.size w w2 by rw[j];exact x.u);have W:=o.u;have V:w2.heap[w.heap.size]?=some (.cells Q1 111 (0,0)):=by rw[j];exact W
 clear M L J I H G z d1 HD j W x o D;obtain⟨M,L,J,I,H,G,z⟩:=YA V;clear V;unfold Q1;go_wp2_with (go_at_call 20;refine(K3 R).mono ?_;rintro e w' ⟨rfl,rfl⟩)
 all_goals
  go_ret;exact⟨by first | rfl | simp,s,YJ.below HH.u F.u⟩
theorem CZ (h:vf w s) {rs:Int} (d f:Int) (HS:∀w1,vf w1 s->Calls Tryz.prog 65 #[.pointer (some ⟨s.P,0,none⟩),.int .i64 d,.int .i64 f] w1 (MvP s.P s.B s.S s.cap s.Yw s.X s.jv n' low' k rs w1)) (HD:∀w1,vg w1 s.C s.zL s.ls s.S s.cap s.len s.n s.low (s.Yw.take (s.ls.length+1)) s.Y->Calls Tryz.prog 66 #[.pointer (some ⟨s.C,0,none⟩),.int .i64 d,.int .i64 f] w1 (G1 s.C s.zL s.ls s.S s.cap (s.Yw.take (s.ls.length+1)) s.Y len' n' low' k rs w1)) (H:n'<=len') (A:len'<=s.len+1000):Calls Tryz.prog 35 #[.pointer (some ⟨s.q,0,none⟩),.bool true,.int .i64 d,.int .i64 f] w fun e w'=>e=.returned (.bool true)/\∃s',YJ s s' w w':=by
 have i:=zD h;have N:=zD HS;have R:=zD HD;have p0:w.cell? ⟨s.q,0,none⟩=some (.pointer (some ⟨s.P,0,none⟩)):=zC h.pair 0 (by simp);have a1:=zQ h.pair;have bR:=zN w (.cells Q1 111);have I:=(zI w.heap.size w).alloc (zB _) (.cells Q1 111);have q0:=cell_later I p0;have T:=qG I bR;clear h I bR p0 HS HD;go_enter func35,ntmps35;go_wp2_with fail;refine(N.u _ (i.u.zP T.u.1)).mono ?_;rintro e w1 ⟨rfl,X',a0,L,y⟩;have o:=(vX.start i.u.Yo.Yo T.u.1).trans L;have j:=(L.kept (k:=w.heap.size) (by simp) (fun hm=>by have:=i.u.Yo.Yo.Vq hm;omega)).trans T.u.2;have x:=(i.u.ua o (Or.inr (Or.inr rfl)) ⟨_,i.u.pair⟩).trans i.u.pair;have d1:w1.cell? ⟨s.q,1,none⟩=some (.pointer (some ⟨s.C,0,none⟩)):=zC x 1 (by simp);obtain⟨r0,r1,Z,W,V,U,z⟩:=YA j;have a3:¬s.q=w.heap.size:=by omega
 have a2:¬w.heap.size=s.q:=by omega
 have G:=XX (o.YD j (zB _) (by unfold bg Xe;decide) (.int .i64 rs) (.int .i64 (k:Int)) (.int .i64 (Rt.atM s.S n').fin) (.int .i64 (Rt.atM s.S n').line) (.int .i64 ((Rt.atM s.S n').zH.length:Int)) (.int .i64 (n':Int))) y (uP j (.int .i64 rs) (.int .i64 (k:Int)) (.int .i64 (Rt.atM s.S n').fin) (.int .i64 (Rt.atM s.S n').line) (.int .i64 ((Rt.atM s.S n').zH.length:Int)) (.int .i64 (n':Int)));clear L o j x y q0;unfold Vn;go_wp2_with fail;clear r0 r1 Z W V U z d1;refine(R.u _ (i.u.Eu G.u.1)).mono ?_;rintro e w2 ⟨rfl,Y',J⟩;have hF:=i.u.act G.u.1 G.u.2.1 i.u.Bb J.aC H A;have M:=G.u.2.2;have F:=(J.aC.vz.block _ (zQ M) (fun hm=>by have:=i.u.cur.lt (zY _ hm);omega)).trans M;obtain⟨r0,r1,Z,W,V,U,z⟩:=YA F;have HF:=zD hF;clear hF J M F;go_wp2_with (go_at_call 20;refine(K3 0).mono ?_;rintro e w' ⟨rfl,rfl⟩);refine(dV HF.u.ok rs k).mono ?_;rintro e w3 ⟨rfl,D⟩;have O:=zD (YJ.zP HF.u D);clear D;go_wp2;go_ret;exact⟨rfl,_,O.u⟩
end
theorem sq {s:mU} (h:vf w s) (kind fuel:Int) (o:s.len+1001 < 1000000000000):Calls Tryz.prog 35 #[.pointer (some ⟨s.q,0,none⟩),.bool true,.int .i64 kind,.int .i64 fuel] w fun e w'=>e=.returned (.bool true)/\∃s',YJ s s' w w':=by
 by_cases hr:Q2 kind fuel=0
 ·have i:(0<=kind/\kind<=3)/\0<=fuel/\fuel<=1000:=by
   unfold Q2 at hr;split at hr
   ·omega
   ·split at hr
    ·omega
    ·omega
  obtain⟨f,rfl⟩:∃f:Nat,fuel=(f:Int):=⟨fuel.toNat,by omega⟩;have x:0<=s.cap/\s.cap<=500:=by
   have d:=h.Bb.lo;have y:=h.Bb.hi;omega
  obtain⟨j,g1,z,_⟩:=dC s.S s.Yw kind f (Rt.atM s.S s.n).zH.length (f+1) s.n 0 (by omega) (by omega);have k:=h.le;refine CZ h kind f (fun w1 d=>d.Yo.fwd d.Bb kind f i.1 (by omega) (by omega)) (fun w1 hC=>DX hC h.le h.ctx h.Bb.Gc h.Yo.ok x h.Bb.Yw o kind f i.1 (by omega)) (Y7 _ _) ?_;rw[g1];show max s.len (s.n+j)<=s.len+1000;omega
 ·exact Ea h kind fuel hr
end Go.Proofs.YthleadfkfnnadaaGreat
