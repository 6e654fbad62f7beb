/- The law: steps that are no session's: Tidy, Stops. -/
import Derived.Test.YthleadfkfnnadaaGreatCuH
set_option maxHeartbeats 4000000
set_option maxRecDepth 100000
set_option linter.all false
namespace Go.Proofs.YthleadfkfnnadaaGreat
open Value renaming int->J,slice->I,string->O,pointer->H,bool->A,agg->L,tuple->E
open IntKind renaming i64->U
open Option renaming none->Z,some->Q
open Bool renaming false->W,true->D
open List renaming length->G
open Ending renaming returned->T
open Obj renaming cells->V
open Rf Rt Go.Proofs.Tryz
variable {cap:Int} {ls:List Ib} {cs:List (List Value)} {zL:List Rt.PL} {tail:List Value} {X:ZK} {k M B P i:Nat} {op:rS} {row:Option Nat} {s:mU} {m:Rt.Mc} {S:Rt.Src} {ty t:TypeId} {jv lv:Value} {w w1 w':World}
section
open Go.RowKit
attribute [local go_sem ↓] Go.wp_at_zero Go.wp_at_succ
attribute [local go_sem ↓] Es
section
variable {s:mU}
theorem movb_no (h:vf w s) (d f:Int) (F:¬Q2 d f=0):Calls Tryz.prog 35 #[H (Q ⟨s.q,0,Z⟩),A W,J U d,J U f] w fun e w'=>e=T (A D)/\∃s',YJ s s' w w':=by
 have HH:=zD h;have p0:w.cell? ⟨s.q,0,Z⟩=Q (H (Q ⟨s.P,0,Z⟩)):=zC h.pair 0 (by simp);have p1:w.cell? ⟨s.q,1,Z⟩=Q (H (Q ⟨s.C,0,Z⟩)):=zC h.pair 1 (by simp);have a0:=zQ h.pair;have HP:=zD (fun w=>sb_no s.P d f w F);have HD:=zD (fun w=>cb_no s.C d f w F);have a1:(Q2 d f != 0)=D:=by simpa using F
 have bR:=zN w (V Q1 111);have G:=(zI w.heap.size w).alloc (zB _) (V Q1 111);have q0:=cell_later G p0;have q1:=cell_later G p1;have y:=qG G bR;generalize Q2 d f=R at *;go_enter func35,ntmps35;go_wp2_with fail;refine(HP.u _).mono ?_;rintro e w1 ⟨rfl,j⟩;have k:=zU y.u.2 j;have d1:=cell_later j q1;obtain⟨r0,r1,O,N,M,L,z⟩:=YA k;have x:=zD (YI (y.u.1.trans (j.mono (B':=w.heap.size) y.u.1.size)) (zB _) (J U 0) (J U 0) (J U 0) (J U 0) (J U 0) (J U 0));have o:=zD (uP k (J U 0) (J U 0) (J U 0) (J U 0) (J U 0) (J U 0));go_wp2_with fail;refine(HD.u _).mono ?_;rintro e w2 ⟨rfl,i⟩;have I:=zD (show Below w.heap.size w w2 by rw[i];exact x.u);have b2:=o.u;have b3:w2.heap[w.heap.size]?=Q (V Q1 111 (0,0)):=by rw[i];exact b2
 clear r0 r1 O N M L z d1 HD i b2 x o y;obtain⟨r0,r1,O,N,M,L,z⟩:=YA b3;unfold Q1;go_wp2_with (go_at_call 20;refine(K3 R).mono ?_;rintro e w' ⟨rfl,rfl⟩)
 all_goals
  go_ret;exact⟨by first | rfl | simp,s,YJ.below HH.u I.u⟩
theorem movb_yes (h:vf w s) {rs:Int} (f i:Int) {n' low':Nat} (d:Nat) (HS:∀w1,vf w1 s->Calls Tryz.prog 67 #[H (Q ⟨s.P,0,Z⟩),J U f,J U i] w1 (MvP s.P s.B s.S s.cap s.Yw s.X s.jv n' low' k rs w1)) (HD:∀w1,vg w1 s.C s.zL s.ls s.S s.cap s.len s.n s.low (s.Yw.take (G s.ls+1)) s.Y->Calls Tryz.prog 68 #[H (Q ⟨s.C,0,Z⟩),J U f,J U i] w1 (G1 s.C s.zL s.ls s.S s.cap (s.Yw.take (G s.ls+1)) s.Y d n' low' k rs w1)) (M:n'<=d) (x:d<=s.len+1000):Calls Tryz.prog 35 #[H (Q ⟨s.q,0,Z⟩),A W,J U f,J U i] w fun e w'=>e=T (A D)/\∃s',YJ s s' w w':=by
 have j:=zD h;have R:=zD HS;have a1:=zD HD;have p0:w.cell? ⟨s.q,0,Z⟩=Q (H (Q ⟨s.P,0,Z⟩)):=zC h.pair 0 (by simp);have a3:=zQ h.pair;have bR:=zN w (V Q1 111);have hb:=(zI w.heap.size w).alloc (zB _) (V Q1 111);have q0:=cell_later hb p0;have HB:=qG hb bR;go_enter func35,ntmps35;go_wp2_with fail;refine(R.u _ (j.u.zP HB.u.1)).mono ?_;rintro e w1 ⟨rfl,X',a2,hA,L⟩;have y:=(vX.start j.u.Yo.Yo HB.u.1).trans hA;have o:=(hA.kept (k:=w.heap.size) (by simp) (fun hm=>by have:=j.u.Yo.Yo.Vq hm;omega)).trans HB.u.2;have I:=(j.u.ua y (Or.inr (Or.inr rfl)) ⟨_,j.u.pair⟩).trans j.u.pair;have d1:w1.cell? ⟨s.q,1,Z⟩=Q (H (Q ⟨s.C,0,Z⟩)):=zC I 1 (by simp);obtain⟨r0,r1,r2,r3,r4,r5,z⟩:=YA o;have F:=XX (y.YD o (zB _) (by unfold bg Xe;decide) (J U rs) (J U (k:Int)) (J U (Rt.atM s.S n').fin) (J U (Rt.atM s.S n').line) (J U ((Rt.atM s.S n').zH.length:Int)) (J U (n':Int))) L (uP o (J U rs) (J U (k:Int)) (J U (Rt.atM s.S n').fin) (J U (Rt.atM s.S n').line) (J U ((Rt.atM s.S n').zH.length:Int)) (J U (n':Int)));unfold Vn;go_wp2_with fail;refine(a1.u _ (j.u.Eu F.u.1)).mono ?_;rintro e w2 ⟨rfl,Y',hC⟩;have hF:=j.u.act F.u.1 F.u.2.1 j.u.Bb hC.aC M x;have b6:=F.u.2.2;have O:=(hC.aC.vz.block _ (zQ b6) (fun hm=>by have:=j.u.cur.lt (zY _ hm);omega)).trans b6;obtain⟨r0,r1,r2,r3,r4,r5,z⟩:=YA O;have HF:=zD hF;go_wp2_with (go_at_call 20;refine(K3 0).mono ?_;rintro e w' ⟨rfl,rfl⟩);refine(dV HF.u.ok rs k).mono ?_;rintro e w3 ⟨rfl,N⟩;have a0:=zD (YJ.zP HF.u N);go_wp2;go_ret;exact⟨rfl,_,a0.u⟩
end
theorem movedb_ref (h:vf w s) (kind fuel:Int) (k:s.len+1001 < 1000000000000):Calls Tryz.prog 35 #[H (Q ⟨s.q,0,Z⟩),A W,J U kind,J U fuel] w fun e w'=>e=T (A D)/\∃s',YJ s s' w w':=by
 by_cases hr:Q2 kind fuel=0
 ·have d:(0<=kind/\kind<=3)/\0<=fuel/\fuel<=1000:=by
   unfold Q2 at hr;split at hr
   ·omega
   ·split at hr
    ·omega
    ·omega
  obtain⟨f,rfl⟩:∃f:Nat,fuel=(f:Int):=⟨fuel.toNat,by omega⟩;obtain⟨j,g1,_⟩:=IX s.S s.Yw s.low kind f (Rt.atM s.S s.n).zH.length (f+1) s.n 0 h.Yo.ok.le (by omega) (by omega);have i:=h.le;refine movb_yes h kind f s.len (fun w1 h1=>h1.Yo.bwd h1.Bb kind f d.1 (by omega) (by omega)) (fun w1 hC=>cbwd_ref hC h.le h.ctx h.Bb.Gc h.Yo.ok h.Bb.Yw k kind f d.1 (by omega)) ?_ (by omega);rw[g1];show s.n-j<=s.len;omega
 ·exact movb_no h kind fuel hr
end
section
open Go.RowKit
attribute [local go_sem ↓] Go.wp_at_zero Go.wp_at_succ
theorem session_bwd {S:Nat} (h:vf w s) (o:op.kind=7) (x:∃a n c,op.v=I a n c) (i:s.len+1001 < 1000000000000):Calls Tryz.prog 17 #[H (Q ⟨S,0,Z⟩),H (Q ⟨s.q,0,Z⟩),iO op] w fun e w'=>e=T (A D)/\∃s',YJ s s' w w':=by
 obtain⟨M,F,k,j,z,ov,L⟩:=op;simp only at o x;obtain⟨a,n,c,rfl⟩:=x;subst o;unfold iO;simp only;have d:=(zI w.heap.size w).alloc (zB _) (V #[J U 7,J U F,J U k,J U j,O z,I a n c] 32);have f:=qG h d;clear h d;go_enter func17,ntmps17;go_wp2_with fail;refine(movedb_ref (f.u.1.zP f.u.2) k j i).mono ?_;rintro e w1 ⟨rfl,s',y⟩;have G:=zD ((YJ.below f.u.1 f.u.2).then y);clear y;go_wp2;go_ret;exact⟨rfl,_,G.u⟩
namespace Rt
def Hf (S:Src) (m:Mc) (x:Ia):Int×Int:=if isVar S.zL (qJ S m) x=D then (ZL m (vx S m x),0)else (0,4)
def cellR (S:Src) (m:Mc) (x:Ia) (n:Int):Int×Int:=if ZW S.zL (qJ S m) x=true then (match kX S m x n with | some s=>(ZL m s,0)| none=>(0,9))else (0,4)
def G9 (m:Mc):List Int:=(m.zH.drop 1).map Fm.call
end Rt
theorem cellb_lt {b o:Nat} {v:Value} (h:w.cell? ⟨b,o,Z⟩=Q v):b < w.heap.size:=by
 unfold World.cell? at h;split at h
 ·rename_i hb;exact(Zd.1 hb).1
 ·cases h
theorem mValue_any (x:Ia) (h:jz w M B ty tail S m X) (k:dL S m):Calls Tryz.prog 115 #[H (Q ⟨M,0,Z⟩),O x] w fun e w'=>e=T (E #[J U (Rt.Hf S m x).1,J U (Rt.Hf S m x).2])/\Below w.heap.size w w':=by
 have j:(Rt.yA S.zL (Rt.qJ S m)).params.length<=1000:=aJ k.ZX (Rt.qJ S m);go_enter func115,ntmps115;go_wp2_with fail;refine(CF h).mono ?_;rintro e w1 ⟨rfl,d⟩;have R:=zD (show Rt.Hf S m x=if Rt.isVar S.zL (Rt.qJ S m) x=D then (Rt.ZL m (Rt.vx S m x),0)else (0,4)from rfl);generalize Rt.qJ S m=pc at *;go_wp2_with fail;refine(Hn pc x (h.prog.zP d).v k.zL j).mono ?_;rintro e w2 ⟨rfl,G⟩;have f:=d.trans (G.mono d.size);have h2:=h.zP f;cases hv:Rt.isVar S.zL pc x with
 | false=>
  have L:=zD (show Rt.Hf S m x=(0,4) by rw[R.u,hv];rfl);have z:=zD f;go_wp2_with fail;refine zT (v:=E #[J U 0,J U 4]) ?_ rfl ⟨by rw[L.u],z.u⟩;simp[results,results115,go_sem]
 | true=>
  have L:=zD (show Rt.Hf S m x=(Rt.ZL m (Rt.vx S m x),0) by rw[R.u,hv];rfl);have i:=XX h2 k f;go_wp2_with fail;refine(fy x i.u.1 i.u.2.1).mono ?_;rintro e A ⟨rfl,y⟩;have z:=zD (i.u.2.2.trans (y.mono i.u.2.2.size));have h3:=i.u.1.zP y;obtain⟨_,k,_⟩:=i.u;generalize a0:Rt.vx S m x=sp at *;have HG:=zD (fun (W:World) (hW:jz W M B ty tail S m X)=>nT sp hW k);have I:=zD h3;generalize Rt.ZL m sp=gv at *;go_wp2_with fail;have o:=(zI A.heap.size A).alloc (zB _) (V #[J U sp.line,J U sp.cell] 160);refine(HG.u _ (I.u.zP o)).mono ?_;rintro e w4 ⟨rfl,F⟩;have N:=zD (z.u.trans ((o.trans (F.mono (B':=A.heap.size) (by simp))).mono z.u.size));go_wp2_with fail;refine zT (v:=E #[J U gv,J U 0]) ?_ rfl ⟨by rw[L.u],N.u⟩;simp[results,results115,go_sem]
theorem mCalls_any (h:jz w M B ty tail S m X) (hm:G m.zH<=1000) (h0:0 < G m.zH):Calls Tryz.prog 73 #[H (Q ⟨M,0,Z⟩)] w fun e w'=>Below w.heap.size w w'/\∃v,e=T v/\w'.ownsRow w.heap.size 3 1 v (Rt.G9 m).length (xR (Rt.G9 m)):=by
 obtain⟨i0,R,N,L,F⟩:=yi XL;obtain⟨A,z,x⟩:=zK h.zH;have HC:=zD (show ∀k,(hk:k < G m.zH)->∃g,A=Q ⟨g,0,Z⟩/\(X.fv.ownBlock=Q g)/\∀W,Below w.heap.size w W->W.cell? ⟨g,k*2+1,Z⟩=Q (J U m.zH[k].call) by
  intro k hk;obtain⟨g,a2,V,_,_,k2⟩:=yD h.zH (Js X.xg m.zH h.fl k hk).2;refine⟨g,by rw[x]at V;injection V,by rw[V];rfl,fun W hW=>cell_later hW k2⟩)
 have HX:=zD (show ∀W,Below w.heap.size w W->W.cell? ⟨M,2,Z⟩=Q (I A (G m.zH) z)from fun W hW=>by rw[<-x];exact(h.zP hW).c2);have HL:=zD (show ∀k,(hk:k < G m.zH)->(Rt.G9 m).take (k-1)++(if 1<=k then [m.zH[k].call]else [])=(Rt.G9 m).take k by
  intro k hk;unfold Rt.G9;cases k with
  | zero=>simp
  | succ k=>
   have:((m.zH.drop 1).map Rt.Fm.call)[k]?=Q m.zH[k+1].call:=by
    rw[yt,vp,show 1+k=k+1 by omega,zJ hk];rfl
   rw[kI,this];simp)
 have a0:=zD (show (Rt.G9 m).length=G m.zH-1 by unfold Rt.G9;simp);go_enter func73,ntmps73;go_wp2_with fail;go_loopw [3,4] (fun v i wr=>∃k:Nat,k+1<=G m.zH/\i=J U ((k:Int)+1)/\wr.ownsRow w.heap.size 3 1 v k (xR ((Rt.G9 m).take k))/\Below w.heap.size w wr)
  (fun _ i _=>G m.zH+1-(intOf i).toNat)
 case atStart=>exact⟨0,by omega,rfl,zW _ _ _ _,zI _ _⟩
 case round=>
  obtain⟨k,hk,rfl,d,f⟩:=hrel;have O:=f.size;obtain⟨a5,a3,rfl⟩:=zK d;have c2:=HX.u wr f;by_cases hlt:k+1 < G m.zH
  ·obtain⟨g,rfl,_,hc⟩:=HC.u (k+1) hlt;have k2:=hc wr f;have HT:=zD (HL.u (k+1) hlt);generalize m.zH[k+1].call=q at *;have a1:((k:Int)+1) < (G m.zH:Int):=by omega
   go_wp2_with (at_builtin;refine xQ _ rfl _ _ 24 rfl w.heap.size 3 i0 _ 1 8 underlying24 R N L F rfl (by decide) _ _ _ rfl (d.alloc _) ⟨_,0,Z⟩ 1 1 [J U q] rfl rfl (cell_one_new _ _ _) ?c2 ?c3 ?c4 ?c5 ?_)
   case c2=>intro u hu;simp at hu;rcases hu with rfl;rfl
   case c3=>unfold maxLen;omega
   case c4=>omega
   case c5=>simp;omega
   intro v' w3 j o _;have y:=qY f O d o;have D:=qG j y;go_wp2;go_roundw
   ·obtain⟨q2,q3⟩:=D.u;have ht:=HT.u;rw[zu,zE (by omega)]at ht;exact⟨k+1,by omega,by go_num,by rw[<-ht,xR,yB];exact q2,q3⟩
   ·simp[intOf];omega
  ·have D:=qG d f;have HE:=zD (show (Rt.G9 m).take k=Rt.G9 m/\(Rt.G9 m).length=k from by
    have a4:=a0.u;exact⟨yw (by omega),by omega⟩)
   go_wp2;go_ret;refine⟨D.u.2,_,rfl,?_⟩;have:=D.u.1;rw[HE.u.1]at this;rw[HE.u.2];exact this
theorem sValue_any {s:Se} (x:Ia) (h:Zv w P B S cap s X jv) (f:dL S s.m):Calls Tryz.prog 69 #[H (Q ⟨P,0,Z⟩),O x] w fun e w'=>e=T (E #[J U (Rt.Hf S s.m x).1,J U (Rt.Hf S s.m x).2])/\Below w.heap.size w w':=by
 have i:=zD (mValue_any x h.mc f);go_enter func69,ntmps69;go_wp2_with fail;refine i.u.mono ?_;rintro e w1 ⟨rfl,d⟩;have j:=zD d;go_wp2_with fail;refine zT (v:=E #[J U (Rt.Hf S s.m x).1,J U (Rt.Hf S s.m x).2]) ?_ rfl ⟨rfl,j.u⟩;simp[results,results69,go_sem]
theorem sCalls_any {s:Se} (h:Zv w P B S cap s X jv) (j:G s.m.zH<=1000) (k:0 < G s.m.zH):Calls Tryz.prog 38 #[H (Q ⟨P,0,Z⟩)] w fun e w'=>Below w.heap.size w w'/\∃v,e=T v/\w'.ownsRow w.heap.size 3 1 v (Rt.G9 s.m).length (xR (Rt.G9 s.m)):=by
 have o:=zD (mCalls_any h.mc j k);go_enter func38,ntmps38;go_wp2_with fail;refine o.u.mono ?_;rintro e w1 ⟨d,v,rfl,i⟩;have f:=qG d i;go_wp2;go_ret;exact⟨f.u.1,v,rfl,f.u.2⟩
end
section
open Go.RowKit
namespace Rf
open Rt
theorem par_yes {ps:Ib} {x:Ia}:∀(i:Nat),0<=parNo i ps x->ps.any (fun y=>decide (y=x))=D:=by
 induction ps with
 | nil=>intro i h;rw[parNo]at h;omega
 | cons p r ih=>
  intro i h;rw[parNo]at h;split at h
  ·next he=>rw[vw,qA he];rfl
  ·rw[vw,ih (i+1) h,Bool.or_true]
theorem decl_first {zL:List PL} (h:ZM zL ls) (x:Ia) (i:¬decl ls x=0):∃hd:decl ls x-1 < G ls,((first ls[decl ls x-1]).toList==[118,97,114])=decide ((yJ zL x).kind=1)/\((first ls[decl ls x-1]).toList==[97,114,114,97,121])=decide ((yJ zL x).kind=2):=by
 rcases h.bD x with⟨h1,_⟩| ⟨_,hd,hli⟩
 ·exact absurd h1 i
 ·obtain⟨o,k,j,_⟩:=Ya hli;obtain⟨_,f,d,_⟩:=vA (yJ zL x).kind;refine⟨hd,?_,?_⟩
  ·rw[k];simp[f]
  ·rw[j];simp[d]
theorem decl_none {zL:List PL} (h:ZM zL ls) (x:Ia) (d:decl ls x=0):(yJ zL x).kind=0:=by
 rcases h.bD x with⟨_,h1⟩| ⟨h1,_⟩
 ·rw[h1];rfl
 ·exact absurd d h1
section
variable {zL:List PL} {ls:List Ib} {S:Rt.Src} {m:Mc}
theorem sort_of (E:Env zL ls S m) (x:Ia):Rt.isVar S.zL (qJ S m) x=Rt.isVar zL (qJ S m) x/\ZW S.zL (qJ S m) x=ZW zL (qJ S m) x/\
  (0<=index (XZ ls (top (yT zL m)).proc) x->Rt.isVar zL (qJ S m) x=D/\ZW zL (qJ S m) x=W)/\
  (¬0<=index (XZ ls (top (yT zL m)).proc) x->Rt.isVar zL (qJ S m) x=decide ((yJ zL x).kind=1)/\ZW zL (qJ S m) x=decide ((yJ zL x).kind=2)):=by
 have d:index (XZ ls (top (yT zL m)).proc) x=parNo 0 (yA zL (qJ S m)).params x:=by
  rw[E.Gd,E.Ja,Zl];have:=II x (yA zL (qJ S m)).params _ 0 (xW _);rw[Yf]at this;exact this
 rw[d];unfold Rt.isVar ZW VS yJ;refine⟨?_,?_,fun h=>?_,fun h=>?_⟩
 ·rw[E.Ja,Zl,XR,Zl]
 ·rw[E.Ja,Zl,XR,Zl]
 ·rw[par_yes 0 h];exact⟨rfl,rfl⟩
 ·rw[pR 0 (by omega)];exact⟨rfl,rfl⟩
def valD (ls:List Ib) (p:Pl) (x:Ia):Int×Int:=
 if 0<=index (XZ ls (top p).proc) x then (value ls p x,0)else if decl ls x=0 then (0,4)else if ((first (xU ls (decl ls x-1))).toList==[118,97,114])=D then (value ls p x,0)else (0,4)
theorem valD_eq (E:Env zL ls S m) (x:Ia):valD ls (yT zL m) x=Hf S m x:=by
 obtain⟨k,_,i,h⟩:=sort_of E x;unfold valD Hf;rw[k];by_cases hp:0<=index (XZ ls (top (yT zL m)).proc) x
 ·have d:=(i hp).1;rw[zE hp,zE d,Bl E d]
 ·rw[zA hp];have d:=(h hp).1;by_cases h0:decl ls x=0
  ·rw[zE h0,zA (by rw[d,decl_none E.both x h0];decide)]
  ·obtain⟨f,j,_⟩:=decl_first E.both x h0;rw[zA h0,yq f,j,<-d];by_cases hk:Rt.isVar zL (qJ S m) x=D
   ·rw[zE hk,zE hk,Bl E hk]
   ·rw[zA hk,zA hk]
def celD (ls:List Ib) (p:Pl) (x:Ia) (i:Int):Int×Int:=
 if 0<=index (XZ ls (top p).proc) x\/decl ls x=0 then (0,4)else if ((first (xU ls (decl ls x-1))).toList==[97,114,114,97,121])=D then
  (if i < 0\/((p.cells.getD (decl ls x) []).length:Int)<=i then (0,9)else ((p.cells.getD (decl ls x) []).getD i.toNat 0,0))else (0,4)
theorem celD_eq (E:Env zL ls S m) (x:Ia) (i:Int):celD ls (yT zL m) x i=Go.Proofs.YthleadfkfnnadaaGreat.Rt.cellR S m x i:=by
 obtain⟨_,o,j,h⟩:=sort_of E x;unfold celD Go.Proofs.YthleadfkfnnadaaGreat.Rt.cellR;rw[o];by_cases hp:0<=index (XZ ls (top (yT zL m)).proc) x
 ·rw[zE (Or.inl hp),zA (by rw[(j hp).2];simp)]
 ·have d:=(h hp).2;by_cases h0:decl ls x=0
  ·rw[zE (Or.inr h0),zA (by rw[d,decl_none E.both x h0];decide)]
  ·obtain⟨f,_,k⟩:=decl_first E.both x h0;rw[zA (by omega),yq f,k,<-d];by_cases hk:ZW zL (qJ S m) x=D
   ·obtain⟨y,A,z⟩:=GD E hk;rw[zE hk,zE hk,y,Rt.kX];unfold Q6;simp only;by_cases hb:i < 0\/((cellsOf m (xb S.zL x:Nat)).length:Int)<=i
    ·rw[zE hb,zA (by simp;omega)]
    ·rw[zA hb,zE (by simp;omega)];simp only;unfold ZL;rw[zA (by simp;omega),xL]
   ·rw[zA hk,zA hk]
theorem calls_map (zL:List PL) (n:Int):∀fs:List Fm,(frsOf zL fs n).map Fr.call=fs.map Fm.call
 | []=>rfl
 | [f]=>rfl
 | a::b::r=>by
  show _::(frsOf zL (b::r) n).map Fr.call=_;rw[calls_map zL n (b::r)];rfl
theorem callsD (m:Mc):((yT zL m).zH.drop 1).map Fr.call=G9 m:=by
 unfold G9;rw[List.map_drop,List.map_drop];show ((frsOf zL m.zH m.line).map Fr.call).drop 1=_;rw[calls_map]
end
end Rf
end
section
open Go.RowKit
attribute [local go_sem ↓] Go.wp_at_zero Go.wp_at_succ
section
variable {C:Nat} {zL:List Rt.PL} {ls:List Ib} {S:Rt.Src} {cap:Int} {len n low:Nat} {mk:List Bool} {Y:iQ}
theorem cvalue_ref (h:vg w C zL ls S cap len n low mk Y) (hn:n<=len) (E:Rf.Env zL ls S (Rt.atM S n)) (x:Ia):Calls Tryz.prog 70 #[H (Q ⟨C,0,Z⟩),O x] w fun e w'=>e=T (.tuple #[J U (Rt.Hf S (Rt.atM S n) x).1,J U (Rt.Hf S (Rt.atM S n) x).2])/\Below w.heap.size w w':=by
 rw[<-valD_eq E x];have b5:V9 ls (ZN zL S n):=E.ok;have f:Hd (valD ls (ZN zL S n) x=_):=zD (by unfold valD;rfl);have c0:w.cell? ⟨C,0,Z⟩=Q (H (Q ⟨Y.sb,0,Z⟩)):=zC h.block 0 (by simp[Du]);have b4:=zD (AD h hn);have j:=XX h E b5;have a1:=E.law.len;have f5:=zQ h.block;show Calls _ _ _ _ fun e w'=>e=T (.tuple #[J U (valD ls (ZN zL S n) x).1,J U (valD ls (ZN zL S n) x).2])/\_;generalize ZN zL S n=p at *;go_enter func70,ntmps70;go_wp2_with fail;refine b4.u.mono ?_;rintro e w1 ⟨R,X,_,hq,rfl⟩;obtain⟨xa,xc,ya,yc,za,zc,oa,oc,f1,f2,f3,f4⟩:=hq.ZX;have b1:jh X.fv X.vv X.cv X.ov p=(Hi xa xc ya yc za zc oa oc p):=by rw[f1,f2,f3,f4];rfl
 have F:=(zI w1.heap.size w1).alloc (zB _) (V (jh X.fv X.vv X.cv X.ov p) 72);have hR:=(((hq.zP R).zP F).val j.u.2.2.some (by have:=j.u.2.2.cells;omega)).at (zN w1 (V (jh X.fv X.vv X.cv X.ov p) 72));rw[b1]at F hR ⊢;have a6:=R.trans (F.mono (B':=w.heap.size) R.size);have d0:=cell_later a6 c0;obtain⟨k,hk⟩:∃k,G p.zH=k+1:=⟨G p.zH-1,by have:=j.u.2.2.some;omega⟩;obtain⟨b,o,cp,av,c1,c2,c3,c4,b7⟩:=hR.top hk;have b6:=j.u.2.2.top;have d7:=j.u.2.2.VJ;obtain⟨fl,fh,a7,_⟩:=b6;obtain⟨y,a5⟩:∃q,(Rf.top p).proc=q+1:=⟨(Rf.top p).proc-1,by omega⟩;rw[a5,zu,yq (show y < G ls by omega)]at a7;rw[a5,show ((y+1:Nat):Int)=(y:Int)+1 by omega]at c2;have i:y < G ls:=by omega
 have d5:IntKind.i64.wrap (k:Int)=k:=zl _ ⟨by omega,by omega⟩;have d8:(k:Int) < (k:Int)+1:=by omega
 have b0:XZ ls (Rf.top p).proc=ls[y].drop 2:=by rw[a5,XZ,zu,yq i]
 rw[b0]at f;have b9:=zD a7;have HR:=qG hR a6;clear hq f1 f2 f3 f4 b1 F hR a6 R a7 b7 b0 b4 c0 hk;go_wp2_with fail;generalize d4:w1.alloc (V (Hi xa xc ya yc za zc oa oc p) 72)=wa at *;have d6:(ls[y].drop 2).length<=1000:=by have:=(j.u.2.1.law.XO i).1;simp;omega
 have HG:=zD (show ∀W,Below wa.heap.size wa W->Calls Tryz.prog 117 #[H (Q ⟨Y.sb,0,Z⟩),J U ((y:Int)+1)] W fun e w'=>∃v,e=T v/\xA w' v (ls[y].drop 2)/\Below W.heap.size W w' from fun W hW=>Jd y ((j.u.1.src.zP HR.u.2).zP hW) i a1 b9.u (j.u.2.1.law.XO i).1);generalize ls[y].drop 2=ps at *;generalize w1.heap.size=N at *;go_region_held3 (fun w'=>w'.cell? ⟨C,0,Z⟩=Q (H (Q ⟨Y.sb,0,Z⟩))/\w'.cell? ⟨N,0,Z⟩=Q (I (Q ⟨b,o,Z⟩) (k+1) cp)/\w'.cell? ⟨b,o+k*3,Z⟩=Q (J U ((y:Int)+1))) (go_keep) (first
  | (go_at_call 117;refine(HG.u _ (zh _)).mono ?_;rintro e w2 ⟨pv,rfl,a4,a2⟩;have A:=yh a2;obtain⟨d3,d2,rfl,_⟩:=a4.form;have a8:=qG a4 A;have e0:=cell_later A d0;have e1:=cell_later A c1;have e2:=cell_later A c2;clear A a2 a4)
  | (go_at_call 116;refine(lr x a8.u.1 (by omega)).mono ?_;rintro e wx ⟨rfl,a9⟩;rw[a9];clear a9 wx));have b3:=HR.u.2.trans (a8.u.2.mono (B':=w.heap.size) HR.u.2.size);have D:=XX (j.u.1.src.zP b3) (HR.u.1.zP a8.u.2) b3;have a3:Hd (∀W,Below w2.heap.size w2 W->Calls Tryz.prog 118 #[H (Q ⟨Y.sb,0,Z⟩),H (Q ⟨N,0,Z⟩),O x] W fun e w'=>e=T (J U (Rf.value ls p x))/\Below W.heap.size W w'):=zD (fun W hW=>wK x (D.u.1.zP hW) j.u.2.1.law (D.u.2.1.zP hW) j.u.2.2);generalize Rf.index ps x=ix at *;generalize Rf.value ls p x=vl at *;by_cases hi:0<=ix
 case pos=>
  rw[zE hi]at f;have d9:¬ix < 0:=by omega
  go_wp2_with fail;refine(a3.u _ (zI _ _)).mono ?_;rintro e w3 ⟨rfl,z⟩;have HB:=zD (D.u.2.2.trans (z.mono (B':=w.heap.size) D.u.2.2.size));go_wp2;go_ret2;exact⟨by rw[f.u] <;> rfl,HB.u⟩
 case neg=>
  rw[zA hi]at f;go_wp2_with fail;refine(qg x D.u.1 j.u.2.1.law).mono ?_;rintro e w3 ⟨rfl,z⟩;have f0:=Qb ls x;have M:=D.u.2.2.trans (z.mono (B':=w.heap.size) D.u.2.2.size);have g0:=cell_later z e0;have HB:=qG z M;by_cases h0:Rf.decl ls x=0
  case pos=>
   rw[zE h0]at f;rw[h0];go_wp2;go_ret2;exact⟨by rw[f.u] <;> rfl,HB.u.2⟩
  case neg=>
   rw[zA h0]at f;obtain⟨d,hd⟩:∃d,Rf.decl ls x=d+1:=⟨Rf.decl ls x-1,by omega⟩;have b2:d < G ls:=by omega
   rw[hd,zu,yq b2]at f;rw[hd,show ((d+1:Nat):Int)=(d:Int)+1 by omega];have b8:=zD (xz d (D.u.1.zP HB.u.1) b2 a1);generalize Rf.first ls[d]=fs at *;go_wp2_with fail;refine b8.u.mono ?_;rintro e w4 ⟨rfl,M⟩;have L:=HB.u.1.trans (M.mono (B':=w2.heap.size) HB.u.1.size);have g1:=cell_later M g0;have a0:=qG L (D.u.2.2.trans (L.mono (B':=w.heap.size) D.u.2.2.size));cases hv:(fs.toList==[118,97,114])with
   | false=>
    rw[zA (by rw[hv];simp)]at f;go_wp2;go_ret2;exact⟨by rw[f.u] <;> rfl,a0.u.2⟩
   | true=>
    rw[zE hv]at f;go_wp2_with fail;refine(a3.u _ a0.u.1).mono ?_;rintro e w5 ⟨rfl,L⟩;have d1:=zD (a0.u.2.trans (L.mono (B':=w.heap.size) a0.u.2.size));go_wp2;go_ret2;exact⟨by rw[f.u] <;> rfl,d1.u⟩
end
section
variable {C:Nat} {zL:List Rt.PL} {ls:List Ib} {S:Rt.Src} {cap:Int} {len n low:Nat} {mk:List Bool} {Y:iQ}
theorem ccell_ref (h:vg w C zL ls S cap len n low mk Y) (hn:n<=len) (E:Rf.Env zL ls S (Rt.atM S n)) (x:Ia) (i:Int):Calls Tryz.prog 72 #[H (Q ⟨C,0,Z⟩),O x,J U i] w fun e w'=>e=T (.tuple #[J U (Rt.cellR S (Rt.atM S n) x i).1,J U (Rt.cellR S (Rt.atM S n) x i).2])/\Below w.heap.size w w':=by
 rw[<-celD_eq E x i];have b3:V9 ls (ZN zL S n):=E.ok;have f:Hd (celD ls (ZN zL S n) x i=_):=zD (by unfold celD;rfl);have c0:w.cell? ⟨C,0,Z⟩=Q (H (Q ⟨Y.sb,0,Z⟩)):=zC h.block 0 (by simp[Du]);have b8:=zD (AD h hn);have L:=XX h E b3;have a1:=E.law.len;have h2:=zQ h.block;show Calls _ _ _ _ fun e w'=>e=T (.tuple #[J U (celD ls (ZN zL S n) x i).1,J U (celD ls (ZN zL S n) x i).2])/\_;clear h E b3;generalize ZN zL S n=p at *;go_enter func72,ntmps72;go_wp2_with fail;refine b8.u.mono ?_;rintro e w1 ⟨hb1,X,_,hq,rfl⟩;obtain⟨xa,xc,ya,yc,za,zc,oa,oc,f1,f2,f3,f4⟩:=hq.ZX;have b2:jh X.fv X.vv X.cv X.ov p=(Hi xa xc ya yc za zc oa oc p):=by rw[f1,f2,f3,f4];rfl
 have M:=(zI w1.heap.size w1).alloc (zB _) (V (jh X.fv X.vv X.cv X.ov p) 72);have hR:=(((hq.zP hb1).zP M).val L.u.2.2.some (by have:=L.u.2.2.cells;omega)).at (zN w1 (V (jh X.fv X.vv X.cv X.ov p) 72));rw[b2]at M hR ⊢;have a6:=hb1.trans (M.mono (B':=w.heap.size) hb1.size);have d0:=cell_later a6 c0;have h1:¬C=w1.heap.size:=by have:=hb1.size;omega
 obtain⟨k,hk⟩:∃k,G p.zH=k+1:=⟨G p.zH-1,by have:=L.u.2.2.some;omega⟩;obtain⟨b,o,cp,av,c1,c2,c3,c4,d7⟩:=hR.top hk;have d5:=L.u.2.2.top;have d4:=L.u.2.2.VJ;obtain⟨fl,fh,a7,_⟩:=d5;obtain⟨A,a4⟩:∃q,(Rf.top p).proc=q+1:=⟨(Rf.top p).proc-1,by omega⟩;rw[a4,zu,yq (show A < G ls by omega)]at a7;rw[a4,show ((A+1:Nat):Int)=(A:Int)+1 by omega]at c2;have z:A < G ls:=by omega
 have f0:IntKind.i64.wrap ((k:Int)+1-1)=k:=by rw[show (k:Int)+1-1=(k:Int) by omega];exact zl _ ⟨by omega,by omega⟩
 have f5:IntKind.i64.wrap (k:Int)=k:=zl _ ⟨by omega,by omega⟩;have f9:(0:Int)<=(k:Int):=by omega
 have f8:(k:Int) < (k:Int)+1:=by omega
 have f7:(k:Int)<=1000:=by omega
 have b1:XZ ls (Rf.top p).proc=ls[A].drop 2:=by rw[a4,XZ,zu,yq z]
 rw[b1]at f;have d1:=zD a7;have HR:=qG hR a6;clear hq f1 f2 f3 f4 b2 M hR a6 hb1 a7 d7 b1 b8 c0 hk;go_wp2_with fail;generalize d3:w1.alloc (V (Hi xa xc ya yc za zc oa oc p) 72)=wa at *;clear d3;have f6:(ls[A].drop 2).length<=1000:=by have:=(L.u.2.1.law.XO z).1;simp;omega
 have HG:=zD (show ∀W,Below wa.heap.size wa W->Calls Tryz.prog 117 #[H (Q ⟨Y.sb,0,Z⟩),J U ((A:Int)+1)] W fun e w'=>∃v,e=T v/\xA w' v (ls[A].drop 2)/\Below W.heap.size W w' from fun W hW=>Jd A ((L.u.1.src.zP HR.u.2).zP hW) z a1 d1.u (L.u.2.1.law.XO z).1);generalize ls[A].drop 2=ps at *;generalize w1.heap.size=N at *;clear c3 c4 d1 d4 fl fh;go_region_held3 (fun w'=>w'.cell? ⟨C,0,Z⟩=Q (H (Q ⟨Y.sb,0,Z⟩))/\w'.cell? ⟨N,0,Z⟩=Q (I (Q ⟨b,o,Z⟩) (k+1) cp)/\w'.cell? ⟨b,o+k*3,Z⟩=Q (J U ((A:Int)+1))) (go_keep) (first
  | (go_at_call 117;refine(HG.u _ (zh _)).mono ?_;rintro e w2 ⟨pv,rfl,a3,a2⟩;have F:=yh a2;obtain⟨d9,d8,rfl,_⟩:=a3.form;have a8:=qG a3 F;have e0:=cell_later F d0;have e1:=cell_later F c1;have e2:=cell_later F c2;clear F a2 a3)
  | (go_at_call 116;refine(lr x a8.u.1 (by omega)).mono ?_;rintro e wx ⟨rfl,b0⟩;rw[b0];clear b0 wx));have a5:=HR.u.2.trans (a8.u.2.mono (B':=w.heap.size) HR.u.2.size);have HS:=XX (L.u.1.src.zP a5) (HR.u.1.zP a8.u.2) a5;clear a5;generalize Rf.index ps x=ix at *;clear e1 e2 d0 c1 c2;go_wp2_with fail;refine(qg x HS.u.1 L.u.2.1.law).mono ?_;rintro e w3 ⟨rfl,a0⟩;have d6:=Qb ls x;have D:=HS.u.2.2.trans (a0.mono (B':=w.heap.size) HS.u.2.2.size);have g0:=cell_later a0 e0;have HB:=qG a0 D;clear a0 D e0;by_cases hi:0<=ix
 case pos=>
  rw[zE (Or.inl hi)]at f;go_wp2;go_ret2;exact⟨by rw[f.u] <;> rfl,HB.u.2⟩
 case neg=>
  have g5:ix < 0:=by omega
  by_cases h0:Rf.decl ls x=0
  case pos=>
   rw[zE (Or.inr h0)]at f;rw[h0];go_wp2;go_ret2;exact⟨by rw[f.u] <;> rfl,HB.u.2⟩
  case neg=>
   rw[zA (by omega)]at f;obtain⟨d,hd⟩:∃d,Rf.decl ls x=d+1:=⟨Rf.decl ls x-1,by omega⟩;have b6:d < G ls:=by omega
   rw[hd,zu,yq b6]at f;rw[hd,show ((d+1:Nat):Int)=(d:Int)+1 by omega];have g6:((d:Int)+1==0)=false:=by rw[zV];omega
   have b9:=zD (xz d (HS.u.1.zP HB.u.1) b6 a1);have g9:=L.u.2.2.cells;clear h0 hd d6 hi;generalize Rf.first ls[d]=fs at *;go_wp2_with fail;refine b9.u.mono ?_;rintro e w4 ⟨rfl,D⟩;have R:=HB.u.1.trans (D.mono (B':=w2.heap.size) HB.u.1.size);have b7:=HS.u.2.1.zP R;have a9:=qG R (HS.u.2.2.trans (R.mono (B':=w.heap.size) HS.u.2.2.size));clear D R g0 b9;cases hv:(fs.toList==[97,114,114,97,121])with
   | false=>
    rw[zA (by rw[hv];simp)]at f;go_wp2;go_ret2;exact⟨by rw[f.u] <;> rfl,a9.u.2⟩
   | true=>
    rw[zE hv]at f;obtain⟨cb,co,cc,k2,kc⟩:=b7.cells;obtain⟨cv,ki,y⟩:=kc (d+1) (by omega);have b5:p.cells.getD (d+1) []=p.cells[d+1]:=by rw[xL,zJ (by omega)];rfl
    rw[b5]at f;obtain⟨ca,cq,rfl⟩:=y.form;have HI:=zD y;have g8:(0:Int)<=(d:Int)+1:=by omega
    have g7:(d:Int)+1 < (G p.cells:Int):=by omega
    clear y b7 kc b5;generalize p.cells[d+1]=cl at *;by_cases hb:i < 0\/(G cl:Int)<=i
    case pos=>
     rw[zE hb]at f;by_cases hb1:i < 0
     all_goals
      go_wp2;go_ret2;exact⟨by rw[f.u] <;> rfl,a9.u.2⟩
    case neg=>
     rw[zA hb]at f;obtain⟨j,rfl⟩:∃j:Nat,i=(j:Int):=⟨i.toNat,by omega⟩;have b4:j < G cl:=by omega
     obtain⟨ab,ao,ac,he,ci⟩:=HI.u.get b4;simp only[xJ,jH]at he;obtain⟨rfl,he⟩:=he;have g4:¬(j:Int) < 0:=by omega
     have g3:¬(G cl:Int)<=(j:Int):=by omega
     have g2:(j:Int) < (G cl:Int):=by omega
     have g1:(0:Int)<=(j:Int):=by omega
     have d2:Hd (celD ls p x j=(cl[j],0)):=zD (by rw[f.u,xS,xL,zJ b4];rfl);clear hb he f;generalize cl[j]=r at *;go_wp2;go_ret2;exact⟨by rw[d2.u] <;> rfl,a9.u.2⟩
end
section
variable {C:Nat} {zL:List Rt.PL} {ls:List Ib} {S:Rt.Src} {cap:Int} {len n low:Nat} {mk:List Bool} {Y:iQ}
theorem ccalls_ref (h:vg w C zL ls S cap len n low mk Y) (hn:n<=len) (E:Rf.Env zL ls S (Rt.atM S n)):Calls Tryz.prog 39 #[H (Q ⟨C,0,Z⟩)] w fun e w'=>Below w.heap.size w w'/\∃v,e=T v/\kA w' v (Rt.G9 (Rt.atM S n)):=by
 rw[<-callsD (zL:=zL) (Rt.atM S n)];obtain⟨i0,a2,W,R,O⟩:=yi XL;have y:V9 ls (ZN zL S n):=E.ok;have a5:=zD (AD h hn);show Calls _ _ _ _ fun e w'=>_/\∃v,e=T v/\kA w' v (((ZN zL S n).zH.drop 1).map Rf.Fr.call);have a6:=zD y;have a8:=y.VJ;have j:=y.some;generalize ZN zL S n=p at *;obtain⟨cl,A⟩:∃cl,cl=(p.zH.drop 1).map Rf.Fr.call:=⟨_,rfl⟩;rw[<-A];have HL:=zD (show G cl+1=G p.zH/\∀k,(hk:k+1 < G p.zH)->cl.take k++[p.zH[k+1].call]=cl.take (k+1) by
  subst A;refine⟨by simp;omega,fun k hk=>?_⟩;have:((p.zH.drop 1).map Rf.Fr.call)[k]?=Q p.zH[k+1].call:=by
   rw[yt,vp,show 1+k=k+1 by omega,zJ hk];rfl
  rw[kI,this];simp)
 clear A;go_enter func39,ntmps39;go_wp2_with fail;refine a5.u.mono ?_;rintro e w1 ⟨F,X,_,hq,rfl⟩;obtain⟨xa,xc,ya,yc,za,zc,oa,oc,f1,f2,f3,f4⟩:=hq.ZX;have a1:jh X.fv X.vv X.cv X.ov p=(Hi xa xc ya yc za zc oa oc p):=by rw[f1,f2,f3,f4];rfl
 have D:=(zI w1.heap.size w1).alloc (zB _) (V (jh X.fv X.vv X.cv X.ov p) 72);have hR:=(((hq.zP F).zP D).val j (by have:=a6.u.cells;omega)).at (zN w1 (V (jh X.fv X.vv X.cv X.ov p) 72));rw[a1]at D hR ⊢;have a3:=F.trans (D.mono (B':=w.heap.size) F.size);obtain⟨b,o,cp,c1,cf⟩:=hR.zH;have HR:=qG a3 cf;go_wp2_with fail;generalize a9:w1.alloc (V (Hi xa xc ya yc za zc oa oc p) 72)=wa at *;go_loopw [4,5] (fun v i wr=>∃k:Nat,k+1<=G p.zH/\i=J U ((k:Int)+1)/\wr.ownsRow wa.heap.size 3 1 v k (xR (cl.take k))/\Below wa.heap.size wa wr) (fun _ i _=>G p.zH+1-(intOf i).toNat)
 case atStart=>exact⟨0,by omega,rfl,zW _ _ _ _,zI _ _⟩
 case round=>
  obtain⟨k,hk,rfl,d,f⟩:=hrel;have a0:=f.size;obtain⟨a4,M,rfl⟩:=zK d;have c2:=cell_later f c1;by_cases hlt:k+1 < G p.zH
  ·obtain⟨av,_,_,hc,_⟩:=HR.u.2 (k+1) hlt;have k2:=cell_later f hc;have HT:=zD (HL.u.2 k hlt);generalize p.zH[k+1].call=q at *;have a7:((k:Int)+1) < (G p.zH:Int):=by omega
   go_wp2_with (at_builtin;refine xQ _ rfl _ _ 24 rfl wa.heap.size 3 i0 _ 1 8 underlying24 a2 W R O rfl (by decide) _ _ _ rfl (d.alloc _) ⟨_,0,Z⟩ 1 1 [J U q] rfl rfl (cell_one_new _ _ _) ?c2 ?c3 ?c4 ?c5 ?_)
   case c2=>intro u hu;simp at hu;rcases hu with rfl;rfl
   case c3=>unfold maxLen;omega
   case c4=>omega
   case c5=>simp;omega
   intro v' w3 x z _;have L:=qY f a0 d z;have N:=qG x L;go_wp2;go_roundw
   ·obtain⟨q2,q3⟩:=N.u;exact⟨k+1,by omega,by go_num,by rw[<-HT.u,xR,yB];exact q2,q3⟩
   ·simp[intOf];omega
  ·have N:=qG d f;have HE:=zD (show cl.take k=cl/\G cl=k from by
    have h1:=HL.u.1;exact⟨yw (by omega),by omega⟩)
   go_wp2;go_ret;refine⟨HR.u.1.trans (N.u.2.mono (B':=w.heap.size) HR.u.1.size),_,rfl,?_⟩;have h:=N.u.1;rw[HE.u.1]at h;have h3:kA wr (I a4 k M) cl:=by
    have e:=HE.u.2;subst e;exact YX h
   exact h3
end
theorem mCell_any (x:Ia) (n:Int) (h:jz w M B ty tail S m X) (f:dL S m):Calls Tryz.prog 119 #[H (Q ⟨M,0,Z⟩),O x,J U n] w fun e w'=>e=T (E #[J U (Rt.cellR S m x n).1,J U (Rt.cellR S m x n).2])/\Below w.heap.size w w':=by
 have k:(Rt.yA S.zL (Rt.qJ S m)).params.length<=1000:=aJ f.ZX (Rt.qJ S m);go_enter func119,ntmps119;go_wp2_with fail;refine(CF h).mono ?_;rintro e w1 ⟨rfl,j⟩;have G:=zD (show Rt.cellR S m x n=if ZW S.zL (Rt.qJ S m) x=true then (match Rt.kX S m x n with | some s=>(Rt.ZL m s,(0:Int))| none=>((0:Int),(9:Int)))else ((0:Int),(4:Int))from rfl);generalize Rt.qJ S m=pc at *;go_wp2_with fail;refine(isArray_v pc x (h.prog.zP j).v f.zL k).mono ?_;rintro e w2 ⟨rfl,F⟩;have d:=j.trans (F.mono j.size);have N:=h.zP d;clear j F k;cases hv:ZW S.zL pc x with
 | false=>
  have z:=zD (show Rt.cellR S m x n=(0,4) by rw[G.u,hv];rfl);have A:=zD d;clear h N f d hv G;go_wp2_with fail;refine zT (v:=E #[J U 0,J U 4]) ?_ rfl ⟨by rw[z.u],A.u⟩;simp[results,results119,go_sem]
 | true=>
  have z:=zD (show Rt.cellR S m x n=(match Rt.kX S m x n with | some s=>(Rt.ZL m s,(0:Int))| none=>((0:Int),(9:Int))) by rw[G.u,hv];rfl);have o:=XX N f d;clear h N f d hv G;go_wp2_with fail;refine(lU x n o.u.1 o.u.2.1).mono ?_;rintro e I ⟨rfl,i⟩;have A:=zD (o.u.2.2.trans (i.mono o.u.2.2.size));have L:=o.u.1.zP i;obtain⟨_,f,_⟩:=o.u;cases hsp:Rt.kX S m x n with
  | none=>
   rw[hsp]at z;clear hsp i L f o;unfold cellR;go_wp2_with fail;refine zT (v:=E #[J U 0,J U 9]) ?_ rfl ⟨by rw[z.u],A.u.alloc A.u.size _⟩;simp[results,results119,go_sem]
  | some sp=>
   rw[hsp]at z;have HG:=zD (fun (W:World) (hW:jz W M B ty tail S m X)=>nT sp hW f);have R:=zD L;clear hsp i L f o;simp only at z;generalize Rt.ZL m sp=gv at *;unfold cellR;go_wp2_with fail;have y:=(zI I.heap.size I).alloc (zB _) (V #[J U sp.line,J U sp.cell] 160);refine(HG.u _ (R.u.zP y)).mono ?_;rintro e w4 ⟨rfl,D⟩;have a0:=zD (A.u.trans ((y.trans (D.mono (B':=I.heap.size) (by simp))).mono A.u.size));clear y D;go_wp2_with fail;refine zT (v:=E #[J U gv,J U 0]) ?_ rfl ⟨by rw[z.u],a0.u⟩;simp[results,results119,go_sem]
theorem sCell_any {s:Se} (x:Ia) (n:Int) (h:Zv w P B S cap s X jv) (f:dL S s.m):Calls Tryz.prog 71 #[H (Q ⟨P,0,Z⟩),O x,J U n] w fun e w'=>e=T (E #[J U (Rt.cellR S s.m x n).1,J U (Rt.cellR S s.m x n).2])/\Below w.heap.size w w':=by
 have i:=zD (mCell_any x n h.mc f);clear h f;go_enter func71,ntmps71;go_wp2_with fail;refine i.u.mono ?_;rintro e w1 ⟨rfl,d⟩;have j:=zD d;clear d;go_wp2_with fail;refine zT (v:=E #[J U (Rt.cellR S s.m x n).1,J U (Rt.cellR S s.m x n).2]) ?_ rfl ⟨rfl,j.u⟩;simp[results,results71,go_sem]
theorem sOutput_any {s:Se} (h:Zv w P B S cap s X jv) (j:G s.m.output<=1000):Calls Tryz.prog 40 #[H (Q ⟨P,0,Z⟩)] w fun e w'=>Below w.heap.size w w'/\∃v,e=T v/\w'.ownsRow w.heap.size 3 1 v (G s.m.output) (xR s.m.output):=by
 go_enter func40,ntmps40;go_wp2_with fail;refine(IW h.mc j).mono ?_;rintro e w1 ⟨d,v,rfl,f⟩;have i:=qG d f;clear d f h;go_wp2;go_ret;exact⟨i.u.1,v,rfl,i.u.2⟩
section
variable {w:World} {s:mU}
theorem vf.env (h:vf w s):Rf.Env s.zL s.ls s.S (Rt.atM s.S s.n):=Rf.Y4 h.ctx (nU h.ctx h.Bb.Gc.input s.n h.Yo.ok.run)
theorem vf.qT (h:vf w s):XW s.S (Rt.atM s.S s.n):=h.Bb.Gc.qT s.n
theorem valued_ref (h:vf w s) (x:Ia):Calls Tryz.prog 36 #[H (Q ⟨s.q,0,Z⟩),O x] w fun e w'=>e=T (A D)/\Below w.heap.size w w':=by
 have y:=zD h;have F:w.cell? ⟨s.q,0,Z⟩=Q (H (Q ⟨s.P,0,Z⟩)):=zC h.pair 0 (by simp);have o:w.cell? ⟨s.q,1,Z⟩=Q (H (Q ⟨s.C,0,Z⟩)):=zC h.pair 1 (by simp);have k:=zD (sValue_any x h.Yo.Yo h.qT.Zi);have z:=zD (fun w1 (h1:vf w1 s)=>cvalue_ref h1.cur h1.le h1.env x);rw[show (XY s.S s.n s.low s.Yw).m=Rt.atM s.S s.n from rfl]at k;generalize Rt.Hf s.S (Rt.atM s.S s.n) x=r at *;go_enter func36,ntmps36;go_wp2_with fail;refine k.u.mono ?_;rintro e w1 ⟨rfl,d⟩;have G:=cell_later d o;have j:=zD d;go_wp2_with fail;refine(z.u w1 (y.u.zP j.u)).mono ?_;rintro e w2 ⟨rfl,f⟩;have i:=zD (j.u.trans (f.mono (B':=w.heap.size) j.u.size));go_wp2_with (go_at_call 20;refine(K3 r.2).mono ?_;rintro e w' ⟨rfl,rfl⟩)
 all_goals
  go_ret;exact⟨by first | rfl | simp,i.u⟩
theorem celled_ref (h:vf w s) (x:Ia) (i:Int):Calls Tryz.prog 37 #[H (Q ⟨s.q,0,Z⟩),O x,J U i] w fun e w'=>e=T (A D)/\Below w.heap.size w w':=by
 have z:=zD h;have G:w.cell? ⟨s.q,0,Z⟩=Q (H (Q ⟨s.P,0,Z⟩)):=zC h.pair 0 (by simp);have y:w.cell? ⟨s.q,1,Z⟩=Q (H (Q ⟨s.C,0,Z⟩)):=zC h.pair 1 (by simp);have o:=zD (sCell_any x i h.Yo.Yo h.qT.Zi);have F:=zD (fun w1 (h1:vf w1 s)=>ccell_ref h1.cur h1.le h1.env x i);rw[show (XY s.S s.n s.low s.Yw).m=Rt.atM s.S s.n from rfl]at o;generalize Rt.cellR s.S (Rt.atM s.S s.n) x i=r at *;go_enter func37,ntmps37;go_wp2_with fail;refine o.u.mono ?_;rintro e w1 ⟨rfl,d⟩;have I:=cell_later d y;have k:=zD d;go_wp2_with fail;refine(F.u w1 (z.u.zP k.u)).mono ?_;rintro e w2 ⟨rfl,f⟩;have j:=zD (k.u.trans (f.mono (B':=w.heap.size) k.u.size));go_wp2_with (go_at_call 20;refine(K3 r.2).mono ?_;rintro e w' ⟨rfl,rfl⟩)
 all_goals
  go_ret;exact⟨by first | rfl | simp,j.u⟩
end
section
variable {S:Nat} {pv lv:Value} {vs:List Value} {prs:List mU} {tag:Nat -> Nat}
def ListW (S:Nat) (pv:Value) (vs:List Value) (prs:List mU) (w:World) (e:Ending) (w':World):Prop:=e=T (A D)/\Below S w w'/\∃lv' vs' tag',WI w' S pv lv' vs' prs tag'/\G vs'<=G vs+1
theorem listW_ref {w0:World} (h:WI w0 S pv lv vs prs tag) (O:Below w0.heap.size w0 w) {v m:Value} {l:List Int} (j:w.ownsRow w0.heap.size 3 1 v (G l) (xR l)) (M:kA w m l) (hl:G l<=1000) (N:(G vs+2)*24<=140737488355328):Calls Tryz.prog 23 #[H (Q ⟨S,0,Z⟩),v,m] w (ListW S pv vs prs w):=by
 have R:=zQ h.lg.block;have W:=(h.FO (tag':=fun k=>if k < w0.heap.size then tag k else 0) (fun k hk=>zE hk)).zP O;have z:w.ownsRow (S+1) 3 1 v (G l) (xR l):=own_base j (fun g e=>by have:=(j.lt g e).1;omega);have f:∀k,v.ownBlock=Q k->w0.heap.size<=k:=fun k e=>(j.lt k e).1;have D:∀k (hk:k < G vs) g,vs[k].ownBlock=Q g->¬v.ownBlock=Q g:=fun k hk g e e2=>by
  have U:=(h.lg.lt k hk g e).2;have T:=f g e2;omega
 have x:=DA W z f D M;have HI:=zD (YX j);have hs:=O.size;obtain⟨ad,ca,rfl⟩:=zK j;obtain⟨md,mc,rfl⟩:=M.form;go_enter func23,ntmps23;go_wp2_with fail;refine(oB HI.u x.u.2.2.2.2 (by omega)).mono ?_;rintro e w1 ⟨rfl,i⟩;have L:=zD i;have F:=x.u.1.zP i;have A:=yG x.u.2.1 i;have d:=qG F A;go_wp2_with fail;refine(oT d.u.1.lg d.u.2 x.u.2.2.2.1 (by omega)).mono ?_;intro e w2 I;have o:=d.u.1.own d.u.2 (fun q e=>by
  have:=x.u.2.2.1 q e;rw[zA (by omega)]) I
 have J:=(L.u.mono (B':=S) (by omega)).trans I.2.1;obtain⟨rfl,_⟩:=I;have HF:=qG o J;go_wp2;go_ret;obtain⟨⟨y,V,tag',U,_⟩,T⟩:=HF.u;exact⟨rfl,T,y,vs++[V],tag',U,by simp⟩
end
theorem iI.stepW {S:Nat} (h:iI S w k) (d:rS) (I:5<=d.kind) (x:kA w d.v d.l) (M:-9223372036854775808<=d.a/\d.a<=9223372036854775807) (F:k<=2000000000000) (V:∀(w1:World) (pv lv:Value) (vs:List Value) (prs:List mU) (tag:Nat->Nat) (i:Nat) (x:i < G prs),WI w1 S pv lv vs prs tag->G vs<=2*k->Below w.heap.size w w1->Calls Tryz.prog 17 #[H (Q ⟨S,0,Z⟩),H (Q ⟨prs[i].q,0,Z⟩),iO d] w1 (bf S vs prs w1)):Calls Tryz.prog 10 #[H (Q ⟨S,0,Z⟩),iO d] w fun e w'=>e=T (A D)/\Below S w w'/\iI S w' (k+1):=by
 obtain⟨pv,lv,vs,prs,tag,J,z,O,N⟩:=h;have fin:∀(vs:List Value) (prs:List mU),G vs<=2*k->G prs<=k->(∀s∈prs,s.len<=1000*k)->∀e w',bf S vs prs w e w'->e=T (A D)/\Below S w w'/\iI S w' (k+1):=by
  rintro vs prs q1 W L e w' ⟨rfl,y,pv',o,j,f,tag',U,a2,a3,R⟩;exact⟨rfl,y,pv',o,j,f,tag',U,by omega,by omega,fun s hs=>by have:=R _ L s hs;omega⟩
 by_cases h0:prs=[]
 ·subst h0;exact(wR tag I J x).mono (fin vs [] z (by simp) (by simp))
 ·exact(Bu tag I J x (kO.mpr h0) (by omega) M (fun w1 i hi' hW y=>V w1 pv lv vs prs tag i hi' hW z y)).mono (fin vs prs z O N)
theorem ListW.step {S:Nat} {pv:Value} {vs:List Value} {prs:List mU} {w2:World} {e:Ending} (h:ListW S pv vs prs w1 e w2) (j:Below S w w1):bf S vs prs w e w2:=by
 obtain⟨i,o,f,d,tag',k,x⟩:=h;exact⟨i,j.trans o,pv,f,d,prs,tag',k,by omega,by omega,fun M hM s hs=>by have:=hM s hs;omega⟩
section
variable {S:Nat} {pv lv:Value} {vs:List Value} {prs:List mU} {tag:Nat -> Nat}
theorem session_calls (h:WI w S pv lv vs prs tag) (hi:i < G prs) (W:op.kind=10) (j:∃a n c,op.v=I a n c) (k:(G vs+2)*24<=140737488355328):Calls Tryz.prog 17 #[H (Q ⟨S,0,Z⟩),H (Q ⟨prs[i].q,0,Z⟩),iO op] w (bf S vs prs w):=by
 obtain⟨kd,R,N,M,L,ov,ol⟩:=op;simp only at W j;obtain⟨a,n,c,rfl⟩:=j;subst W;unfold iO;simp only;have y:=(zI w.heap.size w).alloc (zB _) (V #[J U 10,J U R,J U N,J U M,O L,I a n c] 32);have a0:=zQ h.lg.block;have hW:=h.zP y;have f:=hW.each i hi;have p0:=zC f.pair 0 (by simp);have F:=zC f.pair 1 (by simp);simp only[yQ,zv,yH]at p0 F;have z:=XX hW f y;have HS:=zD (sCalls_any f.Yo.Yo f.qT.Zi.zH f.qT.lo);have HD:=zD (fun w1 (h1:vf w1 prs[i])=>ccalls_ref h1.cur h1.le h1.env);rw[show (XY prs[i].S prs[i].n prs[i].low prs[i].Yw).m=Rt.atM prs[i].S prs[i].n from rfl]at HS;have D:(Rt.G9 (Rt.atM prs[i].S prs[i].n)).length<=1000:=by
  have:=f.qT.Zi.zH;unfold Rt.G9;simp;omega
 generalize Rt.G9 (Rt.atM prs[i].S prs[i].n)=cl at *;go_enter func17,ntmps17;go_wp2_with fail;refine HS.u.mono ?_;generalize w.alloc (V #[J U 10,J U R,J U N,J U M,O L,I a n c] 32)=wa at *;rintro e w1 ⟨x,v,rfl,j⟩;obtain⟨a2,a1,rfl⟩:=zK j;have d1:=cell_later x F;have A:=qG x j;go_wp2_with fail;refine(HD.u w1 (z.u.2.1.zP A.u.1)).mono ?_;rintro e w2 ⟨o,m,rfl,T⟩;obtain⟨a4,a3,rfl⟩:=T.form;have d:=XX (A.u.1.trans (o.mono (B':=wa.heap.size) A.u.1.size)) (yG A.u.2 o) T;go_wp2_with fail;refine(listW_ref z.u.1 d.u.1 d.u.2.1 d.u.2.2 D k).mono ?_;intro e w3 hL;have hF:=hL.step ((z.u.2.2.mono (B':=S) (by omega)).trans (d.u.1.mono (B':=S) (by have:=z.u.2.2.size;omega)));obtain⟨rfl,_⟩:=hL;have HF:=zD hF;go_wp2;go_ret;exact HF.u
theorem session_output (h:WI w S pv lv vs prs tag) (hi:i < G prs) (hk:op.kind=11) (y:∃a n c,op.v=I a n c) (A:(G vs+2)*24<=140737488355328):Calls Tryz.prog 17 #[H (Q ⟨S,0,Z⟩),H (Q ⟨prs[i].q,0,Z⟩),iO op] w (bf S vs prs w):=by
 obtain⟨kd,oa,ob,oc,os,ov,ol⟩:=op;simp only at hk y;obtain⟨a,n,c,rfl⟩:=y;subst hk;unfold iO;simp only;have L:=(zI w.heap.size w).alloc (zB _) (V #[J U 11,J U oa,J U ob,J U oc,O os,I a n c] 32);have a1:=zQ h.lg.block;have hW:=h.zP L;have k:=hW.each i hi;have p0:=zC k.pair 0 (by simp);have p1:=zC k.pair 1 (by simp);simp only[yQ,zv,yH]at p0 p1;have N:=XX hW k L;have HS:=zD (sOutput_any k.Yo.Yo k.qT.Zi.output);have HD:=zD (fun w1 (h1:vf w1 prs[i])=>AD h1.cur h1.le);have W:V9 prs[i].ls (ZN prs[i].zL prs[i].S prs[i].n):=k.env.ok;rw[show (XY prs[i].S prs[i].n prs[i].low prs[i].Yw).m.output=(ZN prs[i].zL prs[i].S prs[i].n).out from rfl]at HS;have a0:(ZN prs[i].zL prs[i].S prs[i].n).out.length<=1000:=k.qT.Zi.output;generalize ZN prs[i].zL prs[i].S prs[i].n=p at *;have M:=zD W;go_enter func17,ntmps17;go_wp2_with fail;refine HS.u.mono ?_;generalize w.alloc (V #[J U 11,J U oa,J U ob,J U oc,O os,I a n c] 32)=wa at *;rintro e w1 ⟨F,v,rfl,y⟩;obtain⟨a3,a2,rfl⟩:=zK y;have d1:=cell_later F p1;have R:=qG F y;go_wp2_with fail;refine(HD.u w1 (N.u.2.1.zP R.u.1)).mono ?_;rintro e w2 ⟨j,X,_,hq,rfl⟩;obtain⟨xa,xc,ya,yc,za,zc,x,o,f1,f2,f3,f4⟩:=hq.ZX;have T:jh X.fv X.vv X.cv X.ov p=#[I xa (G p.zH) xc,I ya (G p.vars) yc,I za (G p.cells) zc,J U p.read,I x (G p.out) o,J U p.line,J U p.fin]:=by rw[f1,f2,f3,f4];rfl
 have f:=(zI w2.heap.size w2).alloc (zB _) (V (jh X.fv X.vv X.cv X.ov p) 72);have hR:=(((hq.zP j).zP f).val M.u.some (by have:=M.u.cells;omega)).at (zN w2 (V (jh X.fv X.vv X.cv X.ov p) 72));rw[T]at f hR ⊢;obtain⟨ov,o1,z⟩:=hR.out;obtain⟨a5,a4,rfl⟩:=z.form;have D:=j.trans (f.mono (B':=w1.heap.size) j.size);have d:=XX (R.u.1.trans (D.mono (B':=wa.heap.size) R.u.1.size)) (yG R.u.2 D) z;go_wp2_with fail;generalize w2.alloc (V #[I xa (G p.zH) xc,I ya (G p.vars) yc,I za (G p.cells) zc,J U p.read,I x (G p.out) o,J U p.line,J U p.fin] 72)=wb at *;refine(listW_ref N.u.1 d.u.1 d.u.2.1 d.u.2.2 a0 A).mono ?_;intro e w3 hL;have hF:=hL.step ((N.u.2.2.mono (B':=S) (by omega)).trans (d.u.1.mono (B':=S) (by have:=N.u.2.2.size;omega)));obtain⟨rfl,_⟩:=hL;have HF:=zD hF;go_wp2;go_ret;exact HF.u
end
theorem session_value {S:Nat} (h:vf w s) (k:op.kind=8) (o:∃a n c,op.v=I a n c):Calls Tryz.prog 17 #[H (Q ⟨S,0,Z⟩),H (Q ⟨s.q,0,Z⟩),iO op] w fun e w'=>e=T (A D)/\∃s',YJ s s' w w':=by
 obtain⟨L,z,y,x,j,ov,G⟩:=op;simp only at k o;obtain⟨a,n,c,rfl⟩:=o;subst k;unfold iO;simp only;have f:=(zI w.heap.size w).alloc (zB _) (V #[J U 8,J U z,J U y,J U x,O j,I a n c] 32);have i:=qG h f;clear h f;go_enter func17,ntmps17;go_wp2_with fail;refine(valued_ref (i.u.1.zP i.u.2) j).mono ?_;rintro e w1 ⟨rfl,d⟩;have F:=zD (YJ.below i.u.1 (i.u.2.trans (d.mono i.u.2.size)));clear d;go_wp2;go_ret;exact⟨rfl,_,F.u⟩
theorem session_cell {S:Nat} (h:vf w s) (o:op.kind=9) (x:∃a n c,op.v=I a n c):Calls Tryz.prog 17 #[H (Q ⟨S,0,Z⟩),H (Q ⟨s.q,0,Z⟩),iO op] w fun e w'=>e=T (A D)/\∃s',YJ s s' w w':=by
 obtain⟨L,z,k,y,j,ov,G⟩:=op;simp only at o x;obtain⟨a,n,c,rfl⟩:=x;subst o;unfold iO;simp only;have f:=(zI w.heap.size w).alloc (zB _) (V #[J U 9,J U z,J U k,J U y,O j,I a n c] 32);have i:=qG h f;clear h f;go_enter func17,ntmps17;go_wp2_with fail;refine(celled_ref (i.u.1.zP i.u.2) j k).mono ?_;rintro e w1 ⟨rfl,d⟩;have F:=zD (YJ.below i.u.1 (i.u.2.trans (d.mono i.u.2.size)));clear d;go_wp2;go_ret;exact⟨rfl,_,F.u⟩
end
section
open Go.RowKit
namespace Rf
theorem IM:∀(texts:Ib) (i:Nat) (acc:List Ib),(formsFrom i texts acc).2.length<=G acc+G texts
 | [],i,acc=>by simp[formsFrom]
 | t::r,i,acc=>by
  rw[formsFrom];cases Rt.yY t with
  | none=>simp
  | some ts=>
   simp only;split
   ·have:=IM r (i+1) (acc++[tx ts]);simp at this ⊢;omega
   ·simp
theorem readR_len (s:Ia):(vP s).2.2.length<=100:=by
 unfold vP;split
 ·simp
 ·split
  ·simp
  ·rename_i h2;split
   ·simp
   ·unfold Xu;split
    ·simp
    ·split
     ·simp
     ·unfold jV;split
      ·simp
      ·split
       ·simp
       ·have:=IM (Rt.lines s) 0 [];simp at this ⊢;omega
theorem IJ (ls:List Ib):∀f k (acc:List Nat),(stopsFrom ls f k acc).length<=G acc+f
 | 0,k,acc=>by simp[stopsFrom]
 | f+1,k,acc=>by
  rw[stopsFrom];have:=IJ ls f (k+1) (if xx ls k (xU ls k)=D then acc++[k+1]else acc);split at this
  ·rename_i h;rw[zE h];simp at this;omega
  ·rename_i h;rw[zA h];omega
def Hk (s:Ia):List Int:=if (vP s).1=0 then (stops (vP s).2.2).map (fun n:Nat=>(n:Int))else []
theorem stopList_len (s:Ia):(Hk s).length<=100:=by
 unfold Hk;split
 ·have d:=IJ (vP s).2.2 (vP s).2.2.length 0 [];have f:=readR_len s;simp[stops]at d ⊢;omega
 ·simp
end Rf
def StopsBoth (s:Ia) (w:World) (e:Ending) (w':World):Prop:=Below w.heap.size w w'/\∃v,e=T (E #[v,J U (vP s).1,J U (vP s).2.1])/\w'.ownsRow w.heap.size 3 1 v (Hk s).length (ints (Hk s))
theorem Stops_both (s:Ia) (j:s.size<=maxLen):Calls Tryz.prog 22 #[O s] w (StopsBoth s w):=by
 refine(Stops_ref s w j).mono ?_;rintro e w' ⟨f,(⟨d,rfl⟩| ⟨d,v,rfl,i⟩)⟩
 ·refine⟨f,_,rfl,?_⟩;rw[Hk,zA d];exact zW _ _ _ _
 ·refine⟨f,v,?_,?_⟩
  ·have o:(vP s).2.1=0:=by
    have:∀r:Int×Int×List Ib,r=vP s->r.1=0->r.2.1=0:=by
     intro r k h;subst k;unfold vP at h ⊢;split
     ·rfl
     ·rename_i q;rw[zA q]at h;split
      ·rfl
      ·rename_i q;rw[zA q]at h;split
       ·rename_i q;rw[zE q]at h;simp at h
       ·rename_i q;rw[zA q]at h;unfold Xu at h ⊢;split
        ·rename_i q;rw[zE q]at h;simp at h
        ·rename_i q;rw[zA q]at h;split
         ·rename_i q;rw[zE q]at h;simp at h
         ·rename_i q;rw[zA q]at h;unfold Rf.jV at h ⊢;split
          ·rfl
          ·split
           ·rfl
           ·rfl
    exact this _ rfl d
   rw[d,o]
  ·rw[Hk,zE d];have y:((Rf.stops (vP s).2.2).map (fun n:Nat=>(n:Int))).length=(Rf.stops (vP s).2.2).length:=by simp
   have x:ints ((Rf.stops (vP s).2.2).map (fun n:Nat=>(n:Int)))=(Rf.stops (vP s).2.2).map iv:=by simp[ints,iv]
   rw[y,x];exact i
structure Hh (w:World) (P B:Nat) (zL:List Rt.PL) (lv:Value) (cs:List (List Value)):Prop where
 block:w.heap[P]?=some (.cells #[lv] 76 (0,0))
 own:w.ownsRow B 145 12 lv zL.length cs.flatten
 lines:ja w B zL cs
theorem Hh.zP (h:Hh w P B zL lv cs) (d:Below w.heap.size w w'):Hh w' P B zL lv cs:=
 ⟨zU h.block d,yG h.own d,(xZ d).lines _ _ h.lines⟩
theorem Hh.v (h:Hh w P B zL lv cs):Hg w P B zL lv cs:=⟨zQ h.block,zC h.block 0 (by simp),h.own,h.lines⟩
theorem prog_grownr {o:Obj} (h:Hh w P B zL lv cs) (hg:(w.alloc o).grownBy w1 row) (y:∀x,row=Q x->∃c,w.heap[x]?=Q (V c t (0,0))) (ht:t≠76/\t≠145/\t≠188/\t≠9/\t≠236/\t≠140):Hh w1 P B zL lv cs:=by
 obtain⟨U,T,R,O,H,N⟩:=ht;have f:∀(k:Nat) (x:Obj),w.heap[k]?=Q x->(∀c,x≠V c t (0,0))->w1.heap[k]?=Q x:=by
  intro k x I Z;refine QW hg I (fun e=>?_);obtain⟨c,F⟩:=y k e;rw[I]at F;simp at F;exact Z c F
 have j:∀(B:Nat) (t':TypeId) (size n:Nat) (v:Value) (xs:List Value),t'≠t->w.ownsRow B t' size v n xs->w1.ownsRow B t' size v n xs:=by
  intro B t' size n v xs A hv;obtain⟨G,h2⟩:=hv;refine⟨G,?_⟩;rcases h2 with h2 | ⟨g,cap,cur,z,D,hh,rr⟩
  ·exact Or.inl h2
  ·exact Or.inr ⟨g,cap,cur,z,D,f g _ hh (fun c e=>by simp at e;exact A e.2),rr⟩
 have i:∀{v:Array Value} {fm:Rt.qS},qk w B v fm->qk w1 B v fm:=by
  intro v fm hf;obtain⟨W,iv,vv,M,rfl,G,h2,h3,h4⟩:=hf;exact⟨W,iv,vv,M,rfl,j _ _ _ _ _ _ (xK O) G,j _ _ _ _ _ _ (xK H) h2,j _ _ _ _ _ _ (xK N) h3,qi.map (fun x o hh=>j _ _ _ _ _ _ (xK H) hh) _ _ h4⟩
 have d:∀ps cs,ja w B ps cs->ja w1 B ps cs:=by
  intro ps
  induction ps with
  | nil=>intro cs h;cases cs with
   | nil=>trivial
   | cons _ _=>exact h.elim
  | cons p ps ih=>intro cs h;cases cs with
   | nil=>exact h.elim
   | cons c cs=>
    obtain⟨⟨tv,fv,L,J,e,g1,g2⟩,h2⟩:=h;exact⟨⟨tv,fv,L,J,e,j _ _ _ _ _ _ (xK R) g1,i g2⟩,ih cs h2⟩
 exact⟨f P _ h.block (fun c e=>by simp at e;exact U e.2.symm),j _ _ _ _ _ _ (xK T) h.own,d _ _ h.lines⟩
theorem progStops_r (h:Hh w P B zL lv cs) (a5:G zL<=101):Calls Tryz.prog 47 #[H (Q ⟨P,0,Z⟩)] w fun e w'=>Below w.heap.size w w'/\∃v,e=T v/\w'.ownsRow w.heap.size 3 1 v (Rt.IA zL).length ((Rt.IA zL).map (Value.int U)):=by
 obtain⟨i0,a4,a2,a1,a0⟩:=yi infoIntP;have a7:=zQ h.block;go_enter func47,ntmps47;go_wp2_with fail;go_loopw [3,4] (fun v i wr=>∃(k:Nat) (acc:List Int),1<=k/\k<=G zL+1/\i=J U k/\G acc<=k/\Rt.stopsFrom zL k (zL.drop k) acc=Rt.IA zL/\Hh wr P B zL lv cs/\wr.ownsRow w.heap.size 3 1 v (G acc) (acc.map (Value.int U))/\Below w.heap.size w wr)
  (fun _ i _=>G zL+1-(intOf i).toNat)
 case atStart=>exact⟨1,[],zB _,by omega,rfl,by simp,rfl,h,zW _ _ _ _,zI _ _⟩
 case round=>
  clear h;obtain⟨k,acc,b0,hk,rfl,a6,hT,y,d,A⟩:=hrel;have V:=zD hT;clear hT;have a3:=A.size;obtain⟨b3,a9,O,cP⟩:=y.v.Q3;obtain⟨b2,a8,rfl⟩:=zK d;by_cases hlt:k < G zL
  ·have R:(k:Int) < (G zL:Int):=by omega
   have b1:(0:Int)<=(k:Int):=by omega
   have HP:=zD (QQ hlt);have W:Hd (Rt.stopsFrom zL (k+1) (zL.drop (k+1)) (if Rt.xV zL zL[k]=D then acc++[(k:Int)]else acc)=Rt.IA zL):=by
    refine zD ?_;rw[<-V.u,zZ hlt,Rt.stopsFrom]
   clear O V;generalize zL[k]=p at *;go_wp2_with fail;refine(isStop_v (k:Int) y.v).mono ?_;rintro e w2 ⟨rfl,F⟩;rw[HP.u];have o:=y.zP F;have hown2:=yG d F;have f:=A.trans (F.mono (B':=w.heap.size) a3);have N:=f.size;clear y d A F;cases hv:Rt.xV zL p with
   | true=>
    rw[hv]at W;clear hv;go_wp2_with (at_builtin;refine xQ _ rfl _ _ 24 rfl w.heap.size 3 i0 _ 1 8 underlying24 a4 a2 a1 a0 rfl (by decide) _ _ _ rfl (hown2.alloc _) ⟨_,0,Z⟩ 1 1 [J U k] rfl rfl (cell_one_new _ _ _) ?c2 ?c3 ?c4 ?c5 ?_)
    case c2=>intro u hu;simp at hu;rcases hu with rfl;rfl
    case c3=>unfold maxLen;omega
    case c4=>omega
    case c5=>simp;omega
    intro v' w3 z j _;have L:=qY f N hown2 j;have I:Hh w3 P B zL lv cs:=prog_grownr (t:=3) o j (fun x hx=>by
     rcases hown2.2 with⟨h',_⟩| ⟨g',_,cur,h',_,hh,_⟩
     ·rw[h']at hx;cases hx
     ·rw[h']at hx;simp[Value.ownBlock]at hx;subst hx;exact⟨_,hh⟩) (by decide)
    have M:=XX I z L;clear I z L j o hown2 f;go_wp2;go_roundw
    ·obtain⟨q1,q2,q3⟩:=M.u;exact⟨k+1,acc++[(k:Int)],by omega,by omega,by go_num,by simp;omega,by have:=W.u;simpa using this,q1,by simpa using q2,q3⟩
    ·simp[intOf];omega
   | false=>
    rw[hv]at W;clear hv;have M:=XX o hown2 f;clear o hown2 f;go_wp2;go_roundw
    ·obtain⟨q1,q2,q3⟩:=M.u;exact⟨k+1,acc,by omega,by omega,by go_num,by omega,by have:=W.u;simpa using this,q1,q2,q3⟩
    ·simp[intOf];omega
  ·have R:¬(k:Int) < (G zL:Int):=by omega
   have HE:Hd (acc=Rt.IA zL):=by
    refine zD ?_;have:=V.u;rw[zp (by omega),Rt.stopsFrom]at this;exact this
   have M:=qG d A;clear y d A V O;go_wp2;go_ret;exact⟨M.u.2,_,rfl,by rw[<-HE.u];exact M.u.1⟩
def StopsP (s:Ia) (w:World) (e:Ending) (w':World):Prop:=
  Below w.heap.size w w'/\∃er ln zL,Rt.qx s=(er,ln,zL)/\
    ((¬er=0/\e=T (E #[zg,J U er,J U ln]))\/
     (er=0/\ln=0/\∃v,e=T (E #[v,J U 0,J U 0])/\w'.ownsRow w.heap.size 3 1 v (Rt.IA zL).length ((Rt.IA zL).map (Value.int U))))
theorem stops_any (s:Ia) (w:World) (U:s.size<=maxLen):Calls Tryz.prog 21 #[O s] w (StopsP s w):=by
 go_enter func21,ntmps21;go_wp2_with fail;refine(read_any s U).mono ?_;rintro e w1 ⟨f,M,T,zL,A,(⟨k,rfl⟩| ⟨rfl,rfl,y,lv,cs,rfl,h,d⟩)⟩
 ·have J:=zD A;have HB:=zD (f.alloc f.size (V #[zg] 76));have Z:=zD k;have L:(M != 0)=D:=by simpa using k
  clear A f k;go_wp2;go_ret3;exact⟨HB.u,M,T,zL,J.u,Or.inl ⟨Z.u,rfl⟩⟩
 ·have J:=zD A;obtain⟨o,i,rfl⟩:=zK h;have j:=(zI w1.heap.size w1).alloc (zB _) (V #[I o (G zL) i] 76);have x:Hh (w1.alloc (V #[I o (G zL) i] 76)) w1.heap.size w.heap.size zL (I o (G zL) i) cs:=⟨zN w1 _,yG h j,(xZ j).lines _ _ d⟩;have H:=f.size;clear A h d;go_wp2_with fail;refine(progStops_r x y).mono ?_;rintro e w3 ⟨z,v,rfl,F⟩;have R:=qG (f.trans ((j.mono (B':=w.heap.size) H).trans (z.mono (B':=w.heap.size) (by simp;omega)))) (yn (b':=w.heap.size) F (by simp;omega));obtain⟨W,N,rfl⟩:=zK F;clear f j x z F;go_wp2;go_ret3;exact⟨R.u.1,0,0,zL,J.u,Or.inr ⟨rfl,rfl,_,rfl,R.u.2⟩⟩
theorem stops_both (s:Ia) (o:s.size<=maxLen):Calls Tryz.prog 21 #[O s] w (StopsBoth s w):=by
 refine(stops_any s w o).mono ?_;rintro e w' ⟨k,z,y,zL,x,h⟩;obtain⟨d,f,j⟩:=eR s;rw[x]at d f j;simp only at d f j;rcases h with⟨h1,rfl⟩| ⟨rfl,rfl,v,rfl,hv⟩
 ·refine⟨k,zg,by rw[d,f],?_⟩;rw[Hk,zA (by rw[<-d];exact h1)];exact zW _ _ _ _
 ·refine⟨k,v,by rw[<-d,<-f],?_⟩;rw[Hk,zE d.symm];have i:=stops_same (j rfl);rw[i]at hv;exact hv
namespace Rt
theorem G7 {a b:Ia}:byteCells (a++b)=byteCells a++byteCells b:=by
 unfold byteCells;rw[ByteArray.data_append,Array.toList_append,yB]
end Rt
theorem infoByte:(Tryz.prog.info? 5).map (fun i=>(i.zero,i.size,i.bytes))=Q (Q (J .u8 0),1,1):=by kernel_rfl
theorem IY {pl:Rt.PL} {a0:Option Addr} (a1 a2 a3:Option Addr) {c0:Nat} (c1 c2 c3:Nat) (xe xf:Int) (y:w.ownsRow B 188 2 (I a0 (G pl.yY) c0) (G pl.yY) (qa pl.yY)) (f3:G pl.yY<=1000) (b5:∀t∈pl.yY,t.text.size<=40000) (f8:pl.depth<=1000):Calls Tryz.prog 78 #[L #[I a0 (G pl.yY) c0,J U pl.form.kind,O pl.form.name,J U pl.form.cells,I a1 (G pl.form.params) c1,I a2 (G pl.form.index) c2,I a3 (G pl.form.values) c3,J U pl.depth,J U pl.opener,J U xe,J U xf,J U pl.proc]] w fun e w'=>e=T (O (Rt.Hc pl))/\Below w.heap.size w w':=by
 obtain⟨i0,a9,a8,a7,a6⟩:=yi infoByte;by_cases h0:G pl.yY=0
 ·have HE:=zD (show Rt.Hc pl=⟨#[]⟩ by unfold Rt.Hc;rw[zE h0]);have HB:=zD ((zI w.heap.size w).alloc (zB _) (V #[I a0 (G pl.yY) c0,J U pl.form.kind,O pl.form.name,J U pl.form.cells,I a1 (G pl.form.params) c1,I a2 (G pl.form.index) c2,I a3 (G pl.form.values) c3,J U pl.depth,J U pl.opener,J U xe,J U xf,J U pl.proc] 145));clear y b5;have d7:((G pl.yY:Int)==0)=D:=by simpa using h0
  clear h0;go_enter func78,ntmps78;go_wp2;go_ret;exact⟨by rw[HE.u];rfl,HB.u⟩
 ·have HE:=zD (show Rt.Hc pl=Rt.Hl (Rt.spP ⟨#[]⟩ pl.depth.toNat) pl.yY (G pl.yY) by unfold Rt.Hc;rw[zA h0]);have d7:((G pl.yY:Int)==0)=W:=by simpa using h0
  have b0:=(zI w.heap.size w).alloc (zB _) (V #[I a0 (G pl.yY) c0,J U pl.form.kind,O pl.form.name,J U pl.form.cells,I a1 (G pl.form.params) c1,I a2 (G pl.form.index) c2,I a3 (G pl.form.values) c3,J U pl.depth,J U pl.opener,J U xe,J U xf,J U pl.proc] 145);have F:=yG y b0;have h:=zN w (V #[I a0 (G pl.yY) c0,J U pl.form.kind,O pl.form.name,J U pl.form.cells,I a1 (G pl.form.params) c1,I a2 (G pl.form.index) c2,I a3 (G pl.form.values) c3,J U pl.depth,J U pl.opener,J U xe,J U xf,J U pl.proc] 145);have d5:=zD b5;clear y b5;have d6:0 < G pl.yY:=by omega
  obtain⟨g,f5,b9,_,b8,_⟩:=yD F (Y9 pl.yY 0 d6).1;simp only[xJ,jH]at b9;obtain⟨rfl,rfl⟩:=b9;have f7:=F.frozenAt;generalize d3:(w.alloc (V #[I (Q ⟨g,0,Z⟩) (G pl.yY) c0,J U pl.form.kind,O pl.form.name,J U pl.form.cells,I a1 (G pl.form.params) c1,I a2 (G pl.form.index) c2,I a3 (G pl.form.values) c3,J U pl.depth,J U pl.opener,J U xe,J U xf,J U pl.proc] 145))=W0 at b0 F h b8;have d9:=zD d3;have hM:w.heap.size < W0.heap.size:=zQ h;have HK:=XX F h b0;clear h F d3 b0;go_enter func78,ntmps78;go_wp2_with fail;rw[d9.u];go_loopw [3,4] (fun v i wr=>∃k:Nat,k<=pl.depth.toNat/\i=J U k/\wr.ownsRow W0.heap.size 5 1 v (Rt.spP ⟨#[]⟩ k).size (byteCells (Rt.spP ⟨#[]⟩ k))/\Below W0.heap.size W0 wr)
   (fun _ i _=>pl.depth.toNat+1-(intOf i).toNat)
  case atStart=>exact⟨0,by omega,rfl,zW _ _ _ _,zI _ _⟩
  case round=>
   obtain⟨k,hk,rfl,hown,hbe⟩:=hrel;have hsz:=hbe.size;have h:=zU HK.u.2.1 hbe;have c7:=zC h 7 (by simp);simp only[yQ,yH,zv]at c7;have HS:=zD (spP_size ⟨#[]⟩ k);obtain⟨d4,b4,rfl⟩:=zK hown;by_cases hkd:k < pl.depth.toNat
   ·have M:(k:Int) < pl.depth:=by omega
    clear h;go_wp2_with (at_builtin;refine G6 _ rfl _ _ 135 9 rfl W0.heap.size 5 i0 _ underlying135 underlying9 a9 a8 a7 a6 rfl _ _ _ rfl hown ⟨#[32,32]⟩ rfl ?c1 ?c2 ?_)
    case c1=>have:=HS.u;rw[this];show 0+2*k+2<=_;omega
    case c2=>exact hsz
    intro v' w3 d f;have o:=hbe.grown f hsz (fun j hj=>(hown.lt j hj).1);have HF:=qG d o;clear d o f hown hbe;go_wp2;go_roundw
    ·obtain⟨q2,q3⟩:=HF.u;exact⟨k+1,by omega,by go_num,by rw[Rt.spP,G7,ByteArray.size_append];exact q2,q3⟩
    ·simp[intOf];omega
   ·have M:¬(k:Int) < pl.depth:=by omega
    have a5:k=pl.depth.toNat:=by omega
    have HF:=qG hown hbe;have b6:=zD a5;clear h hown hbe hkd hk a5;go_wp2_with fail;clear M c7;have hown:=HF.u.1;have hbe:=HF.u.2;have b1:Hd ((Rt.spP ⟨#[]⟩ k).size<=2000):=zD (by have:=HS.u;rw[this,b6.u];show 0+_<=_;omega);clear HS HF;have f2:Hd (Rt.Hc pl=Rt.Hl (Rt.spP ⟨#[]⟩ k) pl.yY (G pl.yY)):=zD (by rw[HE.u,b6.u]);clear HE b6;generalize Rt.spP ⟨#[]⟩ k=out at *;go_loopw [3,5] (fun v i wr=>∃k:Nat,k<=G pl.yY/\i=J U k/\wr.ownsRow W0.heap.size 5 1 v (Rt.Hl out pl.yY k).size (byteCells (Rt.Hl out pl.yY k))/\Below W0.heap.size W0 wr)
     (fun _ i _=>G pl.yY+1-(intOf i).toNat)
    case atStart=>exact⟨0,by omega,rfl,hown,hbe⟩
    case round=>
     clear hown hbe hsz;obtain⟨k,hk,rfl,hown,hbe⟩:=hrel;have hsz:=hbe.size;have h:=zU HK.u.2.1 hbe;have c0:=zC h 0 (by simp);simp only[yQ,zv]at c0;have y:=yG HK.u.1 hbe;have HS:=zD (tokP_size d5.u out k hk);obtain⟨d4,b4,rfl⟩:=zK hown;clear h;by_cases hkd:k < G pl.yY
     ·have M:(k:Int) < (G pl.yY:Int):=by omega
      have f6:(0:Int)<=(k:Int):=by omega
      have hx:=d5.u _ (zj hkd);have hT:Rt.Hl out pl.yY (k+1)=(if 0 < k then Rt.Hl out pl.yY k++⟨#[32]⟩else Rt.Hl out pl.yY k)++pl.yY[k].text:=by
       rw[Rt.Hl,zJ hkd];rfl
      have HT:=zD hT;have HX:=zD hx;clear hT hx;obtain⟨g1,q1,A,_,_,d0⟩:=yD y (Y9 pl.yY k hkd).1;obtain⟨g2,q2,z,_,_,d1⟩:=yD y (Y9 pl.yY k hkd).2;simp only[xJ,zx,Z9,jH,jJ]at A z;obtain⟨rfl,A⟩:=A;obtain⟨rfl,z⟩:=z;clear A z;generalize b2:pl.yY[k]=tk at *;have f0:=zD b2.symm;clear b2;by_cases hkp:0 < k
      ·have b7:(0:Int) < (k:Int):=by omega
       rw[zE hkp]at HT;go_wp2_with (at_builtin;refine xQ _ rfl _ _ 135 rfl W0.heap.size 5 i0 _ 1 1 underlying135 a9 a8 a7 a6 rfl (by decide) _ _ _ rfl (hown.alloc _) ⟨_,0,Z⟩ 1 1 [J .u8 32] rfl rfl (cell_one_new _ _ _) ?c2 ?c3 ?c4 ?c5 ?_)
       case c2=>first | rfl | (intro u hu;simp at hu;rcases hu with rfl;rfl)
       case c3=>have:=HS.u;have:=b1.u;have:=HX.u;unfold maxLen;omega
       case c4=>have:=HS.u;have:=b1.u;have:=HX.u;omega
       case c5=>first | omega | (simp;omega)
       intro v1 w2 a4 N _;have H:=qY hbe hsz hown N;have b3:=H.size;have R:=yG HK.u.1 H;have d8:=zC (zU HK.u.2.1 H) 0 (by simp);simp only[yQ,zv]at d8;have x:w2.ownsRow W0.heap.size 5 1 v1 (Rt.Hl out pl.yY k++⟨#[32]⟩).size (byteCells (Rt.Hl out pl.yY k++⟨#[32]⟩)):=by
        rw[G7,ByteArray.size_append];exact a4
       have f1:Hd ((Rt.Hl out pl.yY k++⟨#[32]⟩).size=(Rt.Hl out pl.yY k).size+1):=zD (ByteArray.size_append ..);clear a4 N hbe hown y c0 d0 d1;obtain⟨g1,q1,A,_,_,d0⟩:=yD R (Y9 pl.yY k hkd).1;obtain⟨g2,q2,z,_,_,d1⟩:=yD R (Y9 pl.yY k hkd).2;simp only[xJ,zx,Z9,jH,jJ]at A z;obtain⟨rfl,A⟩:=A;obtain⟨rfl,z⟩:=z;clear A z R;rw[<-f0.u]at d0 d1;generalize (Rt.Hl out pl.yY k++⟨#[32]⟩)=o2 at *;obtain⟨f9,cap1,rfl⟩:=zK x;go_wp2_with (at_builtin;refine G6 _ rfl _ _ 135 9 rfl W0.heap.size 5 i0 _ underlying135 underlying9 a9 a8 a7 a6 rfl _ _ _ rfl x tk.text rfl ?c1 b3 ?_)
       case c1=>have:=HS.u;have:=b1.u;have:=HX.u;have:=f1.u;omega
       intro v' w3 d f;have o:=H.grown f b3 (fun j hj=>(x.lt j hj).1);have HF:=qG d o;clear d o f x H;go_wp2;go_roundw
       ·obtain⟨q2,q3⟩:=HF.u;exact⟨k+1,by omega,by go_num,by rw[HT.u,G7,ByteArray.size_append];exact q2,q3⟩
       ·simp[intOf];omega
      ·have b7:¬(0:Int) < (k:Int):=by omega
       rw[zA hkp]at HT;go_wp2_with (at_builtin;refine G6 _ rfl _ _ 135 9 rfl W0.heap.size 5 i0 _ underlying135 underlying9 a9 a8 a7 a6 rfl _ _ _ rfl hown tk.text rfl ?c1 hsz ?_)
       case c1=>have:=HS.u;have:=b1.u;have:=HX.u;omega
       intro v' w3 d f;have o:=hbe.grown f hsz (fun j hj=>(hown.lt j hj).1);have HF:=qG d o;clear d o f hown hbe y;go_wp2;go_roundw
       ·obtain⟨q2,q3⟩:=HF.u;exact⟨k+1,by omega,by go_num,by rw[HT.u,G7,ByteArray.size_append];exact q2,q3⟩
       ·simp[intOf];omega
     ·have M:¬(k:Int) < (G pl.yY:Int):=by omega
      have a5:k=G pl.yY:=by omega
      have HR:Hd (Rt.Hl out pl.yY k=Rt.Hc pl):=zD (by rw[f2.u,a5]);have HF:=qG hown hbe;have d2:=Hz (P:=Tryz.prog) wr 135 9 5 W0.heap.size _ _ (Rt.Hl out pl.yY k).data.toList underlying135 underlying5 underlying9 hown;have f4:(convert 135 9 (I d4 (Rt.Hl out pl.yY k).size b4)).run Tryz.prog wr=.ok (O (Rt.Hl out pl.yY k)) wr:=d2;clear y hkd a5 hown hbe d2;go_wp2;go_ret;exact⟨by rw[HR.u];rfl,HK.u.2.2.trans (HF.u.2.mono (by omega))⟩
theorem prog_grown0 (h:Hh w P B zL lv cs) (hg:w.grownBy w1 row) (y:∀x,row=Q x->∃c,w.heap[x]?=Q (V c t (0,0))) (ht:t≠76/\t≠145/\t≠188/\t≠9/\t≠236/\t≠140):Hh w1 P B zL lv cs:=by
 obtain⟨U,T,R,O,I,N⟩:=ht;have f:∀(k:Nat) (x:Obj),w.heap[k]?=Q x->(∀c,x≠V c t (0,0))->w1.heap[k]?=Q x:=by
  intro k x D Z;refine(hg.block k (zQ D) ?_).trans D;intro e;obtain⟨c,G⟩:=y k e.symm;rw[D]at G;simp at G;exact Z c G
 have j:∀(B:Nat) (t':TypeId) (size n:Nat) (v:Value) (xs:List Value),t'≠t->w.ownsRow B t' size v n xs->w1.ownsRow B t' size v n xs:=by
  intro B t' size n v xs A hv;obtain⟨H,h2⟩:=hv;refine⟨H,?_⟩;rcases h2 with h2 | ⟨g,cap,cur,z,F,hh,rr⟩
  ·exact Or.inl h2
  ·exact Or.inr ⟨g,cap,cur,z,F,f g _ hh (fun c e=>by simp at e;exact A e.2),rr⟩
 have i:∀{v:Array Value} {fm:Rt.qS},qk w B v fm->qk w1 B v fm:=by
  intro v fm hf;obtain⟨W,iv,vv,M,rfl,H,h2,h3,h4⟩:=hf;exact⟨W,iv,vv,M,rfl,j _ _ _ _ _ _ (xK O) H,j _ _ _ _ _ _ (xK I) h2,j _ _ _ _ _ _ (xK N) h3,qi.map (fun x o hh=>j _ _ _ _ _ _ (xK I) hh) _ _ h4⟩
 have d:∀ps cs,ja w B ps cs->ja w1 B ps cs:=by
  intro ps
  induction ps with
  | nil=>intro cs h;cases cs with
   | nil=>trivial
   | cons _ _=>exact h.elim
  | cons p ps ih=>intro cs h;cases cs with
   | nil=>exact h.elim
   | cons c cs=>
    obtain⟨⟨tv,fv,L,J,e,g1,g2⟩,h2⟩:=h;exact⟨⟨tv,fv,L,J,e,j _ _ _ _ _ _ (xK R) g1,i g2⟩,ih cs h2⟩
 exact⟨f P _ h.block (fun c e=>by simp at e;exact U e.2.symm),j _ _ _ _ _ _ (xK T) h.own,d _ _ h.lines⟩
theorem progTidy_r (h:Hh w P B zL lv cs) (f8:G zL<=101) (c0:∀p∈zL,Rt.Fit p):Calls Tryz.prog 43 #[H (Q ⟨P,0,Z⟩)] w fun e w'=>Below w.heap.size w w'/\e=T (O (Rt.tidyP zL)):=by
 obtain⟨i0,b4,b0,a9,a8⟩:=yi infoByte;have a7:=zD c0;go_enter func43,ntmps43;go_wp2_with fail;go_loopw [3,4] (fun v i wr=>∃k:Nat,k<=G zL-1/\i=J U ((k:Int)+1)/\Hh wr P B zL lv cs/\wr.ownsRow w.heap.size 5 1 v (Rt.G2 zL k).size (byteCells (Rt.G2 zL k))/\Below w.heap.size w wr)
  (fun _ i _=>G zL+1-(intOf i).toNat)
 case atStart=>exact⟨0,by omega,rfl,h,zW _ _ _ _,zI _ _⟩
 case round=>
  obtain⟨k,hk,rfl,a4,hown,a5⟩:=hrel;have b6:=a5.size;have HS:=zD (Rt.Hj a7.u k);obtain⟨g3,f9,b3,cP⟩:=a4.v.Q3;obtain⟨f6,f0,rfl⟩:=zK hown;by_cases hlt:k+1 < G zL
  ·have b7:(k:Int)+1 < (G zL:Int):=by omega
   have HT:Hd (Rt.G2 zL (k+1)=(if 0 < k then Rt.G2 zL k++⟨#[10]⟩else Rt.G2 zL k)++Rt.Hc zL[k+1]):=zD (by rw[Rt.G2,zJ hlt];rfl);have HP:=zD (a7.u _ (zj hlt));have HL:=zD (tidyLn_size HP.u);by_cases hkp:0 < k
   ·have b8:(1:Int) < (k:Int)+1:=by omega
    rw[zE hkp]at HT;go_wp2_with (at_builtin;refine xQ _ rfl _ _ 135 rfl w.heap.size 5 i0 _ 1 1 underlying135 b4 b0 a9 a8 rfl (by decide) _ _ _ rfl (hown.alloc _) ⟨_,0,Z⟩ 1 1 [J .u8 10] rfl rfl (cell_one_new _ _ _) ?c2 ?c3 ?c4 ?c5 ?_)
    case c2=>first | rfl | (intro u hu;simp at hu;rcases hu with rfl;rfl)
    case c3=>have:=HS.u;unfold maxLen;omega
    case c4=>have:=HS.u;omega
    case c5=>first | omega | (simp;omega)
    intro v1 w2 b2 F _;have a6:=qY a5 b6 hown F;have b5:=a6.size;have N:Hh w2 P B zL lv cs:=prog_grownr (t:=5) a4 F (fun x hx=>by
     rcases hown.2 with⟨W,_⟩| ⟨g',_,cur,W,_,hh,_⟩
     ·rw[W]at hx;cases hx
     ·rw[W]at hx;simp[Value.ownBlock]at hx;subst hx;exact⟨_,hh⟩) (by decide)
    have D:w2.ownsRow w.heap.size 5 1 v1 (Rt.G2 zL k++⟨#[10]⟩).size (byteCells (Rt.G2 zL k++⟨#[10]⟩)):=by
     rw[G7,ByteArray.size_append];exact b2
    have f7:Hd ((Rt.G2 zL k++⟨#[10]⟩).size=(Rt.G2 zL k).size+1):=zD (ByteArray.size_append ..);generalize (Rt.G2 zL k++⟨#[10]⟩)=o2 at *;obtain⟨g1,f5,b3,cP⟩:=N.v.Q3;obtain⟨g0,f4,rfl⟩:=zK D;obtain⟨g,cap',a0,a1,a2,a3,e0,e1,e2,e3,xe,xf,R,b9,⟨d0,d1,d2,d3,d4,d5,d6,d7,d8,d9,f3,f2⟩,b1,f1⟩:=N.v.at hlt;have o:=b3.symm.trans R;simp at o;obtain⟨rfl,rfl⟩:=o;generalize zL[k+1]=p at *;go_wp2_with fail;refine(IY a1 a2 a3 e1 e2 e3 xe xf b1 HP.u.1 HP.u.2.1 HP.u.2.2).mono ?_;rintro e w3 ⟨rfl,A⟩;have M:=N.zP A;have hown3:=yG D A;have y:=a6.trans (A.mono (B':=w.heap.size) b5);have f:=y.size;go_wp2_with (at_builtin;refine G6 _ rfl _ _ 135 9 rfl w.heap.size 5 i0 _ underlying135 underlying9 b4 b0 a9 a8 rfl _ _ _ rfl hown3 (Rt.Hc p) rfl ?c1 f ?_)
    case c1=>have:=HS.u;have:=HL.u;have:=f7.u;omega
    intro v' w4 z d;have V:=y.grown d f (fun j hj=>(hown3.lt j hj).1);have L:Hh w4 P B zL lv cs:=prog_grown0 (t:=5) M d (fun x hx=>by
     rcases hown3.2 with⟨W,_⟩| ⟨g',_,cur,W,_,hh,_⟩
     ·rw[W]at hx;cases hx
     ·rw[W]at hx;simp[Value.ownBlock]at hx;subst hx;exact⟨_,hh⟩) (by decide)
    have HF:=XX L z V;go_wp2;go_roundw
    ·obtain⟨q1,q2,q3⟩:=HF.u;exact⟨k+1,by omega,by go_num,q1,by rw[HT.u,G7,ByteArray.size_append];exact q2,q3⟩
    ·simp[intOf];omega
   ·have b8:¬(1:Int) < (k:Int)+1:=by omega
    rw[zA hkp]at HT;obtain⟨g,cap',a0,a1,a2,a3,e0,e1,e2,e3,xe,xf,R,b9,⟨d0,d1,d2,d3,d4,d5,d6,d7,d8,d9,f3,f2⟩,b1,f1⟩:=a4.v.at hlt;have o:=b3.symm.trans R;simp at o;obtain⟨rfl,rfl⟩:=o;generalize zL[k+1]=p at *;go_wp2_with fail;refine(IY a1 a2 a3 e1 e2 e3 xe xf b1 HP.u.1 HP.u.2.1 HP.u.2.2).mono ?_;rintro e w3 ⟨rfl,A⟩;have M:=a4.zP A;have hown3:=yG hown A;have y:=a5.trans (A.mono (B':=w.heap.size) b6);have f:=y.size;go_wp2_with (at_builtin;refine G6 _ rfl _ _ 135 9 rfl w.heap.size 5 i0 _ underlying135 underlying9 b4 b0 a9 a8 rfl _ _ _ rfl hown3 (Rt.Hc p) rfl ?c1 f ?_)
    case c1=>have:=HS.u;have:=HL.u;omega
    intro v' w4 z d;have V:=y.grown d f (fun j hj=>(hown3.lt j hj).1);have L:Hh w4 P B zL lv cs:=prog_grown0 (t:=5) M d (fun x hx=>by
     rcases hown3.2 with⟨W,_⟩| ⟨g',_,cur,W,_,hh,_⟩
     ·rw[W]at hx;cases hx
     ·rw[W]at hx;simp[Value.ownBlock]at hx;subst hx;exact⟨_,hh⟩) (by decide)
    have HF:=XX L z V;go_wp2;go_roundw
    ·obtain⟨q1,q2,q3⟩:=HF.u;exact⟨k+1,by omega,by go_num,q1,by rw[HT.u,G7,ByteArray.size_append];exact q2,q3⟩
    ·simp[intOf];omega
  ·have b7:¬(k:Int)+1 < (G zL:Int):=by omega
   have HE:Hd (Rt.G2 zL k=Rt.tidyP zL):=zD (by rw[Rt.tidyP,show (G zL)-1=k by omega]);have g2:(convert 135 9 (I f6 (Rt.G2 zL k).size f0)).run Tryz.prog wr=.ok (O (Rt.G2 zL k)) wr:=Hz (P:=Tryz.prog) wr 135 9 5 w.heap.size _ _ (Rt.G2 zL k).data.toList underlying135 underlying5 underlying9 hown;have HF:=zD a5;go_wp2;go_ret;exact⟨HF.u,by rw[<-HE.u];rfl⟩
def TidyPP (s:Ia) (w:World) (e:Ending) (w':World):Prop:=
  Below w.heap.size w w'/\∃er ln zL,Rt.qx s=(er,ln,zL)/\
    ((¬er=0/\e=T (E #[O ⟨#[]⟩,J U er,J U ln]))\/
     (er=0/\ln=0/\e=T (E #[O (Rt.tidyP zL),J U 0,J U 0])))
theorem tidy_any (s:Ia) (w:World) (W:s.size<=maxLen) (k:(Rt.qx s).1=0->∀p∈(Rt.qx s).2.2,Rt.Fit p):Calls Tryz.prog 18 #[O s] w (TidyPP s w):=by
 have J:=zD k;clear k;go_enter func18,ntmps18;go_wp2_with fail;refine(read_any s W).mono ?_;rintro e w1 ⟨f,T,U,zL,H,(⟨o,rfl⟩| ⟨rfl,rfl,z,lv,cs,rfl,h,d⟩)⟩
 ·have M:=zD H;have HB:=zD (f.alloc f.size (V #[zg] 76));have Z:=zD o;have R:(T != 0)=D:=by simpa using o
  clear H f o;go_wp2;go_ret3;exact⟨HB.u,T,U,zL,M.u,Or.inl ⟨Z.u,rfl⟩⟩
 ·have M:=zD H;have A:∀p∈zL,Rt.Fit p:=by have:=J.u;rw[H]at this;exact this rfl
  obtain⟨x,i,rfl⟩:=zK h;have j:=(zI w1.heap.size w1).alloc (zB _) (V #[I x (G zL) i] 76);have y:Hh (w1.alloc (V #[I x (G zL) i] 76)) w1.heap.size w.heap.size zL (I x (G zL) i) cs:=⟨zN w1 _,yG h j,(xZ j).lines _ _ d⟩;have L:=f.size;have N:=zD A;clear H h d A;go_wp2_with fail;refine(progTidy_r y z N.u).mono ?_;rintro e w3 ⟨F,rfl⟩;have HF:=zD (f.trans ((j.mono (B':=w.heap.size) L).trans (F.mono (B':=w.heap.size) (by simp;omega))));clear f j y F;go_wp2;go_ret3;exact⟨HF.u,0,0,zL,M.u,Or.inr ⟨rfl,rfl,rfl⟩⟩
end
namespace Rf
open Rt
theorem IP:∀(texts:Ib) (i:Nat) (acc:List Ib),(∀s∈texts,s.size<=40000)->(∀t∈acc,Y8 t)->(formsFrom i texts acc).1=0->∀t∈(formsFrom i texts acc).2,Y8 t
 | [],i,acc,_,h,_=>by rw[formsFrom];exact h
 | x::r,i,acc,h1,h2,h3=>by
  rw[formsFrom]at h3 ⊢;cases ht:yY x with
  | none=>rw[ht]at h3;simp at h3
  | some ts=>
   rw[ht]at h3;simp only at h3 ⊢;by_cases hi:xM (tx ts)=D
   ·rw[zE hi]at h3 ⊢;refine IP r _ _ (fun s hs=>h1 s (zm _ hs)) ?_ h3;intro t ht2;rcases zd.mp ht2 with h | h
    ·exact h2 t h
    ·rw[yN.mp h];exact GA (h1 x (xB ..)) ht
   ·rw[zA hi]at h3;simp at h3
theorem Hv:∀(texts:Ib) (i:Nat) (acc:List Ib),(formsFrom i texts acc).2.length<=G acc+G texts
 | [],i,acc=>by rw[formsFrom];simp
 | x::r,i,acc=>by
  rw[formsFrom];cases ht:yY x with
  | none=>simp
  | some ts=>
   simp only;by_cases hi:xM (tx ts)=D
   ·rw[zE hi];have:=Hv r (i+1) (acc++[tx ts]);simp at this ⊢;omega
   ·rw[zA hi];simp
theorem readLines_list (ls:List Ib):(Xu ls).2.2=[]\/(Xu ls).2.2=ls:=by
 unfold Xu;split
 ·exact Or.inl rfl
 ·split
  ·exact Or.inl rfl
  ·unfold jV;split
   ·exact Or.inl rfl
   ·split
    ·exact Or.inl rfl
    ·exact Or.inr rfl
theorem readR_few (s:Ia):(∀t∈(vP s).2.2,Y8 t)/\(vP s).2.2.length<=100:=by
 have d:(∀t∈([]:List Ib),Y8 t)/\([]:List Ib).length<=100:=⟨by simp,by simp⟩;unfold vP;split
 ·exact d
 ·rename_i h1;split
  ·exact d
  ·rename_i h2;split
   ·exact d
   ·rename_i h3;rcases readLines_list (formsFrom 0 (Rt.lines s) []).2 with h | h
    ·rw[h];exact d
    ·rw[h];refine⟨IP _ _ _ (YM (by omega)) (by simp) (by omega),?_⟩;have:=Hv (Rt.lines s) 0 [];simp at this;omega
theorem depth_eq {l:Nat} {p:PL} (d:l < G ls) (h:uB ls l p ls[l]):p.depth=Ho ls l:=by
 obtain⟨_,_,_,_,_,_,i,f⟩:=Ya h.line;rw[h.depth,Ho,yq d,i,f];by_cases h6:idx p.form.kind=6
 ·simp[h6]
 ·by_cases h7:idx p.form.kind=7
  ·simp[h7]
  ·simp[h6,h7]
theorem sp_eq (out:Ia):∀k,spTo out k=out++spP ⟨#[]⟩ k
 | 0=>by
  show out=out++⟨#[]⟩;apply ByteArray.ext;simp[ByteArray.data_append]
 | k+1=>by rw[spTo,spP,sp_eq out k,ByteArray.append_assoc]
theorem at_tx {ts:List Tk}:ve (tx ts) i=((ts[i]?).map Tk.text).getD ⟨#[]⟩:=by
 simp[ve,tx,List.getD]
theorem tok_eq (out:Ia) (d:Int) (f:List Tk):∀i,Hb out d (tx f) (i+1)=out++Hl (spP ⟨#[]⟩ d.toNat) f (i+1)
 | 0=>by
  show spTo out d.toNat++_=out++(spP ⟨#[]⟩ d.toNat++_);rw[sp_eq,at_tx,ByteArray.append_assoc]
 | i+1=>by
  have h:=tok_eq out d f i;rw[Hb,Hl,zA (by omega),zE (by omega),h,at_tx];simp only[ByteArray.append_assoc]
theorem line_eq (out:Ia) (p:PL):Hb out p.depth (tx p.yY) (tx p.yY).length=out++Hc p:=by
 have f:(tx p.yY).length=G p.yY:=by simp[tx]
 rw[f,Hc];by_cases h0:G p.yY=0
 ·rw[zE h0,h0];show out=out++⟨#[]⟩;apply ByteArray.ext;simp[ByteArray.data_append]
 ·rw[zA h0];obtain⟨n,d⟩:∃n,G p.yY=n+1:=⟨G p.yY-1,by omega⟩;rw[d];exact tok_eq out p.depth p.yY n
theorem tidyTo_eq {zL:List PL} {ls:List Ib} (h:ZM zL ls):∀k,k<=G ls->Rt.G2 zL k=G2 ls k
 | 0,_=>rfl
 | k+1,hk=>by
  have j:=tidyTo_eq h k (by omega);have d:k < G ls:=by omega
  obtain⟨p,o,i⟩:=h.get d;have f:=line_eq (if 0 < k then G2 ls k++⟨#[10]⟩else G2 ls k) p;rw[Rt.G2,G2,j,o,<-depth_eq d i,yq d];rw[i.yY]at f;rw[f];rfl
theorem tidy_eq {zL:List PL} (h:ZM zL ls):tidyP zL=tidy ls:=by
 rw[tidyP,h.len,zu,tidy];exact tidyTo_eq h _ (zB _)
theorem tQ {zL:List PL} (h:ZM zL ls) (x:∀t∈ls,Y8 t) (D:G ls<=100):∀p∈zL,Rt.Fit p:=by
 intro p o;obtain⟨i,F,rfl⟩:=List.getElem_of_mem o;cases i with
 | zero=>
  obtain⟨ps,rfl,_⟩:=h.ex;exact zPL_fit
 | succ l=>
  have d:l < G ls:=by have:=h.len;omega
  obtain⟨p,A,k⟩:=h.get d;obtain⟨_,z⟩:=qy.mp A;rw[z];have j:=x _ (zj d);have f:=k.yY;rw[<-f]at j;have y:=deep_b ls l;rw[<-depth_eq d k]at y;refine⟨by have:=j.1;simpa[tx] using this,fun t f=>j.2 _ (List.mem_map_of_mem f),by omega⟩
theorem readS_fit (s:Ia) (h:(qx s).1=0):∀p∈(qx s).2.2,Rt.Fit p:=by
 obtain⟨_,_,f⟩:=eR s;have d:=readR_few s;exact tQ (f h) d.1 d.2
end Rf
section
open Go.RowKit
namespace Rf
def Hu (s:Ia):Ia:=if (vP s).1=0 then tidy (vP s).2.2 else ⟨#[]⟩
end Rf
def TidyBoth (s:Ia) (w:World) (e:Ending) (w':World):Prop:=Below w.heap.size w w'/\e=T (E #[O (Hu s),J U (vP s).1,J U (vP s).2.1])
theorem Tidy_both (s:Ia) (h:s.size<=maxLen):Calls Tryz.prog 19 #[O s] w (TidyBoth s w):=by
 refine(Tidy_ref s w h).mono ?_;rintro e w' ⟨f,(⟨d,rfl⟩| ⟨d,rfl⟩)⟩
 ·exact⟨f,by rw[Hu,zA d]⟩
 ·have i:=readR_at d;exact⟨f,by rw[Hu,zE d,d,i]⟩
theorem tidied_ref (o:∀(s:Ia) (w:World),s.size<=maxLen->Calls Tryz.prog 18 #[O s] w (TidyBoth s w)) (w:World) (s:Ia) (k:s.size<=maxLen):Calls Tryz.prog 12 #[O s] w fun e w'=>e=T (A D)/\Below w.heap.size w w':=by
 have i:=zD o;clear o;go_enter func12,ntmps12;go_wp2_with fail;refine(i.u s _ k).mono ?_;rintro e w1 ⟨f,rfl⟩;have h:=zD f;clear f;go_wp2_with fail;refine(Tidy_both s k).mono ?_;rintro e w2 ⟨d,rfl⟩;have j:=zD (h.u.trans (d.mono h.u.size));clear d;generalize (vP s).1=er at *;generalize (vP s).2.1=at0 at *;generalize Hu s=tt at *;go_wp2_with (go_at_call 20;refine(K3 er).mono ?_;rintro e w' ⟨rfl,rfl⟩)
 all_goals
  go_ret;exact⟨by first | rfl | simp,j.u⟩
theorem tidy_both (s:Ia) (w:World) (k:s.size<=maxLen):Calls Tryz.prog 18 #[O s] w (TidyBoth s w):=by
 refine(tidy_any s w k (readS_fit s)).mono ?_;rintro e w' ⟨j,y,x,zL,o,h⟩;obtain⟨d,f,i⟩:=eR s;rw[o]at d f i;simp only at d f i;rcases h with⟨h1,rfl⟩| ⟨rfl,rfl,rfl⟩
 ·exact⟨j,by rw[Hu,zA (by rw[<-d];exact h1),d,f]⟩
 ·exact⟨j,by rw[Hu,zE d.symm,<-d,<-f,tidy_eq (i rfl)]⟩
end
section
open Go.RowKit
attribute [local go_sem ↓] Go.wp_at_zero Go.wp_at_succ
section
variable {S:Nat} {pv lv:Value} {vs:List Value} {prs:List mU} {tag:Nat -> Nat}
theorem bf.qT (h:WI w S pv lv vs prs tag) (d:Below w.heap.size w w'):bf S vs prs w (T (A D)) w':=
 ⟨rfl,d.mono (by have:=zQ h.lg.block;omega),pv,lv,vs,prs,tag,h.zP d,by omega,by omega,fun M hM s hs=>by have:=hM s hs;omega⟩
theorem stepW_tidy (h:WI w S pv lv vs prs tag) (x:op.kind=1) (k:∃a n c,op.v=I a n c) (o:op.s.size<=maxLen):Calls Tryz.prog 10 #[H (Q ⟨S,0,Z⟩),iO op] w (bf S vs prs w):=by
 obtain⟨L,A,z,y,j,ov,G⟩:=op;simp only at x k o;obtain⟨a,n,c,rfl⟩:=k;subst x;unfold iO;simp only;have f:=(zI w.heap.size w).alloc (zB _) (V #[J U 1,J U A,J U z,J U y,O j,I a n c] 32);have i:=qG h f;have D:=zD (fun w1=>tidied_ref tidy_both w1 j o);go_enter func10,ntmps10;go_wp2_with fail;refine(D.u _).mono ?_;rintro e w1 ⟨rfl,d⟩;have F:=zD (bf.qT i.u.1 (i.u.2.trans (d.mono i.u.2.size)));go_wp2;go_ret;exact F.u
theorem stopped_W (h:WI w S pv lv vs prs tag) (s:Ia) (y:s.size<=maxLen) (k:(G vs+2)*24<=140737488355328):Calls Tryz.prog 13 #[H (Q ⟨S,0,Z⟩),O s] w (bf S vs prs w):=by
 have L:=zD h;have z:=zQ h.lg.block;have D:=stopList_len s;go_enter func13,ntmps13;go_wp2_with fail;refine(stops_both s y).mono ?_;rintro e w1 ⟨x,T,rfl,j⟩;have f:=qG j x;obtain⟨J,V,rfl⟩:=zK j;go_wp2_with fail;refine(Stops_both s y).mono ?_;rintro e w2 ⟨o,R,rfl,i⟩;obtain⟨I,U,rfl⟩:=zK i;have d:=XX (yG f.u.1 o) (YX i) (f.u.2.trans (o.mono f.u.2.size));generalize (vP s).1=er at *;generalize (vP s).2.1=at0 at *;go_wp2_with fail;refine(listW_ref L.u d.u.2.2 d.u.1 d.u.2.1 (by omega) k).mono ?_;intro e N A;have F:=A.step (d.u.2.2.mono (B':=S) (by omega));obtain⟨rfl,_⟩:=A;have M:=zD F;go_wp2_with (go_at_call 20;refine(K3 er).mono ?_;rintro e w' ⟨rfl,rfl⟩)
 all_goals
  go_ret;exact⟨by first | rfl | simp,M.u.2⟩
theorem stepW_stops (h:WI w S pv lv vs prs tag) (y:op.kind=2) (o:∃a n c,op.v=I a n c) (x:op.s.size<=maxLen) (f:(G vs+2)*24<=140737488355328):Calls Tryz.prog 10 #[H (Q ⟨S,0,Z⟩),iO op] w (bf S vs prs w):=by
 obtain⟨kd,M,L,F,k,ov,ol⟩:=op;simp only at y o x;obtain⟨a,n,c,rfl⟩:=o;subst y;unfold iO;simp only;have i:=(zI w.heap.size w).alloc (zB _) (V #[J U 2,J U M,J U L,J U F,O k,I a n c] 32);have z:=zQ h.lg.block;have W:=zD i;have N:=zD (stopped_W (h.zP i) k x f);go_enter func10,ntmps10;go_wp2_with fail;refine N.u.mono ?_;rintro e w1 ⟨rfl,j,d⟩;have R:=zD (show bf S vs prs w (T (A D)) w1 from⟨rfl,(W.u.mono (B':=S) (by omega)).trans j,d⟩);go_wp2;go_ret;exact R.u
end
end
end Go.Proofs.YthleadfkfnnadaaGreat
