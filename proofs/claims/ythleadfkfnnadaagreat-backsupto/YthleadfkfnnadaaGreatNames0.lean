/- The names of a program: declarations, forms, parameters. -/
import Derived.Test.YthleadfkfnnadaaGreatFlow1
set_option maxHeartbeats 4000000
set_option maxRecDepth 100000
set_option linter.unusedSimpArgs false
namespace Go.Proofs.YthleadfkfnnadaaGreat
open Rt Go.Proofs.Tryz
open Go.RowKit
variable {x:ByteArray} {cs:List (List Value)} {bs:List Rt.Zx} {zL:List Rt.PL} {S P g o n k:Nat} {row:Option Nat} {bv lv v0 v1 v2 v3 v4 v5 v6 v7 v8 v9 v10 v11 u:Value} {w w' w1:World}
section
attribute [local go_sem ↓] Go.wp_at_zero Go.wp_at_succ
theorem vR.other (h:vR w S bs bv) (f:w'.heap[S]?=w.heap[S]?) (hv:∀g,bv.ownBlock=some g->w'.heap[g]?=w.heap[g]?):vR w' S bs bv:=by
 refine⟨by rw[f];exact h.block,?_⟩;obtain⟨i,h2⟩:=h.own;refine⟨i,?_⟩;rcases h2 with h2 | ⟨g,cap,cur,d,hg,hh,rr⟩
 ·exact Or.inl h2
 ·exact Or.inr ⟨g,cap,cur,d,hg,by rw[hv g (by rw[d];rfl)];exact hh,rr⟩
theorem qH.other (h:qH w P zL lv cs) (A:∀k,k < w.heap.size->(∀o,w.heap[k]?=some o->(∃c,o=.cells c 181 (0,0))\/(∃c,o=.cells c 212 (0,0))->False)->w'.heap[k]?=w.heap[k]?):qH w' P zL lv cs:=by
 have d:∀(B:Nat) (t:TypeId) (size n:Nat) (v:Value) (xs:List Value),t≠181->t≠212->w.ownsRow B t size v n xs->w'.ownsRow B t size v n xs:=by
  intro B t size n v xs I H hv;obtain⟨z,h2⟩:=hv;refine⟨z,?_⟩;rcases h2 with h2 | ⟨g,cap,cur,y,hg,hh,rr⟩
  ·exact Or.inl h2
  ·refine Or.inr ⟨g,cap,cur,y,hg,?_,rr⟩;rw[A g (zQ hh) ?_]
   ·exact hh
   ·intro o i hx;rw[hh]at i;simp at i;subst i;rcases hx with⟨c,e⟩| ⟨c,e⟩
    ·simp at e;exact I e.2
    ·simp at e;exact H e.2
 refine⟨?_,d _ _ _ _ _ _ (by decide) (by decide) h.own,?_⟩
 ·rw[A P (zQ h.block) ?_]
  ·exact h.block
  ·intro o i hx;rw[h.block]at i;simp at i;subst i;rcases hx with⟨c,e⟩| ⟨c,e⟩ <;> simp at e
 ·have j:∀{v:Array Value} {fm:Rt.qS},qk w (P+1) v fm->qk w' (P+1) v fm:=by
   intro v fm L;obtain⟨J,iv,vv,G,rfl,z,h2,N,M⟩:=L;refine⟨J,iv,vv,G,rfl,d _ _ _ _ _ _ (by decide) (by decide) z,d _ _ _ _ _ _ (by decide) (by decide) h2,d _ _ _ _ _ _ (by decide) (by decide) N,?_⟩;exact qi.map (fun x o hh=>d _ _ _ _ _ _ (by decide) (by decide) hh) _ _ M
  have f:∀ps cs,ja w (P+1) ps cs->ja w' (P+1) ps cs:=by
   intro ps
   induction ps with
   | nil=>intro cs h;cases cs with
    | nil=>trivial
    | cons _ _=>exact h.elim
   | cons p ps ih=>intro cs h;cases cs with
    | nil=>exact h.elim
    | cons c cs=>
     obtain⟨⟨tv,fv,F,D,e,g1,O⟩,h2⟩:=h;exact⟨⟨tv,fv,F,D,e,d _ _ _ _ _ _ (by decide) (by decide) g1,j O⟩,ih cs h2⟩
  exact f _ _ h.lines
theorem sF (d:Rt.PL) (F D A z:Option Addr) (y x o k:Nat) (j i:Int) (h:vR w S bs bv) (f:bs.length<=1000):Calls Tryz.prog 124 #[.pointer (some ⟨S,0,none⟩),.agg #[.slice F d.yY.length y,.int .i64 d.form.kind,.string d.form.name,.int .i64 d.form.cells,.slice D d.form.params.length x,.slice A d.form.index.length o,.slice z d.form.values.length k,.int .i64 d.depth,.int .i64 d.opener,.int .i64 j,.int .i64 i,.int .i64 d.proc]] w fun e w'=>
   e=.returned (.agg #[.slice F d.yY.length y,.int .i64 d.form.kind,.string d.form.name,.int .i64 d.form.cells,.slice D d.form.params.length x,.slice A d.form.index.length o,.slice z d.form.values.length k,.int .i64 (Rt.ym bs d).depth,.int .i64 (Rt.ym bs d).opener,.int .i64 j,.int .i64 i,.int .i64 (Rt.ym bs d).proc])/\Below w.heap.size w w':=by
 have:=sH d F D A z y x o k j i h f;simpa[kZ] using this
theorem cH (h:GN w g o v0 v1 v2 v3 v4 v5 v6 v7 v8 v9 v10 v11) (d:Below w.heap.size w w'):GN w' g o v0 v1 v2 v3 v4 v5 v6 v7 v8 v9 v10 v11:=by
 obtain⟨H,G,F,D,A,z,y,x,k,j,i,f⟩:=h;exact⟨cell_later d H,cell_later d G,cell_later d F,cell_later d D,cell_later d A,cell_later d z,cell_later d y,cell_later d x,cell_later d k,cell_later d j,cell_later d i,cell_later d f⟩
theorem fD (h:FF w g o) (k:Below w.heap.size w w') (i:g < w.heap.size):FF w' g o:=by
 obtain⟨J,I,H,G,F,D,A,z,y,x,f,d⟩:=h;have e:∀j,w'.frozen? ⟨g,j,none⟩=w.frozen? ⟨g,j,none⟩:=fun j=>k.frozen (p:=⟨g,j,none⟩) i;exact⟨by rw[e];exact J,by rw[e];exact I,by rw[e];exact H,by rw[e];exact G,by rw[e];exact F,by rw[e];exact D,by rw[e];exact A,by rw[e];exact z,by rw[e];exact y,by rw[e];exact x,by rw[e];exact f,by rw[e];exact d⟩
theorem Yn {L:Nat} {t:TypeId} (h:w.heap[L]?=some (.cells #[v0,v1,v2,v3,v4,v5,v6,v7,v8,v9,v10,v11] t (0,0))):GN w L 0 v0 v1 v2 v3 v4 v5 v6 v7 v8 v9 v10 v11:=
 ⟨zC h 0 (by simp),zC h 1 (by simp),zC h 2 (by simp),zC h 3 (by simp),zC h 4 (by simp),zC h 5 (by simp),zC h 6 (by simp),zC h 7 (by simp),zC h 8 (by simp),zC h 9 (by simp),zC h 10 (by simp),zC h 11 (by simp)⟩
theorem qn {a:Addr} {v:Value}:w.grownBy (w.setCell a v) (some a.block):=⟨rfl,rfl,rfl,by simp[World.setCell],fun k _ h=>zO w a v k (fun e=>h (by rw[e]))⟩
theorem jY {w2:World} (h:w.grownBy w1 row) (k:w1.grownBy w2 row):w.grownBy w2 row:=
 ⟨k.os.trans h.os,k.tape.trans h.tape,k.output.trans h.output,zi h.size k.size,fun i hi hr=>(k.block i (zX hi h.size) hr).trans (h.block i hi hr)⟩
theorem BW (w:World) (g o:Nat) (F D A z y x k j i h f d:Value):w.grownBy (Bc w g o F D A z y x k j i h f d) (some g):=
 jY (jY (jY (jY (jY (jY (jY (jY (jY (jY (jY (qn) (qn)) (qn)) (qn)) (qn)) (qn)) (qn)) (qn)) (qn)) (qn)) (qn)) (qn)
theorem tP {w5 w6:World} (h:w.grownBy w1 row) (d:Below w1.heap.size w1 w5) (k:w5.grownBy w6 (some g)) (f:row=some g):w.grownBy w6 row:=
 ⟨k.os.trans (d.os.trans h.os),k.tape.trans (d.tape.trans h.tape),k.output.trans (d.output.trans h.output),zi h.size (zi d.size k.size),
  fun i hi hv=>(k.block i (zX hi (zi h.size d.size)) (by rw[<-f];exact hv)).trans ((d.block i (zX hi h.size)).trans (h.block i hi hv))⟩
theorem rQ {q:Nat} (d:q < o\/o+12<=q):(Bc w g o v0 v1 v2 v3 v4 v5 v6 v7 v8 v9 v10 v11).cell? ⟨g,q,none⟩=w.cell? ⟨g,q,none⟩:=
 (yy (show o+11≠q by omega)).trans ((yy (show o+10≠q by omega)).trans ((yy (show o+9≠q by omega)).trans ((yy (show o+8≠q by omega)).trans ((yy (show o+7≠q by omega)).trans ((yy (show o+6≠q by omega)).trans ((yy (show o+5≠q by omega)).trans ((yy (show o+4≠q by omega)).trans ((yy (show o+3≠q by omega)).trans ((yy (show o+2≠q by omega)).trans ((yy (show o+1≠q by omega)).trans ((yy (show o≠q by omega)).trans (rfl))))))))))))
theorem Dl (h:w.cell? ⟨g,o+9,none⟩=some u):(Bc w g o v0 v1 v2 v3 v4 v5 v6 v7 v8 v9 v10 v11).cell? ⟨g,o+9,none⟩=some v9:=
 (yy (show o+11≠o+9 by omega)).trans ((yy (show o+10≠o+9 by omega)).trans (ed (u:=u) ((yy (show o+8≠o+9 by omega)).trans ((yy (show o+7≠o+9 by omega)).trans ((yy (show o+6≠o+9 by omega)).trans ((yy (show o+5≠o+9 by omega)).trans ((yy (show o+4≠o+9 by omega)).trans ((yy (show o+3≠o+9 by omega)).trans ((yy (show o+2≠o+9 by omega)).trans ((yy (show o+1≠o+9 by omega)).trans ((yy (show o≠o+9 by omega)).trans (h))))))))))))
theorem FD (h:w.cell? ⟨g,o+10,none⟩=some u):(Bc w g o v0 v1 v2 v3 v4 v5 v6 v7 v8 v9 v10 v11).cell? ⟨g,o+10,none⟩=some v10:=
 (yy (show o+11≠o+10 by omega)).trans (ed (u:=u) ((yy (show o+9≠o+10 by omega)).trans ((yy (show o+8≠o+10 by omega)).trans ((yy (show o+7≠o+10 by omega)).trans ((yy (show o+6≠o+10 by omega)).trans ((yy (show o+5≠o+10 by omega)).trans ((yy (show o+4≠o+10 by omega)).trans ((yy (show o+3≠o+10 by omega)).trans ((yy (show o+2≠o+10 by omega)).trans ((yy (show o+1≠o+10 by omega)).trans ((yy (show o≠o+10 by omega)).trans (h))))))))))))
theorem VL.put {cap:Nat} {lk:Qw} {x9 x10:Value} (h:VL w (.slice (some ⟨g,0,none⟩) n cap) lk) (f:w.cell? ⟨g,k*12+9,none⟩=some x9) (d:w.cell? ⟨g,k*12+10,none⟩=some x10):VL (Bc w g (k*12) v0 v1 v2 v3 v4 v5 v6 v7 v8 x9 x10 v11) (.slice (some ⟨g,0,none⟩) n cap) lk:=by
 intro g' n' cap' e i x y;injection e with e _ _;injection e with e;injection e with e;subst e;obtain⟨o,j⟩:=h g n cap rfl i x y;by_cases hik:i=k
 ·subst hik;rw[Dl f,FD d];exact⟨f.symm.trans o,d.symm.trans j⟩
 ·rw[rQ (by omega),rQ (by omega)];exact⟨o,j⟩
theorem ft {p0:Rt.PL} (hp:qH w P (p0::zL) lv cs) (k2:zL.length<=100) {lk0:Qw} (f7:VL w lv lk0) (hlkl:lk0.length=zL.length+1):Calls Tryz.prog 76 #[.pointer (some ⟨P,0,none⟩)] w fun e w'=>w.grownBy w' lv.ownBlock/\
      ∃er ls bs,Rt.nestFrom zL 1 [] [p0]=(er,ls,bs)/\
        ((er=0/\bs=[]/\e=.returned (.tuple #[.int .i64 0,.int .i64 0])/\(∃cs',qH w' P ls lv cs')/\VL w' lv (Rt.nestLk (zL.length+1) zL 1 [] lk0))\/
         (er=0/\¬bs=[]/\e=.returned (.tuple #[.int .i64 3,.int .i64 zL.length]))\/
         (¬er=0/\e=.returned (.tuple #[.int .i64 3,.int .i64 er]))):=by
  have k4:=zQ hp.block;have hS:(w.alloc (.cells #[zg] 181)).heap[w.heap.size]?=some (.cells #[zg] 181 (0,0)):=zN w _;have h4:=(zI w.heap.size w).alloc (zB _) (.cells #[zg] 181);have hpA:=hp.zP h4;have hgA:w.grownBy (w.alloc (.cells #[zg] 181)) lv.ownBlock:=⟨rfl,rfl,rfl,by simp,fun k hk _=>jx _ _ _ hk⟩;have hnA:vR (w.alloc (.cells #[zg] 181)) w.heap.size [] zg:=⟨hS,zW _ _ _ _⟩;obtain⟨ad,cap,h⟩:=zK hp.own;have i6:=zD h;have hlkA:=f7.zP hp.own h4;clear hp hS h4 h f7;go_enter func76,ntmps76;go_wp2_with fail;go_loopw [5,6] (fun i _ wr=>∃(k:Nat) (acc rem:List Rt.PL) (bs:List Rt.Zx) (bv:Value) (cs:List (List Value)),i=.int .i64 k/\acc.length=k/\k+rem.length=zL.length+1/\1<=k/\bs.length<=k/\Rt.nestFrom rem k bs acc=Rt.nestFrom zL 1 [] [p0]/\
      qH wr P (acc++rem) lv cs/\(∃lk,lk.length=zL.length+1/\VL wr lv lk/\Rt.nestLk (zL.length+1) rem k bs lk=Rt.nestLk (zL.length+1) zL 1 [] lk0)/\vR wr w.heap.size bs bv/\w.grownBy wr lv.ownBlock)
    (fun i _ _=>zL.length+1-(intOf i).toNat)
  case atStart=>exact⟨1,[p0],zL,[],zg,cs,rfl,rfl,by omega,zB _,by simp,rfl,hpA,⟨lk0,hlkl,hlkA,rfl⟩,hnA,hgA⟩
  case round=>
    clear hpA hnA hgA hlkA hlkl;obtain⟨k,acc,rem,bs,bv,o2,rfl,g2,V,n5,n7,hT,D,f5,G,d⟩:=hrel;have h7:=zD f5;clear f5;have HT:=zD hT;have HA:=zD g2;clear hT g2;have j9:=d.size;have k3:=zQ G.block;have j3:=zQ D.block;have cP:=zC D.block 0 (by simp);simp at cP;rw[i6.u]at cP;simp only[yE]at cP;have cS:=zC G.block 0 (by simp);simp at cS;obtain⟨o5,k6,h3⟩:=zK G.own;rw[h3]at cS;have o6:=zD h3;clear h3;cases rem with
    | nil=>
      have n4:k=zL.length+1:=by simpa using V
      have j1:¬(k:Int) < (zL.length:Int)+1:=by omega
      have HE:Hd (Rt.nestFrom zL 1 [] [p0]=(0,acc,bs)):=zD (by rw[<-HT.u,Rt.nestFrom]);have HP:=zD D;have HG:=zD d;clear D G d V HT;rw[yX]at HP;by_cases hb:bs=[]
      · have z:bs.length=0:=by rw[hb];rfl
        rw[z]at cS;clear z;go_wp2_with fail;go_ret2;exact⟨HG.u,_,_,_,HE.u,Or.inl ⟨rfl,hb,rfl,⟨_,HP.u⟩,by obtain⟨lk,_,I,H⟩:=h7.u;rw[<-H,Rt.nestLk];exact I⟩⟩
      · have z:(0:Int) < (bs.length:Int):=by
          have:=kO.2 hb;omega
        have hw:=bu zL.length (by omega);have n3:=bw zL.length (by omega);generalize bs.length=bl at *;go_wp2_with fail;go_quiet (fail);go_wp2_with fail;go_ret2;refine⟨⟨HG.u.os,HG.u.tape,HG.u.output,HG.u.size,HG.u.block⟩,_,_,_,HE.u,Or.inr (Or.inl ⟨rfl,hb,?_⟩)⟩;simp
    | cons p r=>
      have j0:k+r.length=zL.length:=by simp at V;omega
      have j1:(k:Int) < (zL.length:Int)+1:=by omega
      have a7:=HA.u;obtain⟨g,cap',a0,a1,a2,a3,e0,e1,e2,e3,xe,xf,h,n8,i2,⟨d0,d1,d2,d3,d4,d5,d6,d7,d8,d9,b4,b7⟩,⟨z0,z1,z2,z3,z4,z5,z6,z7,z8,z9,b6,b5⟩,g9,h0⟩:=D.get;have a5:=i6.u.symm.trans h;have a6:(acc++p::r).length=zL.length+1:=by simp;omega
      rw[a6]at h a5;simp at a5;obtain⟨rfl,rfl⟩:=a5;rw[a7]at d0 d1 d2 d3 d4 d5 d6 d7 d8 d9 b4 b7 z0 z1 z2 z3 z4 z5 z6 z7 z8 z9 b6 b5;have n6:(0:Int)<=(k:Int):=by omega
      have a9:bs.length<=1000:=by omega
      have b0:=(zI wr.heap.size wr).alloc (zB _) (.cells #[.slice a0 p.yY.length e0,.int .i64 p.form.kind,.string p.form.name,.int .i64 p.form.cells,.slice a1 p.form.params.length e1,.slice a2 p.form.index.length e2,.slice a3 p.form.values.length e3,.int .i64 p.depth,.int .i64 p.opener,.int .i64 xe,.int .i64 xf,.int .i64 p.proc] 145);have Z:=G.zP b0;have i3:¬g=w.heap.size:=by
        intro e;have h1:=G.block;rw[<-e]at h1;have h2:=D.own;rw[h]at h2;rcases h2.2 with⟨T,_⟩| ⟨g',_,cur,T,_,hh,_⟩
        · cases T
        · simp at T;rw[<-T.1]at hh;rw[h1]at hh;simp at hh
      go_wp2_with fail;refine(tu Z a9).mono ?_;rintro e w1 ⟨rfl,b3⟩;cases had:Rt.Yj bs p.form.kind with
      | false=>
        have HE:Hd (Rt.nestFrom zL 1 [] [p0]=(k,acc++p::r,bs)):=zD (by rw[<-HT.u,Rt.nestFrom,zA (by rw[had];simp)]);have HG:Hd (w.grownBy w1 lv.ownBlock):=by
          refine zD ?_;have b2:=b0.trans (b3.mono (B':=wr.heap.size) (by simp));exact⟨b2.os.trans d.os,b2.tape.trans d.tape,b2.output.trans d.output,zi d.size b2.size,fun x hx hv=>(b2.block x (by omega)).trans (d.block x hx hv)⟩
        clear D G d Z b0 b3 g9 h0 HT had;go_wp2_with fail;go_ret2;exact⟨HG.u,_,_,_,HE.u,Or.inr (Or.inr ⟨by omega,rfl⟩)⟩
      | true=>
        have HE:Hd (Rt.nestFrom r (k+1) (Rt.qK bs k p.form.kind) (acc++[Rt.ym bs p])=Rt.nestFrom zL 1 [] [p0]):=zD (by rw[<-HT.u,Rt.nestFrom,zE had]);have j8:=zD had;clear had HT;have f:=b0.trans (b3.mono (B':=wr.heap.size) (by simp));have a4:=G.zP f;have F:=D.zP f;have g5:=D.own;have J:=yG g9 f;have M:=(xZ (B:=P+1) f).form h0;have h5:=zU (zN wr (.cells #[.slice a0 p.yY.length e0,.int .i64 p.form.kind,.string p.form.name,.int .i64 p.form.cells,.slice a1 p.form.params.length e1,.slice a2 p.form.index.length e2,.slice a3 p.form.values.length e3,.int .i64 p.depth,.int .i64 p.opener,.int .i64 xe,.int .i64 xf,.int .i64 p.proc] 145)) b3;have L:w.grownBy w1 lv.ownBlock:=⟨f.os.trans d.os,f.tape.trans d.tape,f.output.trans d.output,zi d.size f.size,fun x hx hv=>(f.block x (by omega)).trans (d.block x hx hv)⟩;have TD:=zD (cH ⟨d0,d1,d2,d3,d4,d5,d6,d7,d8,d9,b4,b7⟩ f);have TZ:=zD (fD ⟨z0,z1,z2,z3,z4,z5,z6,z7,z8,z9,b6,b5⟩ f i2);have j5:=cell_later f cP;have k0:=f.size;have j2:g < w1.heap.size:=by omega
        have o0:P < w1.heap.size:=by omega
        have j4:=zQ h5;have i4:¬g=wr.heap.size:=by omega
        have n9:¬P=wr.heap.size:=by omega
        have k5:¬P=g:=by omega
        obtain⟨l0,l1,l2,l3,l4,l5,l6,l7,l8,l9,n2,n1⟩:=Yn h5;have TL:=zD (Yn h5);clear d0 d1 d2 d3 d4 d5 d6 d7 d8 d9 b4 b7 z0 z1 z2 z3 z4 z5 z6 z7 z8 z9 b6 b5 cP cS G D g9 h0 d b0 Z b3;have i9:Hd (∃lk,lk.length=zL.length+1/\VL w1 lv lk/\Rt.nestLk (zL.length+1) (p::r) k bs lk=Rt.nestLk (zL.length+1) zL 1 [] lk0):=by
          obtain⟨lk,z,I,H⟩:=h7.u;exact zD ⟨lk,z,I.zP g5 f,H⟩
        clear g5 h7;have HX:=gN F J M L;clear F J M L f;go_wp2_with fail;go_region_with
          ((go_at_call 124;refine(sF p a0 a1 a2 a3 e0 e1 e2 e3 xe xf (by exact a4.zP (zh _)) a9).mono ?_;rintro e w5 ⟨rfl,b1⟩;have o3:=cell_later (yh b1) j5;obtain⟨d0,d1,d2,d3,d4,d5,d6,d7,d8,d9,b4,b7⟩:=cH TD.u (yh b1);obtain⟨z0,z1,z2,z3,z4,z5,z6,z7,z8,z9,b6,b5⟩:=fD TZ.u (yh b1) j2;obtain⟨m0,m1,m2,m3,m4,m5,m6,m7,m8,m9,n0,k7⟩:=cH TL.u (yh b1)))
        all_goals
          obtain⟨F,J,M,L⟩:=HX.u;have o:=yh b1;have O:=a4.zP o;have N:=F.zP o;have b8:=yG J o;have g0:=(xZ (B:=P+1) o).form M;obtain⟨h8,h9⟩:=XH bs p;have W:=qH.put (p':=Rt.ym bs p) (n:=zL.length+1) (g:=g) (cap:=cap) (by rw[<-h];exact N) a6.symm a0 a1 a2 a3 e0 e1 e2 e3 xe xf (by rw[h8];exact b8) (by rw[h9];exact g0);rw[h8,h9,a7]at W;have y:=dK w5 g (k*12) (.slice a0 p.yY.length e0) (.int .i64 p.form.kind) (.string p.form.name) (.int .i64 p.form.cells) (.slice a1 p.form.params.length e1) (.slice a2 p.form.index.length e2) (.slice a3 p.form.values.length e3) (.int .i64 (Rt.ym bs p).depth) (.int .i64 (Rt.ym bs p).opener) (.int .i64 xe) (.int .i64 xf) (.int .i64 (Rt.ym bs p).proc);have U:=Dk w5 g (k*12) (.slice a0 p.yY.length e0) (.int .i64 p.form.kind) (.string p.form.name) (.int .i64 p.form.cells) (.slice a1 p.form.params.length e1) (.slice a2 p.form.index.length e2) (.slice a3 p.form.values.length e3) (.int .i64 (Rt.ym bs p).depth) (.int .i64 (Rt.ym bs p).opener) (.int .i64 xe) (.int .i64 xf) (.int .i64 (Rt.ym bs p).proc);have hns6:=O.other (y w.heap.size (fun e=>i3 e.symm)) (fun x hx=>y x (fun e=>Ys O.own N.own (by decide) x hx (by rw[h,e];rfl)));have f9:=tP L o (BW w5 g (k*12) (.slice a0 p.yY.length e0) (.int .i64 p.form.kind) (.string p.form.name) (.int .i64 p.form.cells) (.slice a1 p.form.params.length e1) (.slice a2 p.form.index.length e2) (.slice a3 p.form.values.length e3) (.int .i64 (Rt.ym bs p).depth) (.int .i64 (Rt.ym bs p).opener) (.int .i64 xe) (.int .i64 xf) (.int .i64 (Rt.ym bs p).proc)) (show lv.ownBlock=some g by rw[h];rfl);rw[<-h]at W;obtain⟨o1,f0⟩:=W;have g6:Hd (∃lk,lk.length=zL.length+1/\VL (Bc w5 g (k*12) (.slice a0 p.yY.length e0) (.int .i64 p.form.kind) (.string p.form.name) (.int .i64 p.form.cells) (.slice a1 p.form.params.length e1) (.slice a2 p.form.index.length e2) (.slice a3 p.form.values.length e3) (.int .i64 (Rt.ym bs p).depth) (.int .i64 (Rt.ym bs p).opener) (.int .i64 xe) (.int .i64 xf) (.int .i64 (Rt.ym bs p).proc)) lv lk/\Rt.nestLk (zL.length+1) (p::r) k bs lk=Rt.nestLk (zL.length+1) zL 1 [] lk0):=by
            obtain⟨lk,z,I,H⟩:=i9.u;refine zD ⟨lk,z,?_,H⟩;have i0:=I.zP F.own o;rw[h]at i0 ⊢;exact VL.put i0 d9 b4
          have g4:=zD f0;have g8:=zD f9;have R:=zD hns6;have f2:¬some w.heap.size=lv.ownBlock:=fun e=>by rw[h]at e;simp[Value.ownBlock]at e;exact i3 e.symm
          have f3:∀x,bv.ownBlock=some x->¬some x=lv.ownBlock:=fun x hx e=>Ys O.own N.own (by decide) x hx e.symm;have f4:¬some wr.heap.size=lv.ownBlock:=fun e=>by rw[h]at e;simp[Value.ownBlock]at e;exact i4 e.symm
          have i5:=y wr.heap.size (fun e=>i4 e.symm);have b9:wr.heap.size < (Bc w5 g (k*12) (.slice a0 p.yY.length e0) (.int .i64 p.form.kind) (.string p.form.name) (.int .i64 p.form.cells) (.slice a1 p.form.params.length e1) (.slice a2 p.form.index.length e2) (.slice a3 p.form.values.length e3) (.int .i64 (Rt.ym bs p).depth) (.int .i64 (Rt.ym bs p).opener) (.int .i64 xe) (.int .i64 xf) (.int .i64 (Rt.ym bs p).proc)).heap.size:=by rw[U];have:=o.size;omega
          have j7:=gN f4 i5 b9 m1;have h6:=qG f2 f3;clear f4 i5 b9;clear f0 f9 hns6 F J M L N b8 g0 O y U o HX TD TZ TL a4 f2 f3;go_wp2_with fail;refine(Ci k g4.u).mono ?_;rintro e w6 ⟨rfl,g1,a8,f6⟩;have i8:=zD (show ∃lk,lk.length=zL.length+1/\VL w6 lv lk/\Rt.nestLk (zL.length+1) r (k+1) (Rt.qK bs k p.form.kind) lk=Rt.nestLk (zL.length+1) zL 1 [] lk0 from by
            obtain⟨lk,z,I,H⟩:=g6.u;have i1:=f6 lk I;have e1:yM (acc++Rt.ym bs p::r) (k:Int)=Rt.ym bs p:=by
              rw[<-HA.u,QQ (by simp)];simp
            have e2:(acc++Rt.ym bs p::r).length=zL.length+1:=by rw[<-a6];simp
            rw[e1,e2]at i1;refine⟨_,by rw[Jl];exact z,i1,?_⟩;rw[<-H,Rt.nestLk,zE j8.u])
          clear f6 g6;have hns6:vR w6 w.heap.size bs bv:=R.u.other (a8.block _ (zQ R.u.block) h6.u.1) (fun x hx=>a8.block x (R.u.own.lt x hx).2 (h6.u.2 x hx));have o4:w6.cell? ⟨wr.heap.size,1,none⟩=some (.int .i64 p.form.kind):=by
            obtain⟨u1,u2,u3,u4⟩:=j7.u;rw[xG (a:=⟨wr.heap.size,1,none⟩) ((a8.block wr.heap.size u3 u1).trans u2)];exact u4
          have g3:=zD g1;have g7:=zD (jY g8.u a8);clear g1 a8 g4 R h6 g8;go_wp2_with fail;refine(CL hns6 a9).mono ?_;rintro e w7 ⟨rfl,j6,f1,j⟩;obtain⟨cs7,hpr7⟩:=g3.u;have A:=g7.u;have k1:=sK bs k p.form.kind;have c0:qH w7 P (acc++Rt.ym bs p::r) lv cs7:=by
            refine hpr7.other (fun x hx hno=>j.block x hx ?_ ?_)
            · intro e;subst e;exact hno _ hns6.block (Or.inl ⟨_,rfl⟩)
            · intro e;rcases hns6.own.2 with⟨T,_⟩| ⟨g',_,cur,T,_,hh,_⟩
              · rw[T]at e;cases e
              · rw[T]at e;simp[Value.ownBlock]at e;subst e;exact hno _ hh (Or.inr ⟨_,rfl⟩)
          have f8:w.grownBy w7 lv.ownBlock:=⟨j.os.trans A.os,j.tape.trans A.tape,j.output.trans A.output,zi A.size j.size,fun x hx hv=>(j.block x (zX hx A.size) (by omega) (fun e=>by have:=(hns6.own.lt x e.symm).1;omega)).trans (A.block x hx hv)⟩;have i7:Hd (∃lk,lk.length=zL.length+1/\VL w7 lv lk/\Rt.nestLk (zL.length+1) r (k+1) (Rt.qK bs k p.form.kind) lk=Rt.nestLk (zL.length+1) zL 1 [] lk0):=by
            obtain⟨lk,z,I,H⟩:=i8.u;refine zD ⟨lk,z,I.same (fun x hx=>j.block x ((hpr7.own.lt x hx).2) ?_ ?_),H⟩
            · intro e;subst e;rcases hpr7.own.2 with⟨T,_⟩| ⟨g',_,cur,T,_,hh,_⟩
              · rw[T]at hx;cases hx
              · rw[T]at hx;simp[Value.ownBlock]at hx;rw[hx,hns6.block]at hh;simp at hh
            · intro e;exact Ys hpr7.own hns6.own (by decide) x hx e.symm
          have HF:=XX c0 f1 f8;clear c0 f1 f8 j hpr7 A hns6 g3 g7;go_wp2_with fail;go_roundw
          case rel=>
            obtain⟨q1,q2,q3⟩:=HF.u;exact⟨k+1,acc++[Rt.ym bs p],r,_,j6,cs7,by go_num,by simp;exact HA.u,by omega,by omega,by omega,HE.u,by simpa using q1,i7.u,q2,q3⟩
          case measure=>simp[intOf];omega
end
theorem bI (h:Rt.declFrom k (zL.drop k) x=n) (d:¬k < zL.length):n=0:=by
 rw[zp (by omega),Rt.declFrom]at h;exact h.symm
theorem bH (h:Rt.declFrom k (zL.drop k) x=n) (d:k < zL.length) (f:Rt.isDecl zL[k] x=true):n=k:=by
 rw[zZ d,Rt.declFrom,zE f]at h;exact h.symm
theorem VV (h:Rt.declFrom k (zL.drop k) x=n) (d:k < zL.length) (f:Rt.isDecl zL[k] x=false):Rt.declFrom (k+1) (zL.drop (k+1)) x=n:=by
 rw[zZ d,Rt.declFrom,zA (by rw[f];simp)]at h;exact h
theorem vt (x:ByteArray) (h:qH w P zL lv cs) (A:zL.length<=101):Calls Tryz.prog 143 #[.pointer (some ⟨P,0,none⟩),.string x] w fun e w'=>e=.returned (.int .i64 (Rt.xb zL x))/\w'=w:=by
 obtain⟨ad,cap,d,Z⟩:=h.Q3;have G:=zD h;have z:=zD d;clear h d;go_enter func143,ntmps143;go_wp2;go_loop [5] (fun i=>∃k:Nat,1<=k/\k<=zL.length+1/\i=.int .i64 k/\Rt.declFrom k (zL.drop k) x=Rt.xb zL x) (fun i=>zL.length+1-(intOf i).toNat)
 case atStart=>exact⟨1,zB _,by omega,rfl,rfl⟩
 case round=>
  obtain⟨k,F,N,rfl,D⟩:=hrel;have y:=zD D;clear D;by_cases hlt:k < zL.length
  ·obtain⟨g,cap',a0,a1,a2,a3,U,T,R,O,I,H,d,_,_,⟨_,W,V,_⟩,_,_⟩:=G.u.at hlt;have f:=z.u.symm.trans d;simp at f;obtain⟨rfl,rfl⟩:=f;have o:(k:Int) < (zL.length:Int):=by omega
   cases hd:Rt.isDecl zL[k] x with
   | true=>
    have HE:=zD (bH y.u hlt hd);unfold Rt.isDecl at hd;simp only[zy,YC,yS]at hd;obtain⟨hk3,hnm⟩:=hd;have j:=QB hnm;clear hnm d;generalize zL[k].form.name=nm at *;generalize zL[k].form.kind=kx at *;rcases hk3 with (hk3 | hk3)| hk3
    all_goals
     subst hk3;go_wp2;go_ret;exact⟨by rw[HE.u];rfl,rfl⟩
   | false=>
    have HE:=zD (VV y.u hlt hd);unfold Rt.isDecl at hd;clear d;generalize zL[k].form.name=nm at *;generalize zL[k].form.kind=kx at *;by_cases hnm:nm=x
    ·have hk3:¬kx=1/\¬kx=2/\¬kx=3:=by simpa[hnm,and_assoc] using hd
     have M:(kx==1)=false:=by simpa using hk3.1
     have L:(kx==2)=false:=by simpa using hk3.2.1
     have J:(kx==3)=false:=by simpa using hk3.2.2
     clear hk3 hd hnm;go_wp2;go_round
     case rel=>exact⟨k+1,by omega,by omega,by go_num,HE.u⟩
     case measure=>simp[intOf];omega
    ·have j:=KI hnm;clear hd hnm;go_wp2
     all_goals
      go_round
      case rel=>exact⟨k+1,by omega,by omega,by go_num,HE.u⟩
      case measure=>simp[intOf];omega
  ·have HE:=zD (bI y.u hlt);have o:¬(k:Int) < (zL.length:Int):=by omega
   go_wp2;go_ret;exact⟨by rw[HE.u];simp,rfl⟩
end Go.Proofs.YthleadfkfnnadaaGreat
