/- The names of a program: declarations, forms, parameters. -/
import Derived.Test.YthleadfkfnnadaaGreatProg0
set_option maxHeartbeats 4000000
set_option maxRecDepth 100000
set_option linter.all false
namespace Go.Proofs.YthleadfkfnnadaaGreat
open Value renaming int->J,slice->I,string->O,pointer->H,bool->A,agg->L,tuple->E
open IntKind renaming i64->U
open Option renaming none->Z,some->Q
open Bool renaming false->W,true->D
open List renaming length->G
open Ending renaming returned->T
open Obj renaming cells->V
open Rt Go.Proofs.Tryz
variable {x:Ia} {kind:Int} {cs:List (List Value)} {bs pre:List Rt.Zx} {zL acc r:List Rt.PL} {c xs:List Value} {P n S g cap B i j q o k:Nat} {row:Option Nat} {b:Rt.Zx} {p:Rt.PL} {t:TypeId} {lv Ce v bv u v0 v1 v2 v3 v4 v5 v6 v7 v8 v9 v10 v11:Value} {w w1 w2 w' wx:World}
section
open Go.RowKit
attribute [local go_sem ↓] Go.wp_at_zero Go.wp_at_succ
theorem qH.push {lv':Value} (h:qH w P zL lv cs) (L:Kq w (P+1) p c) (o:Below w.heap.size w w1) (y:w2.ownsRow (P+1) 145 12 lv' (G zL+1) (cs.flatten++c)) (d:w1.grownBy w2 lv.ownBlock):qH (w2.setCell ⟨P,0,Z⟩ lv') P (zL++[p]) lv' (cs++[c])/\Below P w (w2.setCell ⟨P,0,Z⟩ lv'):=by
 have z:=zQ h.block;have j:∀k,lv.ownBlock=Q k->P < k:=fun k hk=>by have:=(h.own.lt k hk).1;omega
 have f:∀k,k < w.heap.size->Q k≠lv.ownBlock->w2.heap[k]?=w.heap[k]?:=fun k hk hv=>by
  rw[d.block k (zX hk o.size) hv];exact o.block k hk
 have i:∀k,k≠P->(w2.setCell ⟨P,0,Z⟩ lv').heap[k]?=w2.heap[k]?:=fun k hk=>zO w2 ⟨P,0,Z⟩ _ k hk;have H:Qc w (w2.setCell ⟨P,0,Z⟩ lv') (P+1) (P+1):=by
  intro t F n v xs J hv;have A:=Ys hv h.own J;obtain⟨I,h2⟩:=hv;refine⟨I,?_⟩;rcases h2 with h2 | ⟨g,cap,cur,x,hg,hh,r⟩
  ·exact Or.inl h2
  ·exact Or.inr ⟨g,cap,cur,x,hg,by rw[i g (by omega),f g (zQ hh) (fun e=>A g (by rw[x];rfl) e.symm)];exact hh,r⟩
 refine⟨⟨?_,?_,ja.snoc (H.line L) _ _ (H.lines _ _ h.lines)⟩,?_⟩
 ·have D:w2.heap[P]?=Q (V #[lv] 76 (0,0)):=(f P z (fun e=>by have:=j P e.symm;omega)).trans h.block;have:=zf D 0 lv';simpa using this
 ·have:(cs++[c]).flatten=cs.flatten++c:=by simp
  rw[this,ze];exact qL y (by show P < P+1;omega) _
 ·refine⟨d.os.trans o.os,d.tape.trans o.tape,d.output.trans o.output,?_,fun k hk=>(i k (by omega)).trans (f k (by omega) (fun e=>by have:=j k e.symm;omega))⟩;have I:=d.size;have h2:=o.size;simp[World.setCell];omega
theorem DG (d:w.heap[P]?=Q (V #[lv] 76 (0,0))) (i:Below w.heap.size w w1) (f:w1.grownBy w2 row) (j:row≠Q P):w2.cell? ⟨P,0,Z⟩=Q lv/\w2.frozen? ⟨P,0,Z⟩=W:=by
 have h:w2.heap[P]?=Q (V #[lv] 76 (0,0)):=by
  rw[f.block P (zX (zQ d) i.size) (xK j),i.block P (zQ d)];exact d
 exact⟨zC h 0 (by simp),zS h 0⟩
abbrev ew:Array Value:=#[zg,J U 0,O ⟨#[]⟩,J U 0,zg,zg,zg,J U 0,J U 0,J U 0,J U 0,J U 0]
theorem qD (w:World) (d o2:Obj):((w.alloc d).alloc o2).heap[w.heap.size+1]?=Q o2:=by
 have:=zN (w.alloc d) o2;simpa using this
theorem sE (f:w.heap[P]?=Q (V #[Ce] 76 (0,0))):qH ((w.setCell ⟨P,0,Z⟩ (I (Q ⟨w.heap.size,0,Z⟩) 1 1)).alloc (V ew 145)) P [Rt.kb] (I (Q ⟨w.heap.size,0,Z⟩) 1 1) [ew.toList]:=by
 have i:=zQ f;refine⟨?_,?_,⟨zg,yo,0,0,rfl,zW _ _ _ _,vM⟩,trivial⟩
 ·have:=zf f 0 (I (Q ⟨w.heap.size,0,Z⟩) 1 1);exact yR (by simpa using this) _
 ·have h:=zN (w.setCell ⟨P,0,Z⟩ (I (Q ⟨w.heap.size,0,Z⟩) 1 1)) (V ew 145);have d:(w.setCell ⟨P,0,Z⟩ (I (Q ⟨w.heap.size,0,Z⟩) 1 1)).heap.size=w.heap.size:=by simp[World.setCell]
  rw[d]at h;exact⟨rfl,Or.inr ⟨w.heap.size,1,ew,rfl,by omega,h,zB _,by unfold maxLen;omega,rfl,rfl⟩⟩
theorem AV (h:qH w P zL lv cs) (k:Below w.heap.size w w1) (d:w1.grownBy w2 lv.ownBlock) {size:Nat} (hv:w.ownsRow (P+1) t size v n xs) (o:t≠145) (i:Value):(w2.setCell ⟨P,0,Z⟩ i).ownsRow (P+1) t size v n xs:=by
 have j:=Ys hv h.own o;obtain⟨x,h2⟩:=hv;refine⟨x,?_⟩;rcases h2 with h2 | ⟨g,cap,cur,f,hg,hh,r⟩
 ·exact Or.inl h2
 ·refine Or.inr ⟨g,cap,cur,f,hg,?_,r⟩;rw[zO w2 ⟨P,0,Z⟩ _ g (by show g≠P;omega),d.block g (zX (zQ hh) k.size) (fun e=>j g (by rw[f];rfl) e.symm),k.block g (zQ hh)];exact hh
def Lk0 (cs:List (List Value)):Prop:=∀c∈cs,c[9]?=Q (J U 0)/\c[10]?=Q (J U 0)
theorem iU (s:Ia) (hP:w.heap[P]?=Q (V #[Ce] 76 (0,0))) (hs:s.size<=40000) (h7:(Rt.lines s).length<=100):Calls Tryz.prog 75 #[H (Q ⟨P,0,Z⟩),O s] w fun e w'=>Below P w w'/\
      (((Rt.rForms 0 (Rt.lines s) [Rt.kb]).1=0/\e=T (E #[J U 0,J U 0])/\∃lv cs,qH w' P (Rt.rForms 0 (Rt.lines s) [Rt.kb]).2 lv cs/\Lk0 cs)\/
       (¬(Rt.rForms 0 (Rt.lines s) [Rt.kb]).1=0/\e=T (E #[J U 2,J U (Rt.rForms 0 (Rt.lines s) [Rt.kb]).1])/\w'.heap.size≥w.heap.size)):=by
  obtain⟨i0,g2,g1,g0,f9⟩:=yi C3;have h5:=zQ hP;have c0:=zC hP 0 (by simp);have f0:=zS hP 0;simp at c0;go_enter func75,ntmps75;go_wp2_with fail;have hA:qH ((w.setCell ⟨P,0,Z⟩ (I (Q ⟨w.heap.size,0,Z⟩) 1 1)).alloc (V ew 145)) P [Rt.kb] (I (Q ⟨w.heap.size,0,Z⟩) 1 1) [ew.toList]:=sE hP;have f5:Below P w ((w.setCell ⟨P,0,Z⟩ (I (Q ⟨w.heap.size,0,Z⟩) 1 1)).alloc (V ew 145)):=((zI P w).setCell (p:=⟨P,0,Z⟩) (zB _) _).alloc (by simp[World.setCell];omega) _;clear c0 f0 hP;refine(Al s hs).mono ?_;rintro e w1 ⟨d0,tx,rfl,z⟩;have hpr1:=hA.zP d0;have b8:=f5.trans (d0.mono (B':=P) (by simp[World.setCell];omega));have R:=yn (b':=P+1) z (by simp[World.setCell];omega);clear hA f5 d0 z;obtain⟨h0,f6,rfl⟩:=zK R;have d7:=Rt.YM hs;generalize hL:Rt.lines s=L at *;have HL:=zD hL;clear hL;have h1:=zD d7;clear d7;go_wp2_with fail;go_loopw [7,8,9,10] (fun i _ _ _ wr=>∃(k:Nat) (acc:List Rt.PL) (lv:Value) (cs:List (List Value)),k<=G L/\i=J U k/\G acc=k+1/\Rt.rForms k (L.drop k) acc=Rt.rForms 0 L [Rt.kb]/\
      qH wr P acc lv cs/\Lk0 cs/\wr.ownsRow (P+1) 9 1 (I h0 (G L) f6) (G L) (L.map Value.string)/\Below P w wr)
    (fun i _ _ _ _=>G L-(intOf i).toNat)
  case atStart=>exact⟨0,[Rt.kb],_,_,zo _,rfl,rfl,rfl,hpr1,(fun c hc=>by rw[yN.mp hc];exact⟨rfl,rfl⟩),R,b8⟩
  case round=>
    clear hpr1 R b8;obtain⟨k,acc,lv,cs,hk,rfl,b9,hT,a0,f2,z,F⟩:=hrel;have f8:=zD f2;clear f2;have HT:=zD hT;have HA:=zD b9;clear hT b9;have h3:=F.size;by_cases hlt:k < G L
    · have f1:(k:Int) < (G L:Int):=by omega
      obtain⟨gx,g9,d5,_,_,cx⟩:=yD z (j:=k) (u:=O L[k]) (by simp[hlt]);have d8:=h1.u L[k] (zj hlt);simp at d5;obtain⟨rfl,rfl⟩:=d5;have d:L.drop k=L[k]::L.drop (k+1):=zZ hlt;go_wp2_with fail;refine(rh L[k] d8).mono ?_;rintro e w2 ⟨o,(⟨ht,rfl⟩| ⟨ts,tv,ht,rfl,d6⟩)⟩
      · have HE:Hd (Rt.rForms 0 L [Rt.kb]=(k+1,acc)):=by
          refine zD ?_;rw[<-HT.u,d,Rt.rForms,Rt.rdLine,ht]
        have HB:=zD (F.trans (o.mono (B':=P) (by omega)));clear a0 z F o ht d cx;go_wp2;go_ret2;have hE:=HE.u;rw[<-HL.u]at hE;refine⟨HB.u,Or.inr ⟨by rw[hE];simp,by rw[hE];simp,by have:=HB.u.size;omega⟩⟩
      · obtain⟨g5,g4⟩:=Rt.JY d8 ht;have W:=a0.zP o;have N:=yG z o;have M:=F.trans (o.mono (B':=P) (by omega));have A:=yn (b':=P+1) d6 (by omega);clear a0 z F d6 cx;obtain⟨d1,a3,rfl⟩:=zK A;go_wp2_with fail;refine(ie A g5 g4).mono ?_;rintro e w3 ⟨D,(⟨fm,fv,hp,rfl,f3⟩| ⟨hp,rfl⟩)⟩
        · have h4:=o.size;have f:=W.zP D;have a7:=yG N D;have b7:=M.trans (D.mono (B':=P) (by omega));have a8:=yG A D;have b5:qk w3 (P+1) fv fm:=Kr f3 (fun t size n v xs h=>yn h (by omega));have HE:Hd (Rt.rForms (k+1) (L.drop (k+1)) (acc++[⟨ts,fm,0,0,0⟩])=Rt.rForms 0 L [Rt.kb]):=by
            refine zD ?_;rw[<-HT.u,d,Rt.rForms,Rt.rdLine,ht];simp only;rw[hp]
          have b4:=b5;obtain⟨pv,iv,vv,vs,rfl,b1,b2,b3,_⟩:=b5;obtain⟨d4,cap1,rfl⟩:=zK b1;obtain⟨d3,a5,rfl⟩:=zK b2;obtain⟨d2,a4,rfl⟩:=zK b3;have a6:=(zI w3.heap.size w3).alloc (zB _) (V #[J U fm.kind,O fm.name,J U fm.cells,I d4 (G fm.params) cap1,I d3 (G fm.index) a5,I d2 (G fm.values) a4] 143);have g8:=zQ f.block;have cP:=zC f.block 0 (by simp);simp at cP;have x:=f.own;have a9:lv.ownBlock≠Q P:=fun h=>by have:=(x.lt P h).1;omega
          clear W N M A f3 b1 b2 b3 hp ht o D d;have b0:=HA.u;have h2:=zD b0;have g6:G acc<=101:=by omega
          clear b0;obtain⟨h8,h6,rfl⟩:=zK x;go_wp2_with fail;go_region_law
            ((refine step_append_lies _ (by rfl) _ _ _ (by rfl) (P+1) 145 i0 _ 12 168 underlying74 g2 g1 g0 f9 rfl (by omega) _ (G acc) cs.flatten (by rfl) (((x.alloc _).alloc _).drew)
                ⟨w3.heap.size+1,0,Z⟩ 1 1 [I d1 (G ts) a3,J U fm.kind,O fm.name,J U fm.cells,I d4 (G fm.params) cap1,I d3 (G fm.index) a5,I d2 (G fm.values) a4,J U 0,J U 0,J U 0,J U 0,J U 0] (by rfl) (by rfl)
                (World.news_of_block (cs:=#[I d1 (G ts) a3,J U fm.kind,O fm.name,J U fm.cells,I d4 (G fm.params) cap1,I d3 (G fm.index) a5,I d2 (G fm.values) a4,J U 0,J U 0,J U 0,J U 0,J U 0]) (t:=145) (fr:=(0,0)) (iC w3)) (by simp[Value.oneCell'])
                (by omega) (by unfold maxLen;omega) (by omega) (by simp;omega) (w3.heap.size+2) (by simp) ?_;intro gg f7 w4 a1 y g7 d9;obtain⟨f4,g3⟩:=DG f.block ((a6.alloc (by simp) _).drew) y a9))
          all_goals
            have b6:=f.push (p:=⟨ts,fm,0,0,0⟩) ⟨I d1 (G ts) a3,_,0,0,rfl,a8,b4⟩ ((a6.alloc (by simp) _).drew) a1 y;have a2:=AV f ((a6.alloc (by simp) _).drew) y a7 (by decide) (I (Q ⟨gg,0,Z⟩) (G acc+1) f7);have HF:=XX b6 a2 b7;clear b6 a2 y a1 f a7 b7 a8 b4 a6 x f4 g3 g7 d9 a9 cP;go_wp2;go_roundw
            case rel=>
              obtain⟨⟨q1,q2⟩,q3,q4⟩:=HF.u;exact⟨k+1,_,_,_,by omega,by go_num,by simp;exact h2.u,HE.u,q1,(fun c hc=>by rcases zd.mp hc with hc | hc;exact f8.u c hc;rw[yN.mp hc];exact⟨rfl,rfl⟩),q3,q4.trans q2⟩
            case measure=>simp[intOf];omega
        · have HE:Hd (Rt.rForms 0 L [Rt.kb]=(k+1,acc)):=by
            refine zD ?_;rw[<-HT.u,d,Rt.rForms,Rt.rdLine,ht];simp only;rw[hp]
          have HB:=zD ((M.trans (D.mono (B':=P) (by have:=o.size;omega))).alloc (by have:=o.size;have:=D.size;omega) (V yo 143));clear W N M A D o ht hp d;go_wp2;go_ret2;have hE:=HE.u;rw[<-HL.u]at hE;refine⟨HB.u,Or.inr ⟨by rw[hE];simp,by rw[hE];simp,by have:=HB.u.size;omega⟩⟩
    · have HE:Hd (Rt.rForms 0 L [Rt.kb]=(0,acc)):=by
        refine zD ?_;rw[<-HT.u,zp (by omega),Rt.rForms]
      have f1:¬(k:Int) < (G L:Int):=by omega
      have HF:=qG a0 F;clear a0 z F;go_wp2;go_ret2;have hE:=HE.u;rw[<-HL.u]at hE;obtain⟨q1,q2⟩:=HF.u;exact⟨q2,Or.inl ⟨by rw[hE],rfl,lv,cs,by rw[hE];exact q1,f8.u⟩⟩
theorem en (bs:List Rt.Zx):bs=[]\/∃pre b,bs=pre++[b]:=by
 rcases ZC bs with h | ⟨pre,b,h⟩
 ·exact Or.inl h
 ·exact Or.inr ⟨pre,b,by simpa using h⟩
structure vR (w:World) (S:Nat) (bs:List Rt.Zx) (bv:Value):Prop where
 block:w.heap[S]?=some (.cells #[bv] 181 (0,0))
 own:w.ownsRow (S+1) 212 3 bv bs.length (js bs)
theorem vR.zP (h:vR w S bs bv) (d:Below w.heap.size w w'):vR w' S bs bv:=⟨zU h.block d,yG h.own d⟩
theorem vR.last (h:vR w S (pre++[b]) bv):∃g cap,bv=I (Q ⟨g,0,Z⟩) (G pre+1) cap/\S < g/\w.cell? ⟨g,G pre*3,Z⟩=Q (J U b.line)/\w.cell? ⟨g,G pre*3+1,Z⟩=Q (J U b.kind)/\w.cell? ⟨g,G pre*3+2,Z⟩=Q (A b.aB):=by
 have d:=Y5 pre;have o:(js (pre++[b]))[G pre*3]?=Q (J U b.line):=by rw[kk,<-d];simp
 have k:(js (pre++[b]))[G pre*3+1]?=Q (J U b.kind):=by rw[kk,<-d];simp
 have j:(js (pre++[b]))[G pre*3+2]?=Q (A b.aB):=by rw[kk,<-d];simp
 obtain⟨g,cap,rfl,D,_,z⟩:=yD h.own o;obtain⟨_,_,i,_,_,y⟩:=yD h.own k;obtain⟨_,_,f,_,_,x⟩:=yD h.own j;simp at i f;obtain⟨rfl,_⟩:=i;obtain⟨rfl,_⟩:=f;exact⟨_,cap,by simp,by omega,z,y,x⟩
theorem Kb:Rt.jE (pre++[b])=b:=by simp[Rt.jE]
theorem bu (m:Nat) (h:m+1<=1000):IntKind.i64.wrap ((m:Int)+1-1)=(m:Int):=by
 rw[show (m:Int)+1-1=(m:Int) by omega,yv,yC _ (by omega)]
theorem bw (m:Nat) (h:m+1<=1000):IntKind.i64.wrap (m:Int)=(m:Int):=by
 rw[yv,yC _ (by omega)]
theorem tu (h:vR w S bs bv) (o:G bs<=1000):Calls Tryz.prog 123 #[H (Q ⟨S,0,Z⟩),J U kind] w fun e w'=>e=T (A (Rt.Yj bs kind))/\Below w.heap.size w w':=by
 have z:=zC h.block 0 (by simp);simp at z;by_cases k0:kind=0
 ·have y:(kind==0)=D:=by simpa using k0
  have d:=zD (show Rt.Yj bs kind=D by simp[Rt.Yj,k0]);clear k0 h;go_enter func123,ntmps123;go_wp2;go_ret;exact⟨by rw[d.u];simp,zI _ _⟩
 have y:(kind==0)=W:=by simpa using k0
 rcases en bs with rfl | ⟨pre,b,rfl⟩
 ·obtain⟨ad,cap,rfl⟩:=zK h.own;simp only[qQ]at z;by_cases k1:kind=1
  ·have k:(kind==1)=D:=by simpa using k1
   have d:=zD (show Rt.Yj [] kind=D by simp[Rt.Yj,k1]);clear k0 k1 h;go_enter func123,ntmps123;go_wp2;go_ret;exact⟨by rw[d.u];simp,zI _ _⟩
  have k:(kind==1)=W:=by simpa using k1
  by_cases k2:kind=2
  ·have j:(kind==2)=D:=by simpa using k2
   have d:=zD (show Rt.Yj [] kind=D by simp[Rt.Yj,k2]);clear k0 k1 k2 h;go_enter func123,ntmps123;go_wp2;go_ret;exact⟨by rw[d.u];simp,zI _ _⟩
  have j:(kind==2)=W:=by simpa using k2
  by_cases k3:kind=3
  ·have i:(kind==3)=D:=by simpa using k3
   have d:=zD (show Rt.Yj [] kind=D by simp[Rt.Yj,k3]);clear k0 k1 k2 k3 h;go_enter func123,ntmps123;go_wp2;go_ret;exact⟨by rw[d.u];simp,zI _ _⟩
  have i:(kind==3)=W:=by simpa using k3
  have d:=zD (show Rt.Yj [] kind=W by simp[Rt.Yj,k0,k1,k2,k3]);clear k0 k1 k2 k3 h;go_enter func123,ntmps123;go_wp2;go_ret;exact⟨by rw[d.u];simp,zI _ _⟩
 ·obtain⟨g,cap,rfl,V,d0,d1,d2⟩:=h.last;have f:G pre+1<=1000:=by simpa using o
  have R:(((G pre:Int)+1)==0)=W:=by rw[zV];omega
  by_cases k1:kind=1
  ·have k:(kind==1)=D:=by simpa using k1
   have d:=zD (show Rt.Yj (pre++[b]) kind=W by simp[Rt.Yj,k1]);clear k0 k1 h;go_enter func123,ntmps123;go_wp2;go_ret;exact⟨by rw[d.u];simp,zI _ _⟩
  have k:(kind==1)=W:=by simpa using k1
  by_cases k2:kind=2
  ·have j:(kind==2)=D:=by simpa using k2
   have d:=zD (show Rt.Yj (pre++[b]) kind=W by simp[Rt.Yj,k2]);clear k0 k1 k2 h;go_enter func123,ntmps123;go_wp2;go_ret;exact⟨by rw[d.u];simp,zI _ _⟩
  have j:(kind==2)=W:=by simpa using k2
  by_cases k3:kind=3
  ·have i:(kind==3)=D:=by simpa using k3
   have d:=zD (show Rt.Yj (pre++[b]) kind=W by simp[Rt.Yj,k3]);clear k0 k1 k2 k3 h;go_enter func123,ntmps123;go_wp2;go_ret;exact⟨by rw[d.u];simp,zI _ _⟩
  have i:(kind==3)=W:=by simpa using k3
  by_cases k6:kind=6
  ·have x:(kind==6)=D:=by simpa using k6
   have d:=zD (show Rt.Yj (pre++[b]) kind=(decide (b.kind=5) && !b.aB) by simp[Rt.Yj,k6,Kb]);clear k0 k1 k2 k3 k6 h;generalize (G pre)=m at *;have O:(0:Int)<=(m:Int):=by omega
   have N:(m:Int) < (m:Int)+1:=by omega
   have M:(m:Int)<=1000:=by omega
   have L:=bu m f;have F:=bw m f;go_enter func123,ntmps123;go_wp2_with fail;go_region_held3 (fun w'=>w'.cell? ⟨S,0,Z⟩=Q (I (Q ⟨g,0,Z⟩) (m+1) cap)/\w'.cell? ⟨g,m*3,Z⟩=Q (J U b.line)/\w'.cell? ⟨g,m*3+1,Z⟩=Q (J U b.kind)/\w'.cell? ⟨g,m*3+2,Z⟩=Q (A b.aB)) (go_keep) (fail);go_wp2_with fail
   all_goals
    go_ret;exact⟨by rw[d.u];simp_all,((zI _ _).alloc (zB _) _).drew⟩
  ·have x:(kind==6)=W:=by simpa using k6
   have d:=zD (show Rt.Yj (pre++[b]) kind=D by simp[Rt.Yj,k0,k1,k2,k3,k6]);clear k0 k1 k2 k3 k6 h;go_enter func123,ntmps123;go_wp2;go_ret;exact⟨by rw[d.u];simp,zI _ _⟩
theorem Ek:(Tryz.prog.info? 212).map (fun i=>(i.zero,i.size,i.bytes))=Q (Q (L #[J U 0,J U 0,A W]),3,24):=by kernel_rfl
def mV (bs:List Rt.Zx) (S:Nat) (bv:Value) (w:World) (e:Ending) (w':World):Prop:=e=T (E #[])/\∃bv',vR w' S bs bv'/\ZJ S bv bv' w w'
theorem vR.put {bs':List Rt.Zx} {bv':Value} (h:vR w S bs bv) (f:Below w.heap.size w wx) (x:wx.grownBy w1 row) (j:row=bv.ownBlock) (o:w1.ownsRow (S+1) 212 3 bv' (G bs') (js bs')) (A:∀g,bv'.ownBlock=Q g->bv.ownBlock=Q g\/w.heap.size<=g):vR (w1.setCell ⟨S,0,Z⟩ bv') S bs' bv'/\ZJ S bv bv' w (w1.setCell ⟨S,0,Z⟩ bv'):=by
 subst j;have z:=zQ h.block;have y:∀k,k<=S->Q k≠bv.ownBlock:=fun k hk e=>by have:=(h.own.lt k e.symm).1;omega
 have d:∀k,k < w.heap.size->Q k≠bv.ownBlock->w1.heap[k]?=w.heap[k]?:=fun k hk hv=>(x.block k (zX hk f.size) hv).trans (f.block k hk);have i:∀k,k≠S->(w1.setCell ⟨S,0,Z⟩ bv').heap[k]?=w1.heap[k]?:=fun k hk=>zO w1 ⟨S,0,Z⟩ _ k hk;refine⟨⟨?_,qL o (by show S < S+1;omega) _⟩,⟨x.os.trans f.os,x.tape.trans f.tape,x.output.trans f.output,?_,fun k hk h1 h2=>(i k h1).trans (d k hk h2),A⟩⟩
 ·have:=zf ((d S z (y S (zB _))).trans h.block) 0 bv';simpa using this
 ·have:=x.size;have:=f.size;simp[World.setCell];omega
theorem nP:w.grownBy w row:=⟨rfl,rfl,rfl,zB _,fun _ _ _=>rfl⟩
theorem CY (h:vR w S bs bv) (j:Below w.heap.size w wx) (k:wx.grownBy w1 row) (d:row=bv.ownBlock):w1.cell? ⟨S,0,Z⟩=Q bv/\w1.frozen? ⟨S,0,Z⟩=W:=by
 subst d;have f:=zQ h.block;have i:w1.heap[S]?=Q (V #[bv] 181 (0,0)):=by
  rw[k.block S (zX f j.size) (fun e=>by have:=(h.own.lt S e.symm).1;omega),j.block S f];exact h.block
 exact⟨zC i 0 (by simp),zS i 0⟩
theorem hH {a b c:Value}:∀j u,[a,b,c][j]?=Q u->(w.alloc (V #[a,b,c] t)).cell? ((⟨w.heap.size,0,Z⟩:Addr).add j)=Q u:=by
 intro j u d
 match j,d with
 | 0,d=>simp at d;subst d;simp[Addr.add]
 | 1,d=>simp at d;subst d;simp[Addr.add]
 | 2,d=>simp at d;subst d;simp[Addr.add]
 | j+3,d=>simp at d
theorem Dg:(js (pre++[b])).set (G pre*3+2) (A D)=js (pre++[⟨b.line,b.kind,D⟩]):=by
 have d:=Y5 pre;rw[kk,kk,<-d];rw[J5,zA (by omega)];simp
theorem AK (n:Nat) (d:Int) (h:vR w S bs bv) (D:G bs<=1000) (hk:d=3\/d=5\/d=7):Calls Tryz.prog 126 #[H (Q ⟨S,0,Z⟩),J U n,J U d] w (mV (bs++[⟨n,d,W⟩]) S bv w):=by
 obtain⟨M,y,x,o,k⟩:=yi Ek;have I:=zQ h.block;have O:=zC h.block 0 (by simp);simp at O;have j:=h.own;have L:=zD h;obtain⟨T,cap,rfl⟩:=zK h.own;rcases hk with rfl | rfl | rfl
 all_goals
  go_enter func126,ntmps126;go_wp2_with (at_builtin;refine wpList_append_lies _ rfl (.tmp 15) (.tmp 19) 179 rfl (S+1) 212 M _ 3 24 underlying179 y x o k rfl (by decide) _ _ _ rfl (j.alloc _) ⟨w.heap.size,0,Z⟩ 1 1 [J U n,J U _,A W] rfl rfl (hH) (by simp[Value.oneCell']) (by omega) (by unfold maxLen;omega) (by omega) (by simp;omega) (w.heap.size+1) (by simp) ?_);intro g cap' w1 i f hat z;obtain⟨F,N⟩:=CY L.u ((zI _ _).alloc (zB _) _) f rfl;have R:=zD (L.u.put (bs':=bs++[⟨n,_,W⟩]) ((zI _ _).alloc (zB _) _) f rfl (by rw[kk,ze];exact i) (fun g' hg'=>by simp[Value.ownBlock]at hg';subst hg';rcases hat with h | h;exact Or.inl h;exact Or.inr (by omega)));go_wp2;go_end0;exact⟨rfl,_,R.u⟩
theorem AL (n:Nat) (h:vR w S (pre++[b]) bv) (f:G pre+1<=1000):Calls Tryz.prog 126 #[H (Q ⟨S,0,Z⟩),J U n,J U 6] w (mV (pre++[⟨b.line,b.kind,D⟩]) S bv w):=by
 have z:=zC h.block 0 (by simp);simp at z;obtain⟨g,cap,rfl,L,R,O,N⟩:=h.last;have d:=h.own;simp only[ze,yE,qQ,xW]at d;have M:=d.frozenAt (G pre*3+2);have F:Hd (vR ((w.setCell ⟨g,G pre*3+2,Z⟩ (A D)).drew) S (pre++[⟨b.line,b.kind,D⟩]) (I (Q ⟨g,0,Z⟩) (G pre+1) cap)/\ZJ S (I (Q ⟨g,0,Z⟩) (G pre+1) cap) (I (Q ⟨g,0,Z⟩) (G pre+1) cap) w ((w.setCell ⟨g,G pre*3+2,Z⟩ (A D)).drew)):=by
  refine zD ?_;obtain⟨j,i⟩:=d.stored (G pre*3+2) (A D);refine⟨⟨?_,?_⟩,⟨rfl,rfl,rfl,i.size,fun k hk _ h2=>i.block k hk (by simpa[Value.ownBlock] using h2),fun _ h=>Or.inl h⟩⟩
  ·show (w.setCell ⟨g,G pre*3+2,Z⟩ (A D)).heap[S]?=_;rw[zO w ⟨g,G pre*3+2,Z⟩ _ S (by show S≠g;omega)];exact h.block
  ·rw[Dg]at j;rw[ze];exact World.ownsRow.drew j
 generalize (G pre)=m at *;have x:(m:Int) < (m:Int)+1:=by omega
 have o:=bw m f;have y:¬g=S:=by omega
 go_enter func126,ntmps126;go_wp2_with fail;go_region_held3 (fun w'=>w'.cell? ⟨S,0,Z⟩=Q (I (Q ⟨g,0,Z⟩) (m+1) cap)) (first | go_keep | (simp[xD, *];omega)) (fail);go_wp2;go_end0;exact⟨rfl,_,F.u⟩
theorem CK (n:Nat) (h:vR w S (pre++[b]) bv) (f:G pre+1<=1000):Calls Tryz.prog 126 #[H (Q ⟨S,0,Z⟩),J U n,J U 4] w (mV pre S bv w):=by
 have x:=zC h.block 0 (by simp);have A:=zS h.block 0;simp at x;obtain⟨g,cap,rfl,z,L,F,D⟩:=h.last;have hown:=h.own;simp only[ze,yE,qQ,xW]at hown;have j:G pre+1<=cap:=by
  rcases hown.2 with⟨i,_⟩| ⟨g',cap',cur,i,_,_,hn,_⟩
  ·cases i
  ·simp at i;omega
 have d:w.ownsRow (S+1) 212 3 (I (Q ⟨g,0,Z⟩) (G pre) cap) (G pre) (js pre):=by
  rw[kk]at hown;exact ownsRow_pop (Y5 pre) hown
 have y:=zD (h.put (bs':=pre) (below_drewN w 1) (nP) rfl d (fun g' hg'=>Or.inl hg'));generalize (G pre)=m at *;have o:=bw m f;have k:(m:Int)<=(cap:Int):=by omega
 go_enter func126,ntmps126;go_wp2_with fail;go_region_law (fail)
 all_goals
  go_wp2;go_end0;exact⟨rfl,_,y.u⟩
theorem lL (n:Nat) (d:Int) (h:vR w S [] bv) (hk:d=4\/d=6):Calls Tryz.prog 126 #[H (Q ⟨S,0,Z⟩),J U n,J U d] w (mV [] S bv w):=by
 have f:=zC h.block 0 (by simp);simp at f;have i:=zD h;obtain⟨j,cap,rfl⟩:=zK h.own;simp only[qQ]at f;rcases hk with rfl | rfl
 all_goals
  go_enter func126,ntmps126;go_wp2;go_end0;exact⟨rfl,_,i.u,ZJ.refl _ _ _⟩
theorem sL (n:Nat) (d:Int) (h:vR w S bs bv) (o:¬d=3) (j:¬d=5) (f:¬d=7) (i:¬d=6) (k:¬d=4):Calls Tryz.prog 126 #[H (Q ⟨S,0,Z⟩),J U n,J U d] w (mV bs S bv w):=by
 have x:=zD h;have F:(d==3)=W:=by simpa using o
 have A:(d==5)=W:=by simpa using j
 have y:(d==7)=W:=by simpa using f
 have z:(d==6)=W:=by simpa using i
 have D:(d==4)=W:=by simpa using k
 go_enter func126,ntmps126;go_wp2;go_end0;exact⟨rfl,_,x.u,ZJ.refl _ _ _⟩
theorem CL (h:vR w S bs bv) (d:G bs<=1000):Calls Tryz.prog 126 #[H (Q ⟨S,0,Z⟩),J U n,J U kind] w (mV (Rt.qK bs n kind) S bv w):=by
 by_cases ho:kind=3\/kind=5\/kind=7
 ·rw[Rt.qK,zE ho];exact AK n kind h d ho
 by_cases h6:kind=6
 ·subst h6;rcases en bs with rfl | ⟨pre,b,rfl⟩
  ·exact lL n 6 h (Or.inr rfl)
  ·have e:Rt.qK (pre++[b]) n 6=pre++[⟨b.line,b.kind,D⟩]:=by simp[Rt.qK,Kb]
   rw[e];exact AL n h (by simpa using d)
 by_cases h4:kind=4
 ·subst h4;rcases en bs with rfl | ⟨pre,b,rfl⟩
  ·exact lL n 4 h (Or.inl rfl)
  ·have e:Rt.qK (pre++[b]) n 4=pre:=by simp[Rt.qK]
   rw[e];exact CK n h (by simpa using d)
 ·have e:Rt.qK bs n kind=bs:=by simp[Rt.qK,ho,h6,h4]
  rw[e];exact sL n kind h (fun x=>ho (Or.inl x)) (fun x=>ho (Or.inr (Or.inl x))) (fun x=>ho (Or.inr (Or.inr x))) h6 h4
theorem vR.first (h:vR w S bs bv) (f:¬bs=[]) (i:bv=I (Q ⟨g,0,Z⟩) n cap):w.cell? ⟨g,0,Z⟩=Q (J U (Rt.kr bs).line):=by
 have j:(js bs)[0]?=Q (J U (Rt.kr bs).line):=by
  cases bs with
  | nil=>exact absurd rfl f
  | cons b r=>simp[js,bX,Rt.kr]
 obtain⟨g',cap',d,_,_,c⟩:=yD h.own j;rw[i]at d;simp at d;rw[d.1];exact c
theorem sH (pl:Rt.PL) (M F A z:Option Addr) (y o k j:Nat) (i f:Int) (h:vR w S bs bv) (R:G bs<=1000):Calls Tryz.prog 124 #[H (Q ⟨S,0,Z⟩),L (kZ (I M (G pl.yY) y) #[J U pl.form.kind,O pl.form.name,J U pl.form.cells,I F (G pl.form.params) o,I A (G pl.form.index) k,I z (G pl.form.values) j] i f pl).toArray] w fun e w'=>
   e=T (L (kZ (I M (G pl.yY) y) #[J U pl.form.kind,O pl.form.name,J U pl.form.cells,I F (G pl.form.params) o,I A (G pl.form.index) k,I z (G pl.form.values) j] i f (Rt.ym bs pl)).toArray)/\Below w.heap.size w w':=by
 have cs:=zC h.block 0 (by simp);simp at cs;have a5:=zQ h.block;rcases en bs with rfl | ⟨pre,b,rfl⟩
 ·obtain⟨ad,cap,rfl⟩:=zK h.own;simp only[qQ]at cs;clear h;simp only[kZ,yF,xN];go_enter func124,ntmps124;go_wp2_with fail;refine zT (v:=L (kZ (I M (G pl.yY) y) #[J U pl.form.kind,O pl.form.name,J U pl.form.cells,I F (G pl.form.params) o,I A (G pl.form.index) k,I z (G pl.form.values) j] i f pl).toArray) ?_ rfl ⟨rfl,((zI _ _).alloc (zB _) _).alloc (by simp) _⟩;simp[results,results124,go_sem,kZ]
 ·obtain⟨g,cap,rfl,hg,d0,d1,d2⟩:=h.last;have d3:=h.first (by simp) rfl;have V:=zt w _ d0;have N:G pre+1<=1000:=by simpa using R
  simp at V;have a6:(((G pre:Int)+1)==0)=W:=by rw[zV];omega
  have HL:=zD (show ∀pl',(L (kZ (I M (G pl.yY) y) #[J U pl.form.kind,O pl.form.name,J U pl.form.cells,I F (G pl.form.params) o,I A (G pl.form.index) k,I z (G pl.form.values) j] i f pl').toArray:Value)=L #[I M (G pl.yY) y,J U pl.form.kind,O pl.form.name,J U pl.form.cells,I F (G pl.form.params) o,I A (G pl.form.index) k,I z (G pl.form.values) j,J U pl'.depth,J U pl'.opener,J U i,J U f,J U pl'.proc]from fun pl'=>by simp[kZ]);rw[HL.u pl];by_cases hk:pl.form.kind=6\/pl.form.kind=4
  ·have HE:Hd (Rt.ym (pre++[b]) pl=⟨pl.yY,pl.form,(G pre:Int),b.line,(Rt.kr (pre++[b])).line⟩):=by
    refine zD ?_;rw[Rt.ym,zA (by simp),zE hk,Kb];simp
   generalize (Rt.kr (pre++[b])).line=fl at *;clear h;generalize hm:G pre=m at *;have HM:=zD hm;clear hm;have b1:(0:Int)<=(m:Int):=by omega
   have b0:(m:Int) < (m:Int)+1:=by omega
   have a9:(m:Int)<=1000:=by omega
   have a8:=bu m N;have a7:=bw m N;have a4:(0:Int) < (m:Int)+1:=by omega
   have d:∀(e:Ending),e=T (L #[I M (G pl.yY) y,J U pl.form.kind,O pl.form.name,J U pl.form.cells,I F (G pl.form.params) o,I A (G pl.form.index) k,I z (G pl.form.values) j,J U m,J U b.line,J U i,J U f,J U fl])->
     e=T (L (kZ (I M (G pl.yY) y) #[J U pl.form.kind,O pl.form.name,J U pl.form.cells,I F (G pl.form.params) o,I A (G pl.form.index) k,I z (G pl.form.values) j] i f (Rt.ym (pre++[b]) pl)).toArray):=by
    intro e he;rw[he,HL.u,HE.u]
   have HF:=zD d;clear d HL HE HM;generalize pl.form.kind=kx at *;rcases hk with hk | hk
   ·have k6:(kx==6)=D:=by simpa using hk
    clear hk;go_enter func124,ntmps124;go_wp2_with fail;go_region_held3 (fun w'=>w'.cell? ⟨S,0,Z⟩=Q (I (Q ⟨g,0,Z⟩) (m+1) cap)/\w'.cell? ⟨g,m*3,Z⟩=Q (J U b.line)) (go_keep) (fail);go_wp2_with fail;refine zT (v:=L #[I M (G pl.yY) y,J U kx,O pl.form.name,J U pl.form.cells,I F (G pl.form.params) o,I A (G pl.form.index) k,I z (G pl.form.values) j,J U m,J U b.line,J U i,J U f,J U fl]) ?_ rfl ⟨HF.u _ rfl,(((zI _ _).alloc (zB _) _).alloc (by simp) _).drew⟩;simp[results,results124,go_sem]
   ·have k6:(kx==6)=W:=by rw[hk];rfl
    have k4:(kx==4)=D:=by simpa using hk
    clear hk;go_enter func124,ntmps124;go_wp2_with fail;go_region_held3 (fun w'=>w'.cell? ⟨S,0,Z⟩=Q (I (Q ⟨g,0,Z⟩) (m+1) cap)/\w'.cell? ⟨g,m*3,Z⟩=Q (J U b.line)) (go_keep) (fail);go_wp2_with fail;refine zT (v:=L #[I M (G pl.yY) y,J U kx,O pl.form.name,J U pl.form.cells,I F (G pl.form.params) o,I A (G pl.form.index) k,I z (G pl.form.values) j,J U m,J U b.line,J U i,J U f,J U fl]) ?_ rfl ⟨HF.u _ rfl,(((zI _ _).alloc (zB _) _).alloc (by simp) _).drew⟩;simp[results,results124,go_sem]
  ·have HE:Hd (Rt.ym (pre++[b]) pl=⟨pl.yY,pl.form,(G pre:Int)+1,pl.opener,(Rt.kr (pre++[b])).line⟩):=by
    refine zD ?_;rw[Rt.ym,zA (by simp),zA hk];simp
   generalize (Rt.kr (pre++[b])).line=fl at *;clear h;generalize (G pre)=m at *;have d:∀(e:Ending),e=T (L #[I M (G pl.yY) y,J U pl.form.kind,O pl.form.name,J U pl.form.cells,I F (G pl.form.params) o,I A (G pl.form.index) k,I z (G pl.form.values) j,J U ((m:Int)+1),J U pl.opener,J U i,J U f,J U fl])->
     e=T (L (kZ (I M (G pl.yY) y) #[J U pl.form.kind,O pl.form.name,J U pl.form.cells,I F (G pl.form.params) o,I A (G pl.form.index) k,I z (G pl.form.values) j] i f (Rt.ym (pre++[b]) pl)).toArray):=by
    intro e he;rw[he,HL.u,HE.u]
   have HF:=zD d;clear d HL HE;have a4:(0:Int) < (m:Int)+1:=by omega
   generalize pl.form.kind=kx at *;have k6:(kx==6)=W:=by rw[zV];exact fun x=>hk (Or.inl x)
   have k4:(kx==4)=W:=by rw[zV];exact fun x=>hk (Or.inr x)
   clear hk;go_enter func124,ntmps124;go_wp2_with fail;refine zT (v:=L #[I M (G pl.yY) y,J U kx,O pl.form.name,J U pl.form.cells,I F (G pl.form.params) o,I A (G pl.form.index) k,I z (G pl.form.values) j,J U ((m:Int)+1),J U pl.opener,J U i,J U f,J U fl]) ?_ rfl ⟨HF.u _ rfl,((zI _ _).alloc (zB _) _).alloc (by simp) _⟩;simp[results,results124,go_sem]
end
section
open Go.RowKit
theorem Kq.len (h:Kq w B p c):G c=12:=by
 obtain⟨tv,fv,f,d,rfl,_,⟨j,iv,vv,i,rfl,_⟩⟩:=h;rfl
theorem ja.part {w:World} {B:Nat}:∀(acc:List Rt.PL) (p:Rt.PL) (r:List Rt.PL) (cs:List (List Value)),ja w B (acc++p::r) cs->∃c1 c c2,cs=c1++c::c2/\G c1.flatten=G acc*12/\ja w B acc c1/\Kq w B p c/\ja w B r c2
 | [],p,r,c::cs,⟨h1,h2⟩=>⟨[],c,cs,rfl,rfl,trivial,h1,h2⟩
 | [],_,_,[],h=>h.elim
 | a::acc,p,r,c::cs,⟨h1,h2⟩=>by
  obtain⟨c1,j,c2,rfl,d,g1,i,f⟩:=ja.part acc p r cs h2;refine⟨c::c1,j,c2,rfl,?_,⟨h1,g1⟩,i,f⟩;simp[h1.len]at d ⊢;omega
 | _::_,_,_,[],h=>h.elim
theorem ja.join {w:World} {B:Nat}:∀(acc:List Rt.PL) (p:Rt.PL) (r:List Rt.PL) (c1:List (List Value)) (c:List Value) (c2:List (List Value)),ja w B acc c1->Kq w B p c->ja w B r c2->ja w B (acc++p::r) (c1++c::c2)
 | [],_,_,[],_,_,_,h2,h3=>⟨h2,h3⟩
 | _::acc,p,r,_::c1,c,c2,⟨h1,h1'⟩,h2,h3=>⟨h1,ja.join acc p r c1 c c2 h1' h2 h3⟩
 | [],_,_,_::_,_,_,h,_,_=>h.elim
 | _::_,_,_,[],_,_,h,_,_=>h.elim
def GN (w:World) (g o:Nat) (v0 v1 v2 v3 v4 v5 v6 v7 v8 v9 v10 v11:Value):Prop:=
 w.cell? ⟨g,o,Z⟩=Q v0/\w.cell? ⟨g,o+1,Z⟩=Q v1/\w.cell? ⟨g,o+2,Z⟩=Q v2/\w.cell? ⟨g,o+3,Z⟩=Q v3/\w.cell? ⟨g,o+4,Z⟩=Q v4/\
 w.cell? ⟨g,o+5,Z⟩=Q v5/\w.cell? ⟨g,o+6,Z⟩=Q v6/\w.cell? ⟨g,o+7,Z⟩=Q v7/\w.cell? ⟨g,o+8,Z⟩=Q v8/\w.cell? ⟨g,o+9,Z⟩=Q v9/\w.cell? ⟨g,o+10,Z⟩=Q v10/\w.cell? ⟨g,o+11,Z⟩=Q v11
def FF (w:World) (g o:Nat):Prop:=
 w.frozen? ⟨g,o,Z⟩=W/\w.frozen? ⟨g,o+1,Z⟩=W/\w.frozen? ⟨g,o+2,Z⟩=W/\w.frozen? ⟨g,o+3,Z⟩=W/\w.frozen? ⟨g,o+4,Z⟩=W/\
 w.frozen? ⟨g,o+5,Z⟩=W/\w.frozen? ⟨g,o+6,Z⟩=W/\w.frozen? ⟨g,o+7,Z⟩=W/\w.frozen? ⟨g,o+8,Z⟩=W/\w.frozen? ⟨g,o+9,Z⟩=W/\w.frozen? ⟨g,o+10,Z⟩=W/\w.frozen? ⟨g,o+11,Z⟩=W
theorem Hg.get (h:Hg w P B (acc++p::r) lv cs):∃g cap a0 a1 a2 a3 c0 c1 c2 c3 xe xf,lv=I (Q ⟨g,0,Z⟩) (acc++p::r).length cap/\g < w.heap.size/\
   GN w g (G acc*12) (I a0 (G p.yY) c0) (J U p.form.kind) (O p.form.name) (J U p.form.cells) (I a1 (G p.form.params) c1) (I a2 (G p.form.index) c2) (I a3 (G p.form.values) c3) (J U p.depth) (J U p.opener) (J U xe) (J U xf) (J U p.proc)/\FF w g (G acc*12)/\
   w.ownsRow B 188 2 (I a0 (G p.yY) c0) (G p.yY) (qa p.yY)/\
   qk w B #[J U p.form.kind,O p.form.name,J U p.form.cells,I a1 (G p.form.params) c1,I a2 (G p.form.index) c2,I a3 (G p.form.values) c3] p.form:=by
 obtain⟨c1,c,c2,H,hl,_,hc,_⟩:=h.lines.part;obtain⟨tv,fv,xe,xf,f,M,N⟩:=hc;have F:=N;obtain⟨pv,iv,vv,vs,D,b1,b2,b3,_⟩:=N;obtain⟨a0,k0,rfl⟩:=zK M;obtain⟨a1,V,rfl⟩:=zK b1;obtain⟨a2,T,rfl⟩:=zK b2;obtain⟨a3,R,rfl⟩:=zK b3;subst D;have x:∀j u,c[j]?=Q u->cs.flatten[G acc*12+j]?=Q u:=by
  intro j u A;rw[H,List.flatten_append,yU (by omega),hl,vY,List.flatten_cons,yp (qy.1 A).1];exact A
 have k:=h.own;obtain⟨g,cap,y,hg,z,_⟩:=yD k (x 0 _ (by rw[f];rfl));have d:∀j u,c[j]?=Q u->w.cell? ⟨g,G acc*12+j,Z⟩=Q u:=by
  intro j u A;obtain⟨g',cap',o,_,_,L⟩:=yD k (x j u A);rw[y]at o;simp at o;rw[o.1];exact L
 have i:∀j,w.frozen? ⟨g,j,Z⟩=W:=by
  intro j;rw[y]at k;exact k.frozenAt j
 refine⟨g,cap,a0,a1,a2,a3,k0,V,T,R,xe,xf,y,z,⟨?_,?_,?_,?_,?_,?_,?_,?_,?_,?_,?_,?_⟩,⟨i _,i _,i _,i _,i _,i _,i _,i _,i _,i _,i _,i _⟩,M,F⟩
 ·exact d 0 _ (by rw[f];rfl)
 ·exact d 1 _ (by rw[f];rfl)
 ·exact d 2 _ (by rw[f];rfl)
 ·exact d 3 _ (by rw[f];rfl)
 ·exact d 4 _ (by rw[f];rfl)
 ·exact d 5 _ (by rw[f];rfl)
 ·exact d 6 _ (by rw[f];rfl)
 ·exact d 7 _ (by rw[f];rfl)
 ·exact d 8 _ (by rw[f];rfl)
 ·exact d 9 _ (by rw[f];rfl)
 ·exact d 10 _ (by rw[f];rfl)
 ·exact d 11 _ (by rw[f];rfl)
abbrev Bc (w:World) (g o:Nat) (v0 v1 v2 v3 v4 v5 v6 v7 v8 v9 v10 v11:Value):World:=
 (((((((((((w.setCell ⟨g,o,Z⟩ v0).setCell ⟨g,o+1,Z⟩ v1).setCell ⟨g,o+2,Z⟩ v2).setCell ⟨g,o+3,Z⟩ v3).setCell ⟨g,o+4,Z⟩ v4).setCell ⟨g,o+5,Z⟩ v5).setCell ⟨g,o+6,Z⟩ v6).setCell ⟨g,o+7,Z⟩ v7).setCell ⟨g,o+8,Z⟩ v8).setCell ⟨g,o+9,Z⟩ v9).setCell ⟨g,o+10,Z⟩ v10).setCell ⟨g,o+11,Z⟩ v11
theorem dK (w:World) (g o:Nat) (G F D A z y x j i h f d:Value) (k:Nat) (H:k≠g):(Bc w g o G F D A z y x j i h f d).heap[k]?=w.heap[k]?:=by
 simp only[Bc]
 repeat rw[zO _ _ _ _ H]
theorem Dk (w:World) (g o:Nat) (F D A z y x k j i h f d:Value):(Bc w g o F D A z y x k j i h f d).heap.size=w.heap.size:=by simp[World.setCell]
theorem jP {e:TypeId} {A C:List Value} (h:w.ownsRow B e 12 (I (Q ⟨g,0,Z⟩) n cap) n (A++c++C)) (j:Nat) (v:Value) (f:j < G c):(w.setCell ⟨g,G A+j,Z⟩ v).ownsRow B e 12 (I (Q ⟨g,0,Z⟩) n cap) n (A++c.set j v++C):=by
 have d:=(h.stored (G A+j) v).1;have e:(A++c++C).set (G A+j) v=A++c.set j v++C:=by
  rw[yK,J5,zA (by omega),vY,J5,zE f,yK]
 rw[e]at d;exact d
theorem qH.put {p':Rt.PL} (h:qH w P (acc++p::r) (I (Q ⟨g,0,Z⟩) n cap) cs) (hn:n=(acc++p::r).length) (H F D A:Option Addr) (z y x o:Nat) (i f:Int) (ht:w.ownsRow (P+1) 188 2 (I H (G p'.yY) z) (G p'.yY) (qa p'.yY)) (hf:qk w (P+1) #[J U p'.form.kind,O p'.form.name,J U p'.form.cells,I F (G p'.form.params) y,I D (G p'.form.index) x,I A (G p'.form.values) o] p'.form):∃cs',qH (Bc w g (G acc*12) (I H (G p'.yY) z) (J U p'.form.kind) (O p'.form.name) (J U p'.form.cells) (I F (G p'.form.params) y) (I D (G p'.form.index) x) (I A (G p'.form.values) o) (J U p'.depth) (J U p'.opener) (J U i) (J U f) (J U p'.proc))
   P (acc++p'::r) (I (Q ⟨g,0,Z⟩) n cap) cs':=by
 obtain⟨d1,c,d2,W,hl,hA,hc,hC⟩:=h.lines.part;have hg:P < g:=by
  have:=(h.own.lt g rfl).1;omega
 have L:Qc w (Bc w g (G acc*12) (I H (G p'.yY) z) (J U p'.form.kind) (O p'.form.name) (J U p'.form.cells) (I F (G p'.form.params) y) (I D (G p'.form.index) x) (I A (G p'.form.values) o) (J U p'.depth) (J U p'.opener) (J U i) (J U f) (J U p'.proc)) (P+1) (P+1):=by
  intro t a4 n' v xs R hv;have T:=Ys hv h.own R;obtain⟨h1,h2⟩:=hv;refine⟨h1,?_⟩;rcases h2 with h2 | ⟨g',cap',cur,j,V,hh,rr⟩
  ·exact Or.inl h2
  ·exact Or.inr ⟨g',cap',cur,j,V,by rw[dK _ _ _ _ _ _ _ _ _ _ _ _ _ _ _ _ (fun e=>T g' (by rw[j];rfl) (by rw[e];rfl))];exact hh,rr⟩
 refine⟨d1++kZ (I H (G p'.yY) z) #[J U p'.form.kind,O p'.form.name,J U p'.form.cells,I F (G p'.form.params) y,I D (G p'.form.index) x,I A (G p'.form.values) o] i f p'::d2,?_,?_,?_⟩
 ·rw[dK _ _ _ _ _ _ _ _ _ _ _ _ _ _ _ _ (by omega)];exact h.block
 ·have d:=h.own;rw[<-hn]at d;have e1:cs.flatten=d1.flatten++c++d2.flatten:=by rw[W];simp
  have e2:(acc++p'::r).length=n:=by rw[hn];simp
  have k:=hc.len
  match c,k with
  | [x0,x1,x2,x3,x4,x5,x6,x7,x8,x9,x10,x11],_=>
   rw[e1]at d;rw[e2,<-hl];have s0:=jP d 0 (I H (G p'.yY) z) (by simp);have s1:=jP s0 1 (J U p'.form.kind) (by simp);have s2:=jP s1 2 (O p'.form.name) (by simp);have s3:=jP s2 3 (J U p'.form.cells) (by simp);have s4:=jP s3 4 (I F (G p'.form.params) y) (by simp);have s5:=jP s4 5 (I D (G p'.form.index) x) (by simp);have s6:=jP s5 6 (I A (G p'.form.values) o) (by simp);have s7:=jP s6 7 (J U p'.depth) (by simp);have s8:=jP s7 8 (J U p'.opener) (by simp);have s9:=jP s8 9 (J U i) (by simp);have N:=jP s9 10 (J U f) (by simp);have M:=jP N 11 (J U p'.proc) (by simp);simpa[kZ] using M
 ·exact ja.join _ _ _ _ _ _ (L.lines _ _ hA) ⟨_,_,i,f,rfl,L _ _ _ _ _ (by decide) ht,L.form hf⟩ (L.lines _ _ hC)
end
section
open Go.RowKit
attribute [local go_sem ↓] Go.wp_at_zero Go.wp_at_succ
theorem KL (d:i < G zL):zL=zL.take i++zL[i]::zL.drop (i+1):=by
 rw[<-zZ d,kt]
theorem Hg.at {w:World} {P B:Nat} {zL:List Rt.PL} {lv:Value} {cs:List (List Value)} (h:Hg w P B zL lv cs) {i:Nat} (x:i < G zL):∃g cap a0 a1 a2 a3 c0 c1 c2 c3 xe xf,lv=I (Q ⟨g,0,Z⟩) (G zL) cap/\g < w.heap.size/\
   GN w g (i*12) (I a0 zL[i].yY.length c0) (J U zL[i].form.kind) (O zL[i].form.name) (J U zL[i].form.cells) (I a1 zL[i].form.params.length c1) (I a2 zL[i].form.index.length c2) (I a3 zL[i].form.values.length c3) (J U zL[i].depth) (J U zL[i].opener) (J U xe) (J U xf) (J U zL[i].proc)/\
   w.ownsRow B 188 2 (I a0 zL[i].yY.length c0) zL[i].yY.length (qa zL[i].yY)/\
   qk w B #[J U zL[i].form.kind,O zL[i].form.name,J U zL[i].form.cells,I a1 zL[i].form.params.length c1,I a2 zL[i].form.index.length c2,I a3 zL[i].form.values.length c3] zL[i].form:=by
 have f:=KL x;have o:(zL.take i).length=i:=by simp;omega
 have k:=h;rw[f]at k;obtain⟨g,cap,a0,a1,a2,a3,c0,c1,c2,c3,xe,xf,d,A,j,_,z,y⟩:=k.get;rw[<-f]at d;rw[o]at j;exact⟨g,cap,a0,a1,a2,a3,c0,c1,c2,c3,xe,xf,d,A,j,z,y⟩
theorem Hg.Q3 (h:Hg w P B zL lv cs):∃ad cap,lv=I ad (G zL) cap/\w.cell? ⟨P,0,Z⟩=Q (I ad (G zL) cap):=by
 obtain⟨ad,cap,rfl⟩:=zK h.own;exact⟨ad,cap,rfl,h.cell⟩
namespace Rt
def yM (zL:List PL) (n:Int):PL:=if n < 0 then kb else (zL[n.toNat]?).getD kb
theorem Zk (zL:List PL) (n:Int):(yM zL n).form=yA zL n:=by
 unfold yM yA;split
 ·rfl
 ·cases zL[n.toNat]? <;> rfl
theorem QQ {zL:List PL} (h:n < G zL):yM zL (n:Int)=zL[n]:=by
 rw[yM,zA (by omega)];simp[h]
theorem Ql {zL:List PL} {n:Int} (h:n < 0\/(G zL:Int)<=n):yM zL n=kb:=by
 unfold yM;split
 ·rfl
 ·rw[xt (by omega)];rfl
end Rt
def PLineV (B:Nat) (pl:Rt.PL) (w:World) (e:Ending) (w':World):Prop:=∃a0 a1 a2 a3 c0 c1 c2 c3 xe xf,e=T (L #[I a0 (G pl.yY) c0,J U pl.form.kind,O pl.form.name,J U pl.form.cells,I a1 (G pl.form.params) c1,I a2 (G pl.form.index) c2,I a3 (G pl.form.values) c3,J U pl.depth,J U pl.opener,J U xe,J U xf,J U pl.proc])/\w'.ownsRow B 188 2 (I a0 (G pl.yY) c0) (G pl.yY) (qa pl.yY)/\qk w' B #[J U pl.form.kind,O pl.form.name,J U pl.form.cells,I a1 (G pl.form.params) c1,I a2 (G pl.form.index) c2,I a3 (G pl.form.values) c3] pl.form/\Below w.heap.size w w'
theorem linev_zero (d:Below w.heap.size w w'):PLineV B Rt.kb w (T (L #[I Z 0 0,J U 0,O ⟨#[]⟩,J U 0,I Z 0 0,I Z 0 0,I Z 0 0,J U 0,J U 0,J U 0,J U 0,J U 0])) w':=
 ⟨Z,Z,Z,Z,0,0,0,0,0,0,rfl,zW _ _ _ _,vM,d⟩
theorem Line_v (n:Int) (h:Hg w P B zL lv cs):Calls Tryz.prog 90 #[H (Q ⟨P,0,Z⟩),J U n] w (PLineV B (yM zL n) w):=by
 obtain⟨ad,cap,j,cP⟩:=h.Q3;have F:=h.lt;by_cases h0:n < 0
 ·have y:=zD (Ql (zL:=zL) (Or.inl h0));clear h;go_enter func90,ntmps90;go_wp2_with fail;refine zT (v:=L #[I Z 0 0,J U 0,O ⟨#[]⟩,J U 0,I Z 0 0,I Z 0 0,I Z 0 0,J U 0,J U 0,J U 0,J U 0,J U 0]) ?_ rfl (by rw[y.u];exact linev_zero ((zI _ _).alloc (zB _) _));simp[results,results90,go_sem]
 by_cases h1:(G zL:Int)<=n
 ·have y:=zD (Ql (zL:=zL) (Or.inr h1));clear h;go_enter func90,ntmps90;go_wp2_with fail;refine zT (v:=L #[I Z 0 0,J U 0,O ⟨#[]⟩,J U 0,I Z 0 0,I Z 0 0,I Z 0 0,J U 0,J U 0,J U 0,J U 0,J U 0]) ?_ rfl (by rw[y.u];exact linev_zero ((zI _ _).alloc (zB _) _));simp[results,results90,go_sem]
 obtain⟨k,rfl⟩:=yr (show 0<=n by omega);have o:k < G zL:=by omega
 obtain⟨g,cap',a0,a1,W,V,T,R,N,M,A,z,f,D,⟨d0,d1,d2,d3,d4,d5,d6,d7,d8,d9,a5,a4⟩,i,x⟩:=h.at o;have d:=j.symm.trans f;simp at d;obtain⟨rfl,rfl⟩:=d;have y:=zD (QQ o);have HF:=qG i x;clear h x i j f;generalize zL[k]=pl at *;go_enter func90,ntmps90;go_wp2_with fail;refine zT (v:=L #[I a0 (G pl.yY) T,J U pl.form.kind,O pl.form.name,J U pl.form.cells,I a1 (G pl.form.params) R,I W (G pl.form.index) N,I V (G pl.form.values) M,J U pl.depth,J U pl.opener,J U A,J U z,J U pl.proc]) ?_ rfl (by rw[y.u];exact⟨a0,a1,W,V,T,R,N,M,A,z,rfl,yG HF.u.1 ((zI _ _).alloc (zB _) _),(xZ (B:=B) ((zI _ _).alloc (zB _) _)).form HF.u.2,(zI _ _).alloc (zB _) _⟩);simp[results,results90,go_sem]
end
namespace Rt
abbrev Qw:=List (Int×Int)
def Zu (len:Nat) (lk:Qw) (pl:PL) (n:Nat):Qw:=
 if 1<=pl.opener/\pl.opener < len then
  if pl.form.kind=6 then lk.modify pl.opener.toNat (fun x=>((n:Int),x.2))
  else if pl.form.kind=4 then lk.modify pl.opener.toNat (fun x=>(x.1,(n:Int)))
  else lk
 else lk
def nestLk (len:Nat):List PL->Nat->List Zx->Qw->Qw
 | [],_,_,lk=>lk
 | p::r,n,bs,lk=>if Yj bs p.form.kind=true then nestLk len r (n+1) (qK bs n p.form.kind) (Zu len lk (ym bs p) n)else lk
theorem Jl {len:Nat} {lk:Qw} {pl:PL}:(Zu len lk pl n).length=G lk:=by
 unfold Zu;split
 ·split
  ·simp
  ·split
   ·simp
   ·rfl
 ·rfl
def vS (ps:List PL):Qw:=nestLk (G ps+1) ps 1 [] (List.replicate (G ps+1) (0,0))
def Xb (s:Ia):Qw:=vS ((rForms 0 (lines s) [kb]).2.drop 1)
end Rt
section
open Go.RowKit
attribute [local go_sem ↓] Go.wp_at_zero Go.wp_at_succ
theorem lF (w:World) (a:Addr) (v:Value):w.grownBy (w.setCell a v) (Q a.block):=⟨rfl,rfl,rfl,by simp[World.setCell],fun k _ h=>zO w a v k (fun e=>h (by rw[e]))⟩
theorem Qt (h:Below w.heap.size w w1):w.grownBy w1 row:=⟨h.os,h.tape,h.output,h.size,fun k hk _=>h.block k hk⟩
theorem gQ (h:w.grownBy w1 row) (k:w1.grownBy w2 row):w.grownBy w2 row:=
 ⟨k.os.trans h.os,k.tape.trans h.tape,k.output.trans h.output,zi h.size k.size,fun i hi hr=>(k.block i (zX hi h.size) hr).trans (h.block i hi hr)⟩
theorem qH.setE (h:qH w P (acc++p::r) (I (Q ⟨g,0,Z⟩) n cap) cs) (T:n=(acc++p::r).length) (t:Nat) (ht:t=9\/t=10) (x:Int):∃cs',qH (w.setCell ⟨g,G acc*12+t,Z⟩ (J U x)) P (acc++p::r) (I (Q ⟨g,0,Z⟩) n cap) cs':=by
 obtain⟨d1,c,d2,D,hl,hA,W,hC⟩:=h.lines.part;have hg:P < g:=by
  have:=(h.own.lt g rfl).1;omega
 have d:∀k,k≠g->(w.setCell ⟨g,G acc*12+t,Z⟩ (J U x)).heap[k]?=w.heap[k]?:=fun k hk=>zO w ⟨g,G acc*12+t,Z⟩ _ k hk;have L:Qc w (w.setCell ⟨g,G acc*12+t,Z⟩ (J U x)) (P+1) (P+1):=by
  intro ty N n' v xs o hv;have y:=Ys hv h.own o;obtain⟨j,h2⟩:=hv;refine⟨j,?_⟩;rcases h2 with h2 | ⟨g',cap',cur,i,z,hh,rr⟩
  ·exact Or.inl h2
  ·exact Or.inr ⟨g',cap',cur,i,z,by rw[d g' (fun e=>y g' (by rw[i];rfl) (by rw[e];rfl))];exact hh,rr⟩
 have V:=W.len;obtain⟨tv,fv,xe,xf,F,j,h2⟩:=W;have H:Kq w (P+1) p (c.set t (J U x)):=by
  obtain⟨O,iv,vv,M,A,R⟩:=h2;subst A;subst F;rcases ht with rfl | rfl
  ·exact⟨tv,_,x,xf,rfl,j,⟨O,iv,vv,M,rfl,R⟩⟩
  ·exact⟨tv,_,xe,x,rfl,j,⟨O,iv,vv,M,rfl,R⟩⟩
 refine⟨d1++c.set t (J U x)::d2,?_,?_,ja.join _ _ _ _ _ _ (L.lines _ _ hA) (L.line H) (L.lines _ _ hC)⟩
 ·rw[d P (by omega)];exact h.block
 ·have f:=h.own;rw[<-T]at f;have e1:cs.flatten=d1.flatten++c++d2.flatten:=by rw[D];simp
  rw[e1]at f;have:=jP f t (J U x) (by omega);rw[hl]at this;rw[<-T];simpa using this
theorem ld {w3:World} (h:qH w2 P zL lv cs) (d:lv=I (Q ⟨g,0,Z⟩) (G zL) cap) (o:Below w.heap.size w w2) (A:j < G zL) (f:Below w2.heap.size w2 w3) (t:Nat) (y:t=9\/t=10) {x:Int}:(∃cs',qH (w3.setCell ⟨g,j*12+t,Z⟩ (J U x)) P zL lv cs')/\w.grownBy (w3.setCell ⟨g,j*12+t,Z⟩ (J U x)) lv.ownBlock:=by
 have k:=h.zP f;have i:=KL A;have z:(zL.take j).length=j:=by simp;omega
 refine⟨?_,?_⟩
 ·rw[d]at k ⊢;rw[i]at k;have:=k.setE (by rw[<-i]) t y x;rw[z,<-i]at this;exact this
 ·rw[d];exact gQ (Qt (o.trans (f.mono o.size))) (lF w3 ⟨g,j*12+t,Z⟩ (J U x))
def VL (w:World) (lv:Value) (lk:Qw):Prop:=∀g n cap,lv=I (Q ⟨g,0,Z⟩) n cap->∀i x,lk[i]?=Q x->w.cell? ⟨g,i*12+9,Z⟩=Q (J U x.1)/\w.cell? ⟨g,i*12+10,Z⟩=Q (J U x.2)
theorem VL.same {lk:Qw} (h:VL w lv lk) (j:∀g,lv.ownBlock=Q g->w'.heap[g]?=w.heap[g]?):VL w' lv lk:=by
 intro g n cap e i x f;obtain⟨o,k⟩:=h g n cap e i x f;have d:=j g (by rw[e];rfl);rw[xG (a:=⟨g,i*12+9,Z⟩) d,xG (a:=⟨g,i*12+10,Z⟩) d];exact⟨o,k⟩
theorem VL.zP {sz:Nat} {lk:Qw} (h:VL w lv lk) (d:w.ownsRow B t sz lv n xs) (f:Below w.heap.size w w'):VL w' lv lk:=
 h.same (fun g hg=>f.block g (d.lt g hg).2)
theorem get_modify {α:Type} (l:List α) (f:α->α) (x:α) (h:(l.modify j f)[i]?=Q x):(i=j/\∃y,l[i]?=Q y/\x=f y)\/(i≠j/\l[i]?=Q x):=by
 rw[qW]at h;cases hy:l[i]? with
 | none=>rw[hy]at h;cases h
 | some y=>
  rw[hy]at h;by_cases e:j=i
  ·simp[e]at h;exact Or.inl ⟨e.symm,y,rfl,h.symm⟩
  ·simp[e]at h;exact Or.inr ⟨fun e'=>e e'.symm,by rw[h]⟩
theorem yy {q':Nat} (h:q≠q'):(w.setCell ⟨g,q,Z⟩ v).cell? ⟨g,q',Z⟩=w.cell? ⟨g,q',Z⟩:=
 xD _ _ _ _ (fun e=>h (by injection e))
theorem ed (h:w.cell? ⟨g,q,Z⟩=Q u):(w.setCell ⟨g,q,Z⟩ v).cell? ⟨g,q,Z⟩=Q v:=World.cell?_setCell_same _ _ _ h
theorem VL.set9 {lk:Qw} (h:VL w (I (Q ⟨g,0,Z⟩) n cap) lk) (v:Int):VL (w.setCell ⟨g,j*12+9,Z⟩ (J U v)) (I (Q ⟨g,0,Z⟩) n cap) (lk.modify j (fun x=>(v,x.2))):=by
 intro g' n' cap' e i x hx;injection e with e _ _;injection e with e;injection e with e;subst e;rcases get_modify _ _ _ hx with⟨rfl,y,hy,rfl⟩| ⟨hne,hy⟩
 ·obtain⟨f,d⟩:=h g n cap rfl i y hy;exact⟨ed f,(yy (by omega)).trans d⟩
 ·obtain⟨f,d⟩:=h g n cap rfl i x hy;exact⟨(yy (by omega)).trans f,(yy (by omega)).trans d⟩
theorem VL.Gb {lk:Qw} (h:VL w (I (Q ⟨g,0,Z⟩) n cap) lk) (v:Int):VL (w.setCell ⟨g,j*12+10,Z⟩ (J U v)) (I (Q ⟨g,0,Z⟩) n cap) (lk.modify j (fun x=>(x.1,v))):=by
 intro g' n' cap' e i x hx;injection e with e _ _;injection e with e;injection e with e;subst e;rcases get_modify _ _ _ hx with⟨rfl,y,hy,rfl⟩| ⟨hne,hy⟩
 ·obtain⟨f,d⟩:=h g n cap rfl i y hy;exact⟨(yy (by omega)).trans f,ed d⟩
 ·obtain⟨f,d⟩:=h g n cap rfl i x hy;exact⟨(yy (by omega)).trans f,(yy (by omega)).trans d⟩
def Gy (P:Nat) (zL:List Rt.PL) (lv:Value) (n:Nat) (w:World) (e:Ending) (w':World):Prop:=e=T (E #[])/\(∃cs',qH w' P zL lv cs')/\w.grownBy w' lv.ownBlock/\∀lk,VL w lv lk->VL w' lv (Zu (G zL) lk (yM zL n) n)
theorem Ci (n:Nat) (h:qH w P zL lv cs):Calls Tryz.prog 125 #[H (Q ⟨P,0,Z⟩),J U n] w (Gy P zL lv n w):=by
 obtain⟨ad,cap,a4,cP⟩:=h.v.Q3;have b3:=zQ h.block;have HH:=zD h;have a8:=zD a4;clear h a4;go_enter func125,ntmps125;go_wp2_with fail;refine(Line_v _ HH.u.v).mono ?_;rintro e w1 ⟨a0,a1,a2,a3,c0,c1,c2,c3,xe,xf,rfl,_,_,k⟩;have z:Hd (∀(lk:Qw) (w':World),VL w lv lk->Below w.heap.size w w'->VL w' lv lk):=zD (fun lk w' hl hb=>hl.zP HH.u.own hb);generalize HPLN:yM zL n=pl at *
 replace HPLN:=zD HPLN
 have h1:=HH.u.zP k;have H1:=qG h1 k;have a5:=cell_later k cP;have b0:=k.size;clear cP;have o:=(zI w1.heap.size w1).alloc (zB _) (V #[I a0 (G pl.yY) c0,J U pl.form.kind,O pl.form.name,J U pl.form.cells,I a1 (G pl.form.params) c1,I a2 (G pl.form.index) c2,I a3 (G pl.form.values) c3,J U pl.depth,J U pl.opener,J U xe,J U xf,J U pl.proc] 145);have hL:=zN w1 (V #[I a0 (G pl.yY) c0,J U pl.form.kind,O pl.form.name,J U pl.form.cells,I a1 (G pl.form.params) c1,I a2 (G pl.form.index) c2,I a3 (G pl.form.values) c3,J U pl.depth,J U pl.opener,J U xe,J U xf,J U pl.proc] 145);have k1:=zC hL 1 (by simp);have k8:=zC hL 8 (by simp);have d5:=cell_later o a5;have M:=qG (h1.zP o) (k.trans (o.mono (B':=w.heap.size) k.size));have a9:=o.size;simp only[yQ,yH,zv]at k1 k8;have b5:¬w1.heap.size=P:=by omega
 have N:∀g,lv.ownBlock=Q g->g < w1.heap.size:=fun g hg=>(h1.own.lt g hg).2;clear k h1 hL o a5 H1;go_wp2_with fail;generalize w1.alloc (V #[I a0 (G pl.yY) c0,J U pl.form.kind,O pl.form.name,J U pl.form.cells,I a1 (G pl.form.params) c1,I a2 (G pl.form.index) c2,I a3 (G pl.form.values) c3,J U pl.depth,J U pl.opener,J U xe,J U xf,J U pl.proc] 145)=w2 at *;generalize w1.heap.size=L at *;have y:Hd (∀lk:Qw,Zu (G zL) lk pl n=if 1<=pl.opener/\pl.opener < G zL then (if pl.form.kind=6 then lk.modify pl.opener.toNat (fun x=>((n:Int),x.2))else if pl.form.kind=4 then lk.modify pl.opener.toNat (fun x=>(x.1,(n:Int)))else lk)else lk):=zD (fun _=>rfl);generalize pl.opener=op at *;generalize pl.form.kind=kx at *;by_cases ho:op < 1
 ·have T:decide (op < 1)=D:=by simpa using ho
  go_quiet (fail);go_wp2;go_end0;obtain⟨A,d⟩:=M.u;exact⟨rfl,⟨_,A.zP (below_drewN _ _)⟩,Qt (d.trans ((below_drewN _ _).mono d.size)),fun lk hl=>by rw[HPLN.u,y.u,zA (by omega)];exact z.u lk _ hl (d.trans ((below_drewN _ _).mono d.size))⟩
 ·by_cases hp:(G zL:Int)<=op
  ·have T:decide (op < 1)=W:=by simpa using ho
   go_quiet (fail);go_wp2;go_end0;obtain⟨A,d⟩:=M.u;exact⟨rfl,⟨_,A.zP (below_drewN _ _)⟩,Qt (d.trans ((below_drewN _ _).mono d.size)),fun lk hl=>by rw[HPLN.u,y.u,zA (by omega)];exact z.u lk _ hl (d.trans ((below_drewN _ _).mono d.size))⟩
  ·obtain⟨j,rfl⟩:=yr (show 0<=op by omega);have R:j < G zL:=by omega
   have a6:¬(j:Int) < 1:=by omega
   have T:decide ((j:Int) < 1)=W:=by simpa using a6
   have d1:¬(G zL:Int)<=(j:Int):=by omega
   have d0:(0:Int)<=(j:Int):=by omega
   have b9:(j:Int) < (G zL:Int):=by omega
   obtain⟨g,cap',f0,d8,d7,d6,e0,e1,e2,e3,b8,b7,f,b1,⟨_,_,_,_,_,_,_,_,_,d9,d4,_⟩,_,_⟩:=M.u.1.v.at R;have d2:P < g:=by have:=(M.u.1.own.lt g (by rw[f];rfl)).1;omega
   have F:=a8.u.symm.trans f;simp only[xJ,jH]at F;obtain⟨rfl,rfl⟩:=F;have fz:∀q,w2.frozen? ⟨g,q,Z⟩=W:=fun q=>by
    have:=M.u.1.own;rw[f]at this;exact this.frozenAt q
   have z9:=fz (j*12+9);have b6:=fz (j*12+10);have b4:¬P=g:=by omega
   have b2:¬g=P:=by omega
   have a7:¬g=L:=by
    have:=N g (by rw[f];rfl);omega
   have d3:¬L=g:=fun e=>a7 e.symm;have i:=zD f;clear f fz;go_quiet (fail);cases k6:(kx==6)with
   | true=>
    go_wp2_with fail;go_region_held3 (fun w'=>w'.cell? ⟨L,8,Z⟩=Q (J U (j:Int))/\w'.cell? ⟨P,0,Z⟩=Q (I (Q ⟨g,0,Z⟩) (G zL) cap)) (first | go_keep | (simp[xD, *];done)| (simp[xD, *];omega)) (fail);go_wp2;go_end0;obtain⟨A,d⟩:=M.u;obtain⟨l1,l2⟩:=ld A i.u d R (below_drewN w2 _) 9 (Or.inl rfl);refine⟨rfl,l1,l2,fun lk hl=>?_⟩;rw[HPLN.u,y.u,zE (by omega),zE (by simpa using k6),i.u];refine VL.set9 ?_ _;rw[<-i.u];exact z.u lk _ hl (d.trans ((below_drewN _ _).mono d.size))
   | false=>
    cases k4:(kx==4)with
    | true=>
     go_wp2_with fail;go_region_held3 (fun w'=>w'.cell? ⟨L,8,Z⟩=Q (J U (j:Int))/\w'.cell? ⟨P,0,Z⟩=Q (I (Q ⟨g,0,Z⟩) (G zL) cap)) (first | go_keep | (simp[xD, *];done)| (simp[xD, *];omega)) (fail);go_wp2;go_end0;obtain⟨A,d⟩:=M.u;obtain⟨l1,l2⟩:=ld A i.u d R (below_drewN w2 _) 10 (Or.inr rfl);refine⟨rfl,l1,l2,fun lk hl=>?_⟩;rw[HPLN.u,y.u,zE (by omega),zA (by simpa using k6),zE (by simpa using k4),i.u];refine VL.Gb ?_ _;rw[<-i.u];exact z.u lk _ hl (d.trans ((below_drewN _ _).mono d.size))
    | false=>
     go_wp2;go_end0;obtain⟨A,d⟩:=M.u;exact⟨rfl,⟨_,A.zP (below_drewN _ _)⟩,Qt (d.trans ((below_drewN _ _).mono d.size)),fun lk hl=>by rw[HPLN.u,y.u,zE (by omega),zA (by simpa using k6),zA (by simpa using k4)];exact z.u lk _ hl (d.trans ((below_drewN _ _).mono d.size))⟩
theorem vR.other (h:vR w S bs bv) (f:w'.heap[S]?=w.heap[S]?) (hv:∀g,bv.ownBlock=Q g->w'.heap[g]?=w.heap[g]?):vR w' S bs bv:=by
 refine⟨by rw[f];exact h.block,?_⟩;obtain⟨i,h2⟩:=h.own;refine⟨i,?_⟩;rcases h2 with h2 | ⟨g,cap,cur,d,hg,hh,rr⟩
 ·exact Or.inl h2
 ·exact Or.inr ⟨g,cap,cur,d,hg,by rw[hv g (by rw[d];rfl)];exact hh,rr⟩
theorem qH.other (h:qH w P zL lv cs) (A:∀k,k < w.heap.size->(∀o,w.heap[k]?=Q o->(∃c,o=V c 181 (0,0))\/(∃c,o=V c 212 (0,0))->False)->w'.heap[k]?=w.heap[k]?):qH w' P zL lv cs:=by
 have d:∀(B:Nat) (t:TypeId) (size n:Nat) (v:Value) (xs:List Value),t≠181->t≠212->w.ownsRow B t size v n xs->w'.ownsRow B t size v n xs:=by
  intro B t size n v xs I H hv;obtain⟨z,h2⟩:=hv;refine⟨z,?_⟩;rcases h2 with h2 | ⟨g,cap,cur,y,hg,hh,rr⟩
  ·exact Or.inl h2
  ·refine Or.inr ⟨g,cap,cur,y,hg,?_,rr⟩;rw[A g (zQ hh) ?_]
   ·exact hh
   ·intro o i hx;rw[hh]at i;simp at i;subst i;rcases hx with⟨c,e⟩| ⟨c,e⟩
    ·simp at e;exact I e.2
    ·simp at e;exact H e.2
 refine⟨?_,d _ _ _ _ _ _ (by decide) (by decide) h.own,?_⟩
 ·rw[A P (zQ h.block) ?_]
  ·exact h.block
  ·intro o i hx;rw[h.block]at i;simp at i;subst i;rcases hx with⟨c,e⟩| ⟨c,e⟩ <;> simp at e
 ·have j:∀{v:Array Value} {fm:Rt.qS},qk w (P+1) v fm->qk w' (P+1) v fm:=by
   intro v fm L;obtain⟨J,iv,vv,G,rfl,z,h2,N,M⟩:=L;refine⟨J,iv,vv,G,rfl,d _ _ _ _ _ _ (by decide) (by decide) z,d _ _ _ _ _ _ (by decide) (by decide) h2,d _ _ _ _ _ _ (by decide) (by decide) N,?_⟩;exact qi.map (fun x o hh=>d _ _ _ _ _ _ (by decide) (by decide) hh) _ _ M
  have f:∀ps cs,ja w (P+1) ps cs->ja w' (P+1) ps cs:=by
   intro ps
   induction ps with
   | nil=>intro cs h;cases cs with
    | nil=>trivial
    | cons _ _=>exact h.elim
   | cons p ps ih=>intro cs h;cases cs with
    | nil=>exact h.elim
    | cons c cs=>
     obtain⟨⟨tv,fv,F,D,e,g1,O⟩,h2⟩:=h;exact⟨⟨tv,fv,F,D,e,d _ _ _ _ _ _ (by decide) (by decide) g1,j O⟩,ih cs h2⟩
  exact f _ _ h.lines
theorem sF (d:Rt.PL) (F D A z:Option Addr) (y x o k:Nat) (j i:Int) (h:vR w S bs bv) (f:G bs<=1000):Calls Tryz.prog 124 #[H (Q ⟨S,0,Z⟩),L #[I F (G d.yY) y,J U d.form.kind,O d.form.name,J U d.form.cells,I D (G d.form.params) x,I A (G d.form.index) o,I z (G d.form.values) k,J U d.depth,J U d.opener,J U j,J U i,J U d.proc]] w fun e w'=>
   e=T (L #[I F (G d.yY) y,J U d.form.kind,O d.form.name,J U d.form.cells,I D (G d.form.params) x,I A (G d.form.index) o,I z (G d.form.values) k,J U (Rt.ym bs d).depth,J U (Rt.ym bs d).opener,J U j,J U i,J U (Rt.ym bs d).proc])/\Below w.heap.size w w':=by
 have:=sH d F D A z y x o k j i h f;simpa[kZ] using this
theorem cH (h:GN w g o v0 v1 v2 v3 v4 v5 v6 v7 v8 v9 v10 v11) (d:Below w.heap.size w w'):GN w' g o v0 v1 v2 v3 v4 v5 v6 v7 v8 v9 v10 v11:=by
 obtain⟨H,G,F,D,A,z,y,x,k,j,i,f⟩:=h;exact⟨cell_later d H,cell_later d G,cell_later d F,cell_later d D,cell_later d A,cell_later d z,cell_later d y,cell_later d x,cell_later d k,cell_later d j,cell_later d i,cell_later d f⟩
theorem fD (h:FF w g o) (k:Below w.heap.size w w') (i:g < w.heap.size):FF w' g o:=by
 obtain⟨J,I,H,G,F,D,A,z,y,x,f,d⟩:=h;have e:∀j,w'.frozen? ⟨g,j,Z⟩=w.frozen? ⟨g,j,Z⟩:=fun j=>k.frozen (p:=⟨g,j,Z⟩) i;exact⟨by rw[e];exact J,by rw[e];exact I,by rw[e];exact H,by rw[e];exact G,by rw[e];exact F,by rw[e];exact D,by rw[e];exact A,by rw[e];exact z,by rw[e];exact y,by rw[e];exact x,by rw[e];exact f,by rw[e];exact d⟩
theorem Yn {L:Nat} (h:w.heap[L]?=Q (V #[v0,v1,v2,v3,v4,v5,v6,v7,v8,v9,v10,v11] t (0,0))):GN w L 0 v0 v1 v2 v3 v4 v5 v6 v7 v8 v9 v10 v11:=
 ⟨zC h 0 (by simp),zC h 1 (by simp),zC h 2 (by simp),zC h 3 (by simp),zC h 4 (by simp),zC h 5 (by simp),zC h 6 (by simp),zC h 7 (by simp),zC h 8 (by simp),zC h 9 (by simp),zC h 10 (by simp),zC h 11 (by simp)⟩
theorem qn {a:Addr}:w.grownBy (w.setCell a v) (Q a.block):=⟨rfl,rfl,rfl,by simp[World.setCell],fun k _ h=>zO w a v k (fun e=>h (by rw[e]))⟩
theorem jY (h:w.grownBy w1 row) (k:w1.grownBy w2 row):w.grownBy w2 row:=
 ⟨k.os.trans h.os,k.tape.trans h.tape,k.output.trans h.output,zi h.size k.size,fun i hi hr=>(k.block i (zX hi h.size) hr).trans (h.block i hi hr)⟩
theorem BW (w:World) (g o:Nat) (F D A z y x k j i h f d:Value):w.grownBy (Bc w g o F D A z y x k j i h f d) (Q g):=
 jY (jY (jY (jY (jY (jY (jY (jY (jY (jY (jY (qn) (qn)) (qn)) (qn)) (qn)) (qn)) (qn)) (qn)) (qn)) (qn)) (qn)) (qn)
theorem tP {w5 w6:World} (h:w.grownBy w1 row) (d:Below w1.heap.size w1 w5) (k:w5.grownBy w6 (Q g)) (f:row=Q g):w.grownBy w6 row:=
 ⟨k.os.trans (d.os.trans h.os),k.tape.trans (d.tape.trans h.tape),k.output.trans (d.output.trans h.output),zi h.size (zi d.size k.size),
  fun i hi hv=>(k.block i (zX hi (zi h.size d.size)) (by rw[<-f];exact hv)).trans ((d.block i (zX hi h.size)).trans (h.block i hi hv))⟩
theorem rQ (d:q < o\/o+12<=q):(Bc w g o v0 v1 v2 v3 v4 v5 v6 v7 v8 v9 v10 v11).cell? ⟨g,q,Z⟩=w.cell? ⟨g,q,Z⟩:=
 (yy (show o+11≠q by omega)).trans ((yy (show o+10≠q by omega)).trans ((yy (show o+9≠q by omega)).trans ((yy (show o+8≠q by omega)).trans ((yy (show o+7≠q by omega)).trans ((yy (show o+6≠q by omega)).trans ((yy (show o+5≠q by omega)).trans ((yy (show o+4≠q by omega)).trans ((yy (show o+3≠q by omega)).trans ((yy (show o+2≠q by omega)).trans ((yy (show o+1≠q by omega)).trans ((yy (show o≠q by omega)).trans (rfl))))))))))))
theorem Dl (h:w.cell? ⟨g,o+9,Z⟩=Q u):(Bc w g o v0 v1 v2 v3 v4 v5 v6 v7 v8 v9 v10 v11).cell? ⟨g,o+9,Z⟩=Q v9:=
 (yy (show o+11≠o+9 by omega)).trans ((yy (show o+10≠o+9 by omega)).trans (ed (u:=u) ((yy (show o+8≠o+9 by omega)).trans ((yy (show o+7≠o+9 by omega)).trans ((yy (show o+6≠o+9 by omega)).trans ((yy (show o+5≠o+9 by omega)).trans ((yy (show o+4≠o+9 by omega)).trans ((yy (show o+3≠o+9 by omega)).trans ((yy (show o+2≠o+9 by omega)).trans ((yy (show o+1≠o+9 by omega)).trans ((yy (show o≠o+9 by omega)).trans (h))))))))))))
theorem FD (h:w.cell? ⟨g,o+10,Z⟩=Q u):(Bc w g o v0 v1 v2 v3 v4 v5 v6 v7 v8 v9 v10 v11).cell? ⟨g,o+10,Z⟩=Q v10:=
 (yy (show o+11≠o+10 by omega)).trans (ed (u:=u) ((yy (show o+9≠o+10 by omega)).trans ((yy (show o+8≠o+10 by omega)).trans ((yy (show o+7≠o+10 by omega)).trans ((yy (show o+6≠o+10 by omega)).trans ((yy (show o+5≠o+10 by omega)).trans ((yy (show o+4≠o+10 by omega)).trans ((yy (show o+3≠o+10 by omega)).trans ((yy (show o+2≠o+10 by omega)).trans ((yy (show o+1≠o+10 by omega)).trans ((yy (show o≠o+10 by omega)).trans (h))))))))))))
theorem VL.put {lk:Qw} {x9 x10:Value} (h:VL w (I (Q ⟨g,0,Z⟩) n cap) lk) (f:w.cell? ⟨g,k*12+9,Z⟩=Q x9) (d:w.cell? ⟨g,k*12+10,Z⟩=Q x10):VL (Bc w g (k*12) v0 v1 v2 v3 v4 v5 v6 v7 v8 x9 x10 v11) (I (Q ⟨g,0,Z⟩) n cap) lk:=by
 intro g' n' cap' e i x y;injection e with e _ _;injection e with e;injection e with e;subst e;obtain⟨o,j⟩:=h g n cap rfl i x y;by_cases hik:i=k
 ·subst hik;rw[Dl f,FD d];exact⟨f.symm.trans o,d.symm.trans j⟩
 ·rw[rQ (by omega),rQ (by omega)];exact⟨o,j⟩
theorem ft {p0:Rt.PL} (hp:qH w P (p0::zL) lv cs) (n2:G zL<=100) {lk0:Qw} (g5:VL w lv lk0) (hlkl:G lk0=G zL+1):Calls Tryz.prog 76 #[H (Q ⟨P,0,Z⟩)] w fun e w'=>w.grownBy w' lv.ownBlock/\
      ∃er ls bs,Rt.nestFrom zL 1 [] [p0]=(er,ls,bs)/\
        ((er=0/\bs=[]/\e=T (E #[J U 0,J U 0])/\(∃cs',qH w' P ls lv cs')/\VL w' lv (Rt.nestLk (G zL+1) zL 1 [] lk0))\/
         (er=0/\¬bs=[]/\e=T (E #[J U 3,J U (G zL)]))\/
         (¬er=0/\e=T (E #[J U 3,J U er]))):=by
  have n4:=zQ hp.block;have hS:(w.alloc (V #[zg] 181)).heap[w.heap.size]?=Q (V #[zg] 181 (0,0)):=zN w _;have i2:=(zI w.heap.size w).alloc (zB _) (V #[zg] 181);have hpA:=hp.zP i2;have hgA:w.grownBy (w.alloc (V #[zg] 181)) lv.ownBlock:=⟨rfl,rfl,rfl,by simp,fun k hk _=>jx _ _ _ hk⟩;have hnA:vR (w.alloc (V #[zg] 181)) w.heap.size [] zg:=⟨hS,zW _ _ _ _⟩;obtain⟨ad,cap,h⟩:=zK hp.own;have j4:=zD h;have hlkA:=g5.zP hp.own i2;clear hp hS i2 h g5;go_enter func76,ntmps76;go_wp2_with fail;go_loopw [5,6] (fun i _ wr=>∃(k:Nat) (acc rem:List Rt.PL) (bs:List Rt.Zx) (bv:Value) (cs:List (List Value)),i=J U k/\G acc=k/\k+G rem=G zL+1/\1<=k/\G bs<=k/\Rt.nestFrom rem k bs acc=Rt.nestFrom zL 1 [] [p0]/\
      qH wr P (acc++rem) lv cs/\(∃lk,G lk=G zL+1/\VL wr lv lk/\Rt.nestLk (G zL+1) rem k bs lk=Rt.nestLk (G zL+1) zL 1 [] lk0)/\vR wr w.heap.size bs bv/\w.grownBy wr lv.ownBlock)
    (fun i _ _=>G zL+1-(intOf i).toNat)
  case atStart=>exact⟨1,[p0],zL,[],zg,cs,rfl,rfl,by omega,zB _,by simp,rfl,hpA,⟨lk0,hlkl,hlkA,rfl⟩,hnA,hgA⟩
  case round=>
    clear hpA hnA hgA hlkA hlkl;obtain⟨k,acc,rem,bs,bv,p1,rfl,h0,a9,o3,o5,hT,z,g3,L,d⟩:=hrel;have i5:=zD g3;clear g3;have HT:=zD hT;have HA:=zD h0;clear hT h0;have k7:=d.size;have n3:=zQ L.block;have k1:=zQ z.block;have cP:=zC z.block 0 (by simp);simp at cP;rw[j4.u]at cP;simp only[yE]at cP;have cS:=zC L.block 0 (by simp);simp at cS;obtain⟨p4,n6,i1⟩:=zK L.own;rw[i1]at cS;have p5:=zD i1;clear i1;cases rem with
    | nil=>
      have o2:k=G zL+1:=by simpa using a9
      have j9:¬(k:Int) < (G zL:Int)+1:=by omega
      have HE:Hd (Rt.nestFrom zL 1 [] [p0]=(0,acc,bs)):=zD (by rw[<-HT.u,Rt.nestFrom]);have HP:=zD z;have HG:=zD d;clear z L d a9 HT;rw[yX]at HP;by_cases hb:bs=[]
      · have A:G bs=0:=by rw[hb];rfl
        rw[A]at cS;clear A;go_wp2;go_ret2;exact⟨HG.u,_,_,_,HE.u,Or.inl ⟨rfl,hb,rfl,⟨_,HP.u⟩,by obtain⟨lk,_,N,M⟩:=i5.u;rw[<-M,Rt.nestLk];exact N⟩⟩
      · have A:(0:Int) < (G bs:Int):=by
          have:=kO.2 hb;omega
        have hw:=bu (G zL) (by omega);have o1:=bw (G zL) (by omega);generalize (G bs)=bl at *;go_wp2_with fail;go_quiet (fail);go_wp2;go_ret2;refine⟨⟨HG.u.os,HG.u.tape,HG.u.output,HG.u.size,HG.u.block⟩,_,_,_,HE.u,Or.inr (Or.inl ⟨rfl,hb,?_⟩)⟩;simp
    | cons p r=>
      have j8:k+G r=G zL:=by simp at a9;omega
      have j9:(k:Int) < (G zL:Int)+1:=by omega
      have b5:=HA.u;obtain⟨g,cap',a0,a1,a2,a3,e0,e1,e2,e3,xe,xf,h,j0,⟨d0,d1,d2,d3,d4,d5,d6,d7,d8,d9,f1,f4⟩,⟨z0,z1,z2,z3,z4,z5,z6,z7,z8,z9,f3,f2⟩,h9,i0⟩:=z.v.get;have o6:P < g:=by have:=(z.own.lt g (by rw[h];rfl)).1;omega
      have b3:=j4.u.symm.trans h;have b4:(acc++p::r).length=G zL+1:=by simp;omega
      rw[b4]at h b3;simp at b3;obtain⟨rfl,rfl⟩:=b3;rw[b5]at d0 d1 d2 d3 d4 d5 d6 d7 d8 d9 f1 f4 z0 z1 z2 z3 z4 z5 z6 z7 z8 z9 f3 f2;have o4:(0:Int)<=(k:Int):=by omega
      have b7:G bs<=1000:=by omega
      have b8:=(zI wr.heap.size wr).alloc (zB _) (V #[I a0 (G p.yY) e0,J U p.form.kind,O p.form.name,J U p.form.cells,I a1 (G p.form.params) e1,I a2 (G p.form.index) e2,I a3 (G p.form.values) e3,J U p.depth,J U p.opener,J U xe,J U xf,J U p.proc] 145);have b1:=L.zP b8;have j1:¬g=w.heap.size:=by
        intro e;have h1:=L.block;rw[<-e]at h1;have h2:=z.own;rw[h]at h2;rcases h2.2 with⟨h',_⟩| ⟨g',_,cur,h',_,hh,_⟩
        · cases h'
        · simp at h';rw[<-h'.1]at hh;rw[h1]at hh;simp at hh
      go_wp2_with fail;refine(tu b1 b7).mono ?_;rintro e w1 ⟨rfl,f0⟩;cases had:Rt.Yj bs p.form.kind with
      | false=>
        have HE:Hd (Rt.nestFrom zL 1 [] [p0]=(k,acc++p::r,bs)):=zD (by rw[<-HT.u,Rt.nestFrom,zA (by rw[had];simp)]);have HG:Hd (w.grownBy w1 lv.ownBlock):=by
          refine zD ?_;have c0:=b8.trans (f0.mono (B':=wr.heap.size) (by simp));exact⟨c0.os.trans d.os,c0.tape.trans d.tape,c0.output.trans d.output,zi d.size c0.size,fun x hx hv=>(c0.block x (by omega)).trans (d.block x hx hv)⟩
        clear z L d b1 b8 f0 h9 i0 HT had;go_wp2;go_ret2;exact⟨HG.u,_,_,_,HE.u,Or.inr (Or.inr ⟨by omega,rfl⟩)⟩
      | true=>
        have HE:Hd (Rt.nestFrom r (k+1) (Rt.qK bs k p.form.kind) (acc++[Rt.ym bs p])=Rt.nestFrom zL 1 [] [p0]):=zD (by rw[<-HT.u,Rt.nestFrom,zE had]);have k6:=zD had;clear had HT;have f:=b8.trans (f0.mono (B':=wr.heap.size) (by simp));have b2:=L.zP f;have F:=z.zP f;have h5:=z.own;have R:=yG h9 f;have a4:=(xZ (B:=P+1) f).form i0;have i3:=zU (zN wr (V #[I a0 (G p.yY) e0,J U p.form.kind,O p.form.name,J U p.form.cells,I a1 (G p.form.params) e1,I a2 (G p.form.index) e2,I a3 (G p.form.values) e3,J U p.depth,J U p.opener,J U xe,J U xf,J U p.proc] 145)) f0;have W:w.grownBy w1 lv.ownBlock:=⟨f.os.trans d.os,f.tape.trans d.tape,f.output.trans d.output,zi d.size f.size,fun x hx hv=>(f.block x (by omega)).trans (d.block x hx hv)⟩;have TD:=zD (cH ⟨d0,d1,d2,d3,d4,d5,d6,d7,d8,d9,f1,f4⟩ f);have TZ:=zD (fD ⟨z0,z1,z2,z3,z4,z5,z6,z7,z8,z9,f3,f2⟩ f j0);have k3:=cell_later f cP;have n0:=f.size;have k0:g < w1.heap.size:=by omega
        have o8:P < w1.heap.size:=by omega
        have k2:=zQ i3;have j2:¬g=wr.heap.size:=by omega
        have o7:¬P=wr.heap.size:=by omega
        have n5:¬P=g:=by omega
        obtain⟨l0,l1,l2,l3,l4,l5,l6,l7,l8,l9,o0,n9⟩:=Yn i3;have TL:=zD (Yn i3);clear d0 d1 d2 d3 d4 d5 d6 d7 d8 d9 f1 f4 z0 z1 z2 z3 z4 z5 z6 z7 z8 z9 f3 f2 cP cS L z h9 i0 d b8 b1 f0;have j7:Hd (∃lk,G lk=G zL+1/\VL w1 lv lk/\Rt.nestLk (G zL+1) (p::r) k bs lk=Rt.nestLk (G zL+1) zL 1 [] lk0):=by
          obtain⟨lk,A,N,M⟩:=i5.u;exact zD ⟨lk,A,N.zP h5 f,M⟩
        clear h5 i5;have HX:=gN F R a4 W;clear F R a4 W f;go_wp2_with fail;go_region_with
          ((go_at_call 124;refine(sF p a0 a1 a2 a3 e0 e1 e2 e3 xe xf (by exact b2.zP (zh _)) b7).mono ?_;rintro e w5 ⟨rfl,b9⟩;have p2:=cell_later (yh b9) k3;obtain⟨d0,d1,d2,d3,d4,d5,d6,d7,d8,d9,f1,f4⟩:=cH TD.u (yh b9);obtain⟨z0,z1,z2,z3,z4,z5,z6,z7,z8,z9,f3,f2⟩:=fD TZ.u (yh b9) k0;obtain⟨m0,m1,m2,m3,m4,m5,m6,m7,m8,m9,n8,n7⟩:=cH TL.u (yh b9)))
        all_goals
          obtain⟨F,R,a4,W⟩:=HX.u;have o:=yh b9;have a6:=b2.zP o;have a5:=F.zP o;have f5:=yG R o;have g8:=(xZ (B:=P+1) o).form a4;obtain⟨i6,i7⟩:=XH bs p;have b0:=qH.put (p':=Rt.ym bs p) (n:=G zL+1) (g:=g) (cap:=cap) (by rw[<-h];exact a5) b4.symm a0 a1 a2 a3 e0 e1 e2 e3 xe xf (by rw[i6];exact f5) (by rw[i7];exact g8);rw[i6,i7,b5]at b0;have y:=dK w5 g (k*12) (I a0 (G p.yY) e0) (J U p.form.kind) (O p.form.name) (J U p.form.cells) (I a1 (G p.form.params) e1) (I a2 (G p.form.index) e2) (I a3 (G p.form.values) e3) (J U (Rt.ym bs p).depth) (J U (Rt.ym bs p).opener) (J U xe) (J U xf) (J U (Rt.ym bs p).proc);have a8:=Dk w5 g (k*12) (I a0 (G p.yY) e0) (J U p.form.kind) (O p.form.name) (J U p.form.cells) (I a1 (G p.form.params) e1) (I a2 (G p.form.index) e2) (I a3 (G p.form.values) e3) (J U (Rt.ym bs p).depth) (J U (Rt.ym bs p).opener) (J U xe) (J U xf) (J U (Rt.ym bs p).proc);have hns6:=a6.other (y w.heap.size (fun e=>j1 e.symm)) (fun x hx=>y x (fun e=>Ys a6.own a5.own (by decide) x hx (by rw[h,e];rfl)));have g7:=tP W o (BW w5 g (k*12) (I a0 (G p.yY) e0) (J U p.form.kind) (O p.form.name) (J U p.form.cells) (I a1 (G p.form.params) e1) (I a2 (G p.form.index) e2) (I a3 (G p.form.values) e3) (J U (Rt.ym bs p).depth) (J U (Rt.ym bs p).opener) (J U xe) (J U xf) (J U (Rt.ym bs p).proc)) (show lv.ownBlock=Q g by rw[h];rfl);rw[<-h]at b0;obtain⟨o9,f8⟩:=b0;have h6:Hd (∃lk,G lk=G zL+1/\VL (Bc w5 g (k*12) (I a0 (G p.yY) e0) (J U p.form.kind) (O p.form.name) (J U p.form.cells) (I a1 (G p.form.params) e1) (I a2 (G p.form.index) e2) (I a3 (G p.form.values) e3) (J U (Rt.ym bs p).depth) (J U (Rt.ym bs p).opener) (J U xe) (J U xf) (J U (Rt.ym bs p).proc)) lv lk/\Rt.nestLk (G zL+1) (p::r) k bs lk=Rt.nestLk (G zL+1) zL 1 [] lk0):=by
            obtain⟨lk,A,N,M⟩:=j7.u;refine zD ⟨lk,A,?_,M⟩;have i8:=N.zP F.own o;rw[h]at i8 ⊢;exact VL.put i8 d9 f1
          have h4:=zD f8;have h8:=zD g7;have a7:=zD hns6;have g0:¬Q w.heap.size=lv.ownBlock:=fun e=>by rw[h]at e;simp[Value.ownBlock]at e;exact j1 e.symm
          have g1:∀x,bv.ownBlock=Q x->¬Q x=lv.ownBlock:=fun x hx e=>Ys a6.own a5.own (by decide) x hx e.symm;have g2:¬Q wr.heap.size=lv.ownBlock:=fun e=>by rw[h]at e;simp[Value.ownBlock]at e;exact j2 e.symm
          have j3:=y wr.heap.size (fun e=>j2 e.symm);have f6:wr.heap.size < (Bc w5 g (k*12) (I a0 (G p.yY) e0) (J U p.form.kind) (O p.form.name) (J U p.form.cells) (I a1 (G p.form.params) e1) (I a2 (G p.form.index) e2) (I a3 (G p.form.values) e3) (J U (Rt.ym bs p).depth) (J U (Rt.ym bs p).opener) (J U xe) (J U xf) (J U (Rt.ym bs p).proc)).heap.size:=by rw[a8];have:=o.size;omega
          have k5:=gN g2 j3 f6 m1;have i4:=qG g0 g1;clear g2 j3 f6;clear f8 g7 hns6 F R a4 W a5 f5 g8 a6 y a8 o HX TD TZ TL b2 g0 g1;go_wp2_with fail;refine(Ci k h4.u).mono ?_;rintro e w6 ⟨rfl,g9,b6,g4⟩;have j6:=zD (show ∃lk,G lk=G zL+1/\VL w6 lv lk/\Rt.nestLk (G zL+1) r (k+1) (Rt.qK bs k p.form.kind) lk=Rt.nestLk (G zL+1) zL 1 [] lk0 from by
            obtain⟨lk,A,N,M⟩:=h6.u;have i9:=g4 lk N;have e1:yM (acc++Rt.ym bs p::r) (k:Int)=Rt.ym bs p:=by
              rw[<-HA.u,QQ (by simp)];simp
            have e2:(acc++Rt.ym bs p::r).length=G zL+1:=by rw[<-b4];simp
            rw[e1,e2]at i9;refine⟨_,by rw[Jl];exact A,i9,?_⟩;rw[<-M,Rt.nestLk,zE k6.u])
          clear g4 h6;have hns6:vR w6 w.heap.size bs bv:=a7.u.other (b6.block _ (zQ a7.u.block) i4.u.1) (fun x hx=>b6.block x (a7.u.own.lt x hx).2 (i4.u.2 x hx));have p3:w6.cell? ⟨wr.heap.size,1,Z⟩=Q (J U p.form.kind):=by
            obtain⟨u1,u2,u3,u4⟩:=k5.u;rw[xG (a:=⟨wr.heap.size,1,Z⟩) ((b6.block wr.heap.size u3 u1).trans u2)];exact u4
          have h3:=zD g9;have h7:=zD (jY h8.u b6);clear g9 b6 h4 a7 i4 h8;go_wp2_with fail;refine(CL hns6 b7).mono ?_;rintro e w7 ⟨rfl,k4,f9,j⟩;obtain⟨cs7,hpr7⟩:=h3.u;have D:=h7.u;have n1:=sK bs k p.form.kind;have f7:qH w7 P (acc++Rt.ym bs p::r) lv cs7:=by
            refine hpr7.other (fun x hx hno=>j.block x hx ?_ ?_)
            · intro e;subst e;exact hno _ hns6.block (Or.inl ⟨_,rfl⟩)
            · intro e;rcases hns6.own.2 with⟨h',_⟩| ⟨g',_,cur,h',_,hh,_⟩
              · rw[h']at e;cases e
              · rw[h']at e;simp[Value.ownBlock]at e;subst e;exact hno _ hh (Or.inr ⟨_,rfl⟩)
          have g6:w.grownBy w7 lv.ownBlock:=⟨j.os.trans D.os,j.tape.trans D.tape,j.output.trans D.output,zi D.size j.size,fun x hx hv=>(j.block x (zX hx D.size) (by omega) (fun e=>by have:=(hns6.own.lt x e.symm).1;omega)).trans (D.block x hx hv)⟩;have j5:Hd (∃lk,G lk=G zL+1/\VL w7 lv lk/\Rt.nestLk (G zL+1) r (k+1) (Rt.qK bs k p.form.kind) lk=Rt.nestLk (G zL+1) zL 1 [] lk0):=by
            obtain⟨lk,A,N,M⟩:=j6.u;refine zD ⟨lk,A,N.same (fun x hx=>j.block x ((hpr7.own.lt x hx).2) ?_ ?_),M⟩
            · intro e;subst e;rcases hpr7.own.2 with⟨h',_⟩| ⟨g',_,cur,h',_,hh,_⟩
              · rw[h']at hx;cases hx
              · rw[h']at hx;simp[Value.ownBlock]at hx;rw[hx,hns6.block]at hh;simp at hh
            · intro e;exact Ys hpr7.own hns6.own (by decide) x hx e.symm
          have HF:=XX f7 f9 g6;clear f7 f9 g6 j hpr7 D hns6 h3 h7;go_wp2;go_roundw
          case rel=>
            obtain⟨q1,q2,q3⟩:=HF.u;exact⟨k+1,acc++[Rt.ym bs p],r,_,k4,cs7,by go_num,by simp;exact HA.u,by omega,by omega,by omega,HE.u,by simpa using q1,j5.u,q2,q3⟩
          case measure=>simp[intOf];omega
end
section
open Go.RowKit
theorem bI (h:Rt.declFrom k (zL.drop k) x=n) (d:¬k < G zL):n=0:=by
 rw[zp (by omega),Rt.declFrom]at h;exact h.symm
theorem bH (h:Rt.declFrom k (zL.drop k) x=n) (d:k < G zL) (f:Rt.isDecl zL[k] x=D):n=k:=by
 rw[zZ d,Rt.declFrom,zE f]at h;exact h.symm
theorem VV (h:Rt.declFrom k (zL.drop k) x=n) (d:k < G zL) (f:Rt.isDecl zL[k] x=W):Rt.declFrom (k+1) (zL.drop (k+1)) x=n:=by
 rw[zZ d,Rt.declFrom,zA (by rw[f];simp)]at h;exact h
theorem G3 (x:Ia) (h:Hg w P B zL lv cs) (A:G zL<=101):Calls Tryz.prog 143 #[H (Q ⟨P,0,Z⟩),O x] w fun e w'=>e=T (J U (Rt.xb zL x))/\w'=w:=by
 obtain⟨ad,cap,d,cP⟩:=h.Q3;have I:=zD h;have z:=zD d;clear h d;go_enter func143,ntmps143;go_wp2;go_loop [5] (fun i=>∃k:Nat,1<=k/\k<=G zL+1/\i=J U k/\Rt.declFrom k (zL.drop k) x=Rt.xb zL x) (fun i=>G zL+1-(intOf i).toNat)
 case atStart=>exact⟨1,zB _,by omega,rfl,rfl⟩
 case round=>
  obtain⟨k,F,hk,rfl,D⟩:=hrel;have y:=zD D;clear D;by_cases hlt:k < G zL
  ·obtain⟨g,cap',a0,a1,a2,a3,e0,e1,e2,e3,M,L,d,_,⟨_,d1,d2,_⟩,_,_⟩:=I.u.at hlt;have f:=z.u.symm.trans d;simp at f;obtain⟨rfl,rfl⟩:=f;have o:(k:Int) < (G zL:Int):=by omega
   cases hd:Rt.isDecl zL[k] x with
   | true=>
    have HE:=zD (bH y.u hlt hd);unfold Rt.isDecl at hd;simp only[zy,YC,yS]at hd;obtain⟨hk3,hnm⟩:=hd;have j:=QB hnm;clear hnm d;generalize zL[k].form.name=nm at *;generalize zL[k].form.kind=kx at *;rcases hk3 with (hk3 | hk3)| hk3
    all_goals
     subst hk3;go_wp2;go_ret;exact⟨by rw[HE.u];rfl,rfl⟩
   | false=>
    have HE:=zD (VV y.u hlt hd);unfold Rt.isDecl at hd;clear d;generalize zL[k].form.name=nm at *;generalize zL[k].form.kind=kx at *;by_cases hnm:nm=x
    ·have hk3:¬kx=1/\¬kx=2/\¬kx=3:=by simpa[hnm,and_assoc] using hd
     have V:(kx==1)=W:=by simpa using hk3.1
     have R:(kx==2)=W:=by simpa using hk3.2.1
     have N:(kx==3)=W:=by simpa using hk3.2.2
     clear hk3 hd hnm;go_wp2;go_round
     ·exact⟨k+1,by omega,by omega,by go_num,HE.u⟩
     ·simp[intOf];omega
    ·have j:=KI hnm;clear hd hnm;go_wp2
     all_goals
      go_round
      ·exact⟨k+1,by omega,by omega,by go_num,HE.u⟩
      ·simp[intOf];omega
  ·have HE:=zD (bI y.u hlt);have o:¬(k:Int) < (G zL:Int):=by omega
   go_wp2;go_ret;exact⟨by rw[HE.u];simp,rfl⟩
end
end Go.Proofs.YthleadfkfnnadaaGreat
