/- The program's lines in memory. -/
import Derived.Test.YthleadfkfnnadaaGreatFormsd
set_option maxHeartbeats 4000000
set_option maxRecDepth 100000
set_option linter.all false
namespace Go.Proofs.YthleadfkfnnadaaGreat
open Value renaming int->J,slice->I,string->O,pointer->H,bool->A,agg->L,tuple->E
open IntKind renaming i64->U
open Option renaming none->Z,some->Q
open Bool renaming false->W,true->D
open List renaming length->G
open Ending renaming returned->T
open Obj renaming cells->V
open Rt Go.Proofs.Tryz
open Go.RowKit
variable {nm:Ia} {cs:List (List Value)} {ts:List Rt.Tk} {R n B B' N P:Nat} {fm:Rt.qS} {tv ov x a b c d e f lv:Value} {w w':World}
theorem KH {ops:List qM} {x:Ia} (h:kC w R tv ts n ov ops):Calls Tryz.prog 216 #[H (Q ⟨R,0,Z⟩),O x] w fun e w'=>
   (Rt.jb x (ts.drop n)=Q (ts.drop (n+1))/\e=T (A D)/\kC w' R tv ts (n+1) ov ops/\ZJ R ov ov w w')\/
   (Rt.jb x (ts.drop n)=Z/\e=T (A W)/\kC w' R tv ts n ov ops/\ZJ R ov ov w w'):=by
 by_cases hn:n < G ts
 ·by_cases hk:ts[n].text=x
  ·refine(JD x h hn hk).mono ?_;rintro e w' ⟨rfl,f,d⟩;exact Or.inl ⟨by rw[ql hn,Rt.jb,zE hk],rfl,f,d⟩
  ·refine(X9 x h hn hk).mono ?_;rintro e w' ⟨rfl,f,d⟩;exact Or.inr ⟨by rw[ql hn,Rt.jb,zA hk],rfl,f,d⟩
 ·refine(Ku x h hn).mono ?_;rintro e w' ⟨rfl,f,d⟩;exact Or.inr ⟨by rw[vW hn,Rt.jb],rfl,f,d⟩
theorem B9:(#[a,b,c,d,e,f].setIfInBounds 0 x)=#[x,b,c,d,e,f]:=rfl
theorem B7:(#[a,b,c,d,e,f].setIfInBounds 4 x)=#[a,b,c,d,x,f]:=rfl
theorem EF (hr:kC w R tv ts n zg []) (k2:∀t∈ts,t.text.size<=40000):Calls Tryz.prog 200 #[H (Q ⟨R,0,Z⟩)] w (YQ Rt.J6 R tv ts n w):=by
 have hlt:R < w.heap.size:=zt w _ (zC hr.block 0 (by simp));have k0:=zD k2;clear k2;go_enter func200,ntmps200;go_wp2_with fail;obtain⟨j3,g8⟩:=hr.zP ((zI w.heap.size w).alloc (zB _) (V yo 143));have i3:(w.alloc (V yo 143)).heap[w.heap.size]?=Q (V yo 143 (0,0)):=zN w _;refine(JH j3).mono ?_;rintro e w1 (⟨nm,hn,hs,rfl,j2,b4⟩| ⟨hs,rfl,j2,b4⟩)
 ·have hN:=b4.qT i3 (by omega);have l3:=zQ hN;have i7:=g8.trans b4;have HS:=zD hs;have j1:=(j2.zP ((zI w1.heap.size w1).alloc (zB _) (V #[J U 8,O nm,J U 0,zg,zg,zg] 143))).1;have g7:=i7.alloc (V #[J U 8,O nm,J U 0,zg,zg,zg] 143);have i2:=yR hN (V #[J U 8,O nm,J U 0,zg,zg,zg] 143);have i5:=zN w1 (V #[J U 8,O nm,J U 0,zg,zg,zg] 143);clear hr j3 g8 b4 hs i3 i7 hN j2;go_wp2_with fail;refine(KH j1).mono ?_;rintro e w2 (⟨h3,rfl,f6,T⟩| ⟨h3,rfl,f6,T⟩)
  ·have b6:=T.qT i2 (by omega);have b8:=T.qT i5 (by omega);have z:=g7.trans T;have b9:=zD h3;clear h3 T g7 i2 i5 j1;go_wp2_with fail;refine(ZZ f6 k0.u).mono ?_;rintro e w3 (⟨ix,n3,iv,h2,rfl,l5,l6,k3,j4,F⟩| ⟨h2,rfl,l4,F⟩)
   ·obtain⟨adi,capi,rfl⟩:=zK j4;have l2:=zQ b8;have d8:=yR (F.qT b6 (by omega)) (V #[I adi (G ix) capi] 140);have j8:=yR (F.qT b8 (by omega)) (V #[I adi (G ix) capi] 140);have j9:=zN w3 (V #[I adi (G ix) capi] 140);have j0:=(k3.zP ((zI w3.heap.size w3).alloc (zB _) (V #[I adi (G ix) capi] 140))).1;have g6:=(z.trans F).alloc (V #[I adi (G ix) capi] 140);have h7:=(yn (b':=w1.heap.size+1) j4 (by omega)).alloc (V #[I adi (G ix) capi] 140);have l1:=zQ (F.qT b8 (by omega));have i6:=zD h2;clear h2 F k3 j4 b6 b8 z f6;go_wp2_with fail;refine(KH j0).mono ?_;rintro e w4 (⟨h1,rfl,i0,o⟩| ⟨h1,rfl,i0,o⟩)
    ·have h8:=o.qT d8 (by omega);have j7:=o.qT j8 (by omega);have k4:=o.qT j9 (by omega);have f8:=o.ZH h7 (by omega);have k:=g6.trans o;have k1:=zD h1;have ⟨d0,d1,d2,d3,d4,d5,g0,g1,g2,g3,g4,g5⟩:=YD j7;have x0:=zC k4 0 (by simp);simp at x0;have i4:=zf (zf j7 0 (J U 9)) 4 (I adi (G ix) capi);rw[B9,B7]at i4;have i1:=Kz (Kz h8 (M:=w1.heap.size) (by omega) 0 (J U 9)) (M:=w1.heap.size) (by omega) 4 (I adi (G ix) capi);have i9:=(i0.setOther (N:=w1.heap.size) (i:=0) (by omega) (by intro g h;cases h) (J U 9)).setOther (N:=w1.heap.size) (i:=4) (by omega) (by intro g h;cases h) (I adi (G ix) capi);have f9:=(k.YS (N:=w1.heap.size) (i:=0) (by omega) (J U 9)).YS (N:=w1.heap.size) (i:=4) (by omega) (I adi (G ix) capi);have h6:=yk (yk f8 (a:=⟨w1.heap.size,0,Z⟩) (fun g hg=>by have:=(f8.lt g hg).1;show g≠w1.heap.size;omega) (J U 9)) (a:=⟨w1.heap.size,4,Z⟩) (fun g hg=>by have:=(f8.lt g hg).1;show g≠w1.heap.size;omega) (I adi (G ix) capi);clear h1 o i0 h8 j7 k4 f8 k d8 j8 j9 j0 g6 h7;go_wp2_with fail;refine(KH i9).mono ?_;rintro e w5 (⟨a8,rfl,a9,f⟩| ⟨a8,rfl,a9,f⟩)
     ·have x:=f.qT i1 (by omega);have b7:=f.qT i4 (by omega);have b3:=f.ZH h6 (by omega);have k:=f9.trans f;have h9:=zD a8;clear a8 f i9 i1 i4 h6 f9;go_wp2_with fail;refine(ZZ a9 k0.u).mono ?_;rintro e w6 (⟨em,n6,xv,a7,rfl,k7,l0,h4,b5,d⟩| ⟨a7,rfl,k5,d⟩)
      ·obtain⟨a5,j,rfl⟩:=zK b5;have a0:=d.qT x (by omega);have f7:=d.qT b7 (by omega);have y:=d.ZH b3 (by omega);have d7:=k.trans d;have HE:=zD (B3 HS.u b9.u i6.u k1.u (FK h9.u a7));have j5:=zQ f7;have d9:∀g,(Value.slice a5 (G em) j).ownBlock=Q g->w5.heap.size<=g:=fun g hg=>(b5.lt g hg).1;have j6:=zQ b7;obtain⟨c0,c1,c2,c3,c4,c5,f0,f1,f2,f3,f4,f5⟩:=YD a0;have ⟨d0,d1,d2,d3,d4,d5,_,_,_,_,_,g5⟩:=YD f7;have k6:¬w1.heap.size=w.heap.size:=by omega
       have hz:w.heap.size < w6.heap.size:=by omega
       have a1:=(h4.setOther (N:=w1.heap.size) (i:=5) (by omega) (by intro g h;cases h) (Value.slice (some ⟨w6.heap.size+1,0,none⟩) 1 1)).jM hlt (J U 9) (O nm) (J U 0) zg (Value.slice adi (G ix) capi) (Value.slice (some ⟨w6.heap.size+1,0,none⟩) 1 1);have a2:=(d7.YS (N:=w1.heap.size) (i:=5) (by omega) (Value.slice (Q ⟨w6.heap.size+1,0,Z⟩) 1 1)).jM (N:=w.heap.size) (zB _) (J U 9) (O nm) (J U 0) zg (Value.slice adi (G ix) capi) (Value.slice (Q ⟨w6.heap.size+1,0,Z⟩) 1 1);have a3:=yn (b':=w.heap.size) (ZU (N:=w.heap.size) (yk b5 (a:=⟨w1.heap.size,5,Z⟩) (fun g hg=>by have:=d9 g hg;show g≠w1.heap.size;omega) (Value.slice (Q ⟨w6.heap.size+1,0,Z⟩) 1 1)) (fun g hg=>by have:=d9 g hg;omega) (J U 9) (O nm) (J U 0) zg (Value.slice adi (G ix) capi) (Value.slice (Q ⟨w6.heap.size+1,0,Z⟩) 1 1)) (by omega);have a4:=yn (b':=w.heap.size) (ZU (N:=w.heap.size) (yk y (a:=⟨w1.heap.size,5,Z⟩) (fun g hg=>by have:=(y.lt g hg).1;show g≠w1.heap.size;omega) (Value.slice (Q ⟨w6.heap.size+1,0,Z⟩) 1 1)) (fun g hg=>by have:=(y.lt g hg).1;omega) (J U 9) (O nm) (J U 0) zg (Value.slice adi (G ix) capi) (Value.slice (Q ⟨w6.heap.size+1,0,Z⟩) 1 1)) (by omega);have HH:=gN a1 a2 a3 a4;clear a1 a2 a3 a4 h4 d7 b5 y a0 f7 k d x b7 b3 a9 a7 d9;go_wp2_with fail;refine zT (v:=E #[L #[J U 9,O nm,J U 0,zg,Value.slice adi (G ix) capi,I (Q ⟨w6.heap.size+1,0,Z⟩) 1 1],A D]) ?_ rfl ?_
       ·simp[results,results200,go_sem,c0,c1,c2,c3,c4,c5,hz]
       ·obtain⟨a1,a2,a3,a4⟩:=HH.u;have d6:=eO (w6.setCell ⟨w1.heap.size,5,Z⟩ (Value.slice (Q ⟨w6.heap.size+1,0,Z⟩) 1 1)) w.heap.size (J U 9) (O nm) (J U 0) zg (Value.slice adi (G ix) capi) (Value.slice (Q ⟨w6.heap.size+1,0,Z⟩) 1 1);have h0:(w6.setCell ⟨w1.heap.size,5,Z⟩ (Value.slice (Q ⟨w6.heap.size+1,0,Z⟩) 1 1)).heap.size=w6.heap.size:=by simp[World.setCell]
        generalize i8:W6 (w6.setCell ⟨w1.heap.size,5,Z⟩ (Value.slice (Q ⟨w6.heap.size+1,0,Z⟩) 1 1)) w.heap.size (J U 9) (O nm) (J U 0) zg (Value.slice adi (G ix) capi) (Value.slice (Q ⟨w6.heap.size+1,0,Z⟩) 1 1)=wA at a1 a2 a3 a4 d6;obtain⟨b1,b2⟩:=a1.zP (((zI wA.heap.size wA).alloc (zB _) (V #[I a5 (G em) j] 140)).alloc (by simp) (V #[I a5 (G em) j] 140));have b0:=KS (wA.alloc (V #[I a5 (G em) j] 140)) w.heap.size 140 (I a5 (G em) j) (by simp;omega);have g9:(wA.alloc (V #[I a5 (G em) j] 140)).heap.size=w6.heap.size+1:=by simp[d6,h0]
        rw[g9]at b0
        skip
        rw[<-i8]at b1 b2 b0 a2 a3 a4;exact Or.inl ⟨⟨9,nm,0,[],ix,[em]⟩,n6,_,HE.u,rfl,b1,⟨zg,Value.slice adi (G ix) capi,_,[_],rfl,zW _ _ _ _,(a4.alloc _).alloc _,b0,⟨(a3.alloc _).alloc _,trivial⟩⟩,a2.trans b2⟩
      ·have a0:=d.qT x (by omega);have HE:=zD (B3 HS.u b9.u i6.u k1.u (FM h9.u a7));have a6:=zD (k.trans d);obtain⟨c0,c1,c2,c3,c4,c5,f0,f1,f2,f3,f4,f5⟩:=YD a0;have hz:=zQ a0;clear a0 x b7 b3 a9 k d a7;go_wp2_with fail;refine zT (v:=E #[L yo,A W]) ?_ rfl (Or.inr ⟨HE.u,rfl,_,(a6.u.jM (N:=w.heap.size) (zB _) _ _ _ _ _ _).alloc _⟩);simp[results,results200,go_sem,c0,c1,c2,c3,c4,c5,hz]
     ·have x:=f.qT i1 (by omega);have HE:=zD (B3 HS.u b9.u i6.u k1.u (uK a8));have a6:=zD (f9.trans f);obtain⟨c0,c1,c2,c3,c4,c5,f0,f1,f2,f3,f4,f5⟩:=YD x;clear x a9 f a8 i9 i1 i4 h6 f9;go_wp2_with fail;refine zT (v:=E #[L yo,A W]) ?_ rfl (Or.inr ⟨HE.u,rfl,_,a6.u.jM (zB _) _ _ _ _ _ _⟩);simp[results,results200,go_sem,c0,c1,c2,c3,c4,c5]
    ·have h8:=o.qT d8 (by omega);have HE:=zD (Ga HS.u b9.u i6.u h1);have a6:=zD (g6.trans o);obtain⟨c0,c1,c2,c3,c4,c5,f0,f1,f2,f3,f4,f5⟩:=YD h8;clear h8 i0 o h1 d8 j8 j9 j0 g6 h7;go_wp2_with fail;refine zT (v:=E #[L yo,A W]) ?_ rfl (Or.inr ⟨HE.u,rfl,_,a6.u.jM (zB _) _ _ _ _ _ _⟩);simp[results,results200,go_sem,c0,c1,c2,c3,c4,c5]
   ·have d8:=F.qT b6 (by omega);have HE:=zD (GZ HS.u b9.u h2);have a6:=zD (z.trans F);obtain⟨c0,c1,c2,c3,c4,c5,f0,f1,f2,f3,f4,f5⟩:=YD d8;have hz:=zQ d8;clear d8 F h2 b6 b8 z f6;go_wp2_with fail;refine zT (v:=E #[L yo,A W]) ?_ rfl (Or.inr ⟨HE.u,rfl,_,(a6.u.jM (N:=w.heap.size) (zB _) _ _ _ _ _ _).alloc _⟩);simp[results,results200,go_sem,c0,c1,c2,c3,c4,c5,hz]
  ·have b6:=T.qT i2 (by omega);have b8:=T.qT i5 (by omega);have z:=g7.trans T;have b9:=zD h3;have h5:w2.ownsRow (w1.heap.size+1) 236 3 zg 0 (xX []):=zW _ _ _ _;clear h3 T g7 i2 i5 j1;go_wp2_with fail;refine(KH f6).mono ?_;rintro e w5 (⟨a8,rfl,a9,f⟩| ⟨a8,rfl,a9,f⟩)
   ·have x:=f.qT b6 (by omega);have b7:=f.qT b8 (by omega);have b3:=f.ZH h5 (by omega);have k:=z.trans f;have h9:=zD a8;clear a8 f f6 b6 b8 h5 z;go_wp2_with fail;refine(ZZ a9 k0.u).mono ?_;rintro e w6 (⟨em,n6,xv,a7,rfl,k7,l0,h4,b5,d⟩| ⟨a7,rfl,k5,d⟩)
    ·obtain⟨a5,j,rfl⟩:=zK b5;have a0:=d.qT x (by omega);have f7:=d.qT b7 (by omega);have y:=d.ZH b3 (by omega);have d7:=k.trans d;have HE:=zD (B4 HS.u b9.u (FK h9.u a7));have j5:=zQ f7;have d9:∀g,(Value.slice a5 (G em) j).ownBlock=Q g->w5.heap.size<=g:=fun g hg=>(b5.lt g hg).1;have j6:=zQ b7;obtain⟨c0,c1,c2,c3,c4,c5,f0,f1,f2,f3,f4,f5⟩:=YD a0;have ⟨d0,d1,d2,d3,d4,d5,_,_,_,_,_,g5⟩:=YD f7;have k6:¬w1.heap.size=w.heap.size:=by omega
     have hz:w.heap.size < w6.heap.size:=by omega
     have a1:=(h4.setOther (N:=w1.heap.size) (i:=5) (by omega) (by intro g h;cases h) (Value.slice (some ⟨w6.heap.size+1,0,none⟩) 1 1)).jM hlt (J U 8) (O nm) (J U 0) zg (zg) (Value.slice (some ⟨w6.heap.size+1,0,none⟩) 1 1);have a2:=(d7.YS (N:=w1.heap.size) (i:=5) (by omega) (Value.slice (Q ⟨w6.heap.size+1,0,Z⟩) 1 1)).jM (N:=w.heap.size) (zB _) (J U 8) (O nm) (J U 0) zg (zg) (Value.slice (Q ⟨w6.heap.size+1,0,Z⟩) 1 1);have a3:=yn (b':=w.heap.size) (ZU (N:=w.heap.size) (yk b5 (a:=⟨w1.heap.size,5,Z⟩) (fun g hg=>by have:=d9 g hg;show g≠w1.heap.size;omega) (Value.slice (Q ⟨w6.heap.size+1,0,Z⟩) 1 1)) (fun g hg=>by have:=d9 g hg;omega) (J U 8) (O nm) (J U 0) zg (zg) (Value.slice (Q ⟨w6.heap.size+1,0,Z⟩) 1 1)) (by omega);have a4:=yn (b':=w.heap.size) (ZU (N:=w.heap.size) (yk y (a:=⟨w1.heap.size,5,Z⟩) (fun g hg=>by have:=(y.lt g hg).1;show g≠w1.heap.size;omega) (Value.slice (Q ⟨w6.heap.size+1,0,Z⟩) 1 1)) (fun g hg=>by have:=(y.lt g hg).1;omega) (J U 8) (O nm) (J U 0) zg (zg) (Value.slice (Q ⟨w6.heap.size+1,0,Z⟩) 1 1)) (by omega);have HH:=gN a1 a2 a3 a4;clear a1 a2 a3 a4 h4 d7 b5 y a0 f7 k d x b7 b3 a9 a7 d9;go_wp2_with fail;refine zT (v:=E #[L #[J U 8,O nm,J U 0,zg,zg,I (Q ⟨w6.heap.size+1,0,Z⟩) 1 1],A D]) ?_ rfl ?_
     ·simp[results,results200,go_sem,c0,c1,c2,c3,c4,c5,hz]
     ·obtain⟨a1,a2,a3,a4⟩:=HH.u;have d6:=eO (w6.setCell ⟨w1.heap.size,5,Z⟩ (Value.slice (Q ⟨w6.heap.size+1,0,Z⟩) 1 1)) w.heap.size (J U 8) (O nm) (J U 0) zg (zg) (Value.slice (Q ⟨w6.heap.size+1,0,Z⟩) 1 1);have h0:(w6.setCell ⟨w1.heap.size,5,Z⟩ (Value.slice (Q ⟨w6.heap.size+1,0,Z⟩) 1 1)).heap.size=w6.heap.size:=by simp[World.setCell]
      generalize i8:W6 (w6.setCell ⟨w1.heap.size,5,Z⟩ (Value.slice (Q ⟨w6.heap.size+1,0,Z⟩) 1 1)) w.heap.size (J U 8) (O nm) (J U 0) zg (zg) (Value.slice (Q ⟨w6.heap.size+1,0,Z⟩) 1 1)=wA at a1 a2 a3 a4 d6;obtain⟨b1,b2⟩:=a1.zP (((zI wA.heap.size wA).alloc (zB _) (V #[I a5 (G em) j] 140)).alloc (by simp) (V #[I a5 (G em) j] 140));have b0:=KS (wA.alloc (V #[I a5 (G em) j] 140)) w.heap.size 140 (I a5 (G em) j) (by simp;omega);have g9:(wA.alloc (V #[I a5 (G em) j] 140)).heap.size=w6.heap.size+1:=by simp[d6,h0]
      rw[g9]at b0
      skip
      rw[<-i8]at b1 b2 b0 a2 a3 a4;exact Or.inl ⟨⟨8,nm,0,[],[],[em]⟩,n6,_,HE.u,rfl,b1,⟨zg,zg,_,[_],rfl,zW _ _ _ _,(a4.alloc _).alloc _,b0,⟨(a3.alloc _).alloc _,trivial⟩⟩,a2.trans b2⟩
    ·have a0:=d.qT x (by omega);have HE:=zD (B4 HS.u b9.u (FM h9.u a7));have a6:=zD (k.trans d);obtain⟨c0,c1,c2,c3,c4,c5,f0,f1,f2,f3,f4,f5⟩:=YD a0;have hz:=zQ a0;clear a0 x b7 b3 a9 k d a7;go_wp2_with fail;refine zT (v:=E #[L yo,A W]) ?_ rfl (Or.inr ⟨HE.u,rfl,_,(a6.u.jM (N:=w.heap.size) (zB _) _ _ _ _ _ _).alloc _⟩);simp[results,results200,go_sem,c0,c1,c2,c3,c4,c5,hz]
   ·have x:=f.qT b6 (by omega);have HE:=zD (B4 HS.u b9.u (uK a8));have a6:=zD (z.trans f);obtain⟨c0,c1,c2,c3,c4,c5,f0,f1,f2,f3,f4,f5⟩:=YD x;clear x a9 f a8 f6 b6 b8 h5 z;go_wp2_with fail;refine zT (v:=E #[L yo,A W]) ?_ rfl (Or.inr ⟨HE.u,rfl,_,a6.u.jM (zB _) _ _ _ _ _ _⟩);simp[results,results200,go_sem,c0,c1,c2,c3,c4,c5]
 ·obtain⟨c0,c1,c2,c3,c4,c5,f0,f1,f2,f3,f4,f5⟩:=YD (b4.qT i3 (by omega));have HS:=zD hs;have a6:=zD (g8.trans b4);clear hr j3 g8 b4 hs i3;go_wp2_with fail;refine zT (v:=E #[L yo,A W]) ?_ rfl (Or.inr ⟨by rw[Rt.J6,HS.u],rfl,_,a6.u.jM (zB _) _ _ _ _ _ _⟩);simp[results,results200,go_sem,c0,c1,c2,c3,c4,c5]
theorem qi.map {w w':World} {B:Nat} (h:∀x o,w.ownsRow B 236 3 x (List.length o) (xX o)->w'.ownsRow B 236 3 x (List.length o) (xX o)):∀xs os,qi w B xs os->qi w' B xs os
 | [],[],_=>trivial
 | x::xs,o::os,⟨h1,h2⟩=>⟨h x o h1,qi.map h xs os h2⟩
 | [],_::_,h=>h.elim
 | _::_,[],h=>h.elim
theorem qi.snoc {w:World} {B:Nat} {x:Value} {o:List qM} (h:w.ownsRow B 236 3 x (G o) (xX o)):∀xs os,qi w B xs os->qi w B (xs++[x]) (os++[o])
 | [],[],_=>⟨h,trivial⟩
 | _::xs,_::os,⟨h1,h2⟩=>⟨h1,qi.snoc h xs os h2⟩
 | [],_::_,h=>h.elim
 | _::_,[],h=>h.elim
theorem V4 {w:World} {B B':Nat} (d:B'<=B):∀xs os,qi w B xs os->qi w B' xs os
 | [],[],_=>trivial
 | _::xs,_::os,⟨h1,h2⟩=>⟨yn h1 d,V4 d xs os h2⟩
 | [],_::_,h=>h.elim
 | _::_,[],h=>h.elim
theorem VX (w:World) {o:Obj} {t:TypeId}:∀j u,[x][j]?=Q u->((w.alloc o).alloc (V #[x] t)).cell? ((⟨w.heap.size+1,0,Z⟩:Addr).add j)=Q u:=by
 have h:=cell_one_new (w.alloc o) x t;simpa using h
theorem B6:(#[a,b,c,d,e,f].setIfInBounds 5 x)=#[a,b,c,d,e,x]:=rfl
theorem C5:(Tryz.prog.info? 140).map (fun i=>(i.zero,i.size,i.bytes))=Q (Q (L #[I Z 0 0]),1,24):=by kernel_rfl
theorem Db (hr:kC w R tv ts n zg []) (h7:∀t∈ts,t.text.size<=40000):Calls Tryz.prog 201 #[H (Q ⟨R,0,Z⟩)] w (YQ Rt.pCall R tv ts n w):=by
 have j1:R < w.heap.size:=zt w _ (zC hr.block 0 (by simp));obtain⟨i0,hi,j0,i9,i8⟩:=yi C5;have j7:=hr.VJ;have j3:=zD h7;clear h7;go_enter func201,ntmps201;go_wp2_with fail;obtain⟨h3,b1⟩:=hr.zP ((zI w.heap.size w).alloc (zB _) (V yo 143));have d7:(w.alloc (V yo 143)).heap[w.heap.size]?=Q (V yo 143 (0,0)):=zN w _;refine(JH h3).mono ?_;rintro e w1 (⟨nm,hn,hs,rfl,h1,T⟩| ⟨hs,rfl,h1,T⟩)
 ·have hN:=T.qT d7 (by omega);have j9:=zQ hN;have g3:=b1.trans T;have HS:=zD hs;have h8:=(h1.zP ((zI w1.heap.size w1).alloc (zB _) (V #[J U 12,O nm,J U 0,zg,zg,zg] 143))).1;have g2:=g3.alloc (V #[J U 12,O nm,J U 0,zg,zg,zg] 143);have i2:=yR hN (V #[J U 12,O nm,J U 0,zg,zg,zg] 143);have i5:=zN w1 (V #[J U 12,O nm,J U 0,zg,zg,zg] 143);clear hr h3 b1 T hs d7 g3 hN h1;go_wp2_with fail;refine(Cb h8).mono ?_;rintro e w2 ⟨rfl,a0,j⟩;have a3:=j.qT i2 (by omega);have a4:=j.qT i5 (by omega);have g1:=g2.trans j;clear j g2 i2 i5 h8;go_wp2_with fail;go_loopg [7,8,9] (if n+1 < G ts then G ts-(n+1)+1 else 0) (fun k wn _ _ wr=>∃(b:Bool) (n2 f:Nat) (vv:Value) (vs:List Value) (acc:List (List qM)),wn=A b/\k=(if b=D then G ts-n2+1 else 0)/\n+1<=n2/\n2<=24/\G acc+(n+1)<=n2/\
   (b=D->G ts-n2 < f/\Rt.pArgs f acc (ts.drop n2)=Rt.ZT (ts.drop (n+1)))/\(b=W->Rt.ZT (ts.drop (n+1))=Q (acc,ts.drop n2))/\
   kC wr R tv ts n2 zg []/\ZJ R zg zg w wr/\wr.heap[w.heap.size]?=Q (V yo 143 (0,0))/\
   wr.heap[w1.heap.size]?=Q (V #[J U 12,O nm,J U 0,zg,zg,vv] 143 (0,0))/\wr.ownsRow (w1.heap.size+1) 140 1 vv (G acc) vs/\qi wr (w1.heap.size+1) vs acc)
  case atStart=>
   refine⟨decide (n+1 < G ts),n+1,25,zg,[],[],rfl,?_,zB _,by have:=a0.le;omega,by simp,?_,?_,a0,g1,a3,a4,zW _ _ _ _,trivial⟩
   ·simp only[yS]
   ·intro h;simp at h;refine⟨by omega,?_⟩;rw[Rt.ZT,zA (fun e=>by rw[ql h]at e;cases e)]
   ·intro h;simp at h;rw[Rt.ZT,zE (vW (by omega))]
  case round=>
   clear a0 g1 a3 a4;obtain⟨b,n2,f,vv,vs,acc,rfl,hk,k3,j4,j8,h4,h5,a0,j,a3,a4,a8,b5⟩:=hrel;obtain⟨ad,cap,rfl⟩:=zK a8;cases b with
   | false=>
    have HE:=zD (BN HS.u (h5 rfl));obtain⟨c0,c1,c2,c3,c4,c5,f0,f1,f2,f3,f4,f5⟩:=YD a3;have ⟨d0,d1,d2,d3,d4,d5,_,_,_,_,_,_⟩:=YD a4;have HO:=zD (yn (b':=w.heap.size) (ZU (N:=w.heap.size) a8 (fun g hg=>by have:=(a8.lt g hg).1;omega) (J U 12) (O nm) (J U 0) zg zg (I ad (G acc) cap)) (by omega));have HV:Hd (qi (W6 wr w.heap.size (J U 12) (O nm) (J U 0) zg zg (I ad (G acc) cap)) w.heap.size vs acc):=by
     refine zD ?_;have hx:∀x o,wr.ownsRow (w1.heap.size+1) 236 3 x (List.length o) (xX o)->(W6 wr w.heap.size (J U 12) (O nm) (J U 0) zg zg (I ad (G acc) cap)).ownsRow (w1.heap.size+1) 236 3 x (List.length o) (xX o):=fun x o h=>ZU h (fun g hg=>by have:=(h.lt g hg).1;omega) _ _ _ _ _ _;have h2:=qi.map hx _ _ b5;clear hx;exact V4 (by omega) _ _ h2
    have HR:=zD a0;have b9:=zD j;clear hk h4 h5 a0 j a3 a4 a8 b5;go_wp2_with fail;refine zT (v:=E #[L #[J U 12,O nm,J U 0,zg,zg,I ad (G acc) cap],A D]) ?_ rfl
     (Or.inl ⟨⟨12,nm,0,[],[],acc⟩,n2,_,HE.u,rfl,HR.u.jM j1 _ _ _ _ _ _,⟨zg,zg,_,vs,rfl,zW _ _ _ _,zW _ _ _ _,HO.u,HV.u⟩,b9.u.jM (zB _) _ _ _ _ _ _⟩);simp[results,results201,go_sem,c0,c1,c2,c3,c4,c5]
   | true=>
    obtain⟨hf,hT⟩:=h4 rfl;obtain⟨f,rfl⟩:∃f',f=f'+1:=⟨f-1,by omega⟩;have HT:=zD hT;have HK:=zD hk;clear h4 h5 hT hk;go_wp2_with fail;refine(ZZ a0 j3.u).mono ?_;rintro e w3 (⟨em,n3,xv,b7,rfl,k2,k4,h0,g8,y⟩| ⟨b7,rfl,k1,y⟩)
    ·obtain⟨a7,F,rfl⟩:=zK g8;have j2:=zQ a4;have b3:=y.qT a3 (by omega);have d8:=y.qT a4 (by omega);have f7:=y.ZH a8 (by omega);have g0:=qi.map (w':=w3) (fun x o h=>y.ZH h (by omega)) _ _ b5;have g7:=j.trans y;have f6:=yn (b':=w1.heap.size+1) g8 (by omega);have j6:=h0.le;have i7:=zD b7;clear a0 j a3 a4 a8 b5 g8 y b7;have i4:=yR b3 (V #[I a7 (G em) F] 140);have i6:=yR d8 (V #[I a7 (G em) F] 140);have k0:=zQ d8;have a5:=f7.alloc (V #[I a7 (G em) F] 140);have f9:=qi.map (w':=w3.alloc (V #[I a7 (G em) F] 140)) (fun x o h=>h.alloc _) _ _ g0;have b4:=f6.alloc (V #[I a7 (G em) F] 140);have i1:=(h0.zP ((zI w3.heap.size w3).alloc (zB _) (V #[I a7 (G em) F] 140))).1;have g6:=g7.alloc (V #[I a7 (G em) F] 140);have ⟨_,_,_,_,_,d5,_,_,_,_,_,g5⟩:=YD d8;clear h0 g7 b3 d8 f7 g0 f6;go_wp2_with (at_builtin;refine xQ _ rfl (.tmp 32) (.tmp 34) 141 rfl (w1.heap.size+1) 140 i0 _ 1 24 underlying141 hi j0 i9 i8 rfl (by decide) _ _ _ rfl (a5.alloc _) ⟨_,0,Z⟩ 1 1 [I a7 (G em) F] rfl rfl (VX _) ?c2 ?c3 ?c4 ?c5 ?_)
     case c2=>intro u hu;simp at hu;rcases hu with rfl;rfl
     case c3=>unfold maxLen;omega
     case c4=>omega
     case c5=>simp;omega
     intro v' w5 a2 z _;have a6:∀k,(Value.slice ad (G acc) cap).ownBlock=Q k->w1.heap.size < k:=fun k hk=>by have:=(a5.lt k hk).1;omega
     have h6:=QW z i6 (fun h=>by have:=a6 _ h;omega);have i3:=QW z i4 (fun h=>by have:=a6 _ h;omega);have h9:=i1.kept (mA z (by simp;omega) (fun k hk=>by have:=a6 k hk;omega));have g4:=g6.grown z (fun k hk=>by have:=a6 k hk;omega);have f8:=qi.map (w':=w5) (fun x o h=>lQ h z (Ys h a5 (by decide))) _ _ f9;have d9:=lQ b4 z (Ys b4 a5 (by decide));obtain⟨ad5,cap5,rfl⟩:=zK a2;have ⟨_,_,_,_,_,e5,_,_,_,_,_,k5⟩:=YD h6;have b8:=zf h6 5 (Value.slice ad5 (G acc+1) cap5);rw[B6]at b8;have d6:=Kz i3 (M:=w1.heap.size) (by omega) 5 (Value.slice ad5 (G acc+1) cap5);have g9:=h9.setOther (N:=w1.heap.size) (i:=5) (by omega) (by intro g h;cases h) (Value.slice ad5 (G acc+1) cap5);have b0:=g4.YS (N:=w1.heap.size) (i:=5) (by omega) (Value.slice ad5 (G acc+1) cap5);have a1:=yk a2 (a:=⟨w1.heap.size,5,Z⟩) (fun g hg=>by have:=(a2.lt g hg).1;show g≠w1.heap.size;omega) (Value.slice ad5 (G acc+1) cap5);have a9:=qi.map (w':=w5.setCell ⟨w1.heap.size,5,Z⟩ (Value.slice ad5 (G acc+1) cap5)) (fun x o h=>yk h (fun g hg=>by have:=(h.lt g hg).1;show g≠w1.heap.size;omega) _) _ _ (qi.snoc d9 _ _ f8);clear h6 i3 h9 g4 a2 z i1 g6 i6 i4 a5 a6 f8 d9 f9 b4;go_wp2_with fail;refine(KH g9).mono ?_;rintro e w7 (⟨b6,rfl,b2,d⟩| ⟨b6,rfl,b2,d⟩)
     ·have HT2:=zD ((BU (f:=f) (acc:=acc) i7.u b6).symm.trans HT.u);have HH:=GW (d.qT d6 (by omega)) (d.qT b8 (by omega)) b2 (b0.trans d) (d.ZH a1 (by omega)) (qi.map (w':=w7) (fun x o h=>d.ZH h (by omega)) _ _ a9);have j5:=b2.le;clear b2 d d6 b8 g9 b0 a1 a9 b6;go_wp2;go_roundg (G ts-(n3+1)+1)
      case measure=>have:=HK.u;simp at this;omega
      case rel=>
       obtain⟨q1,q2,q3,q4,q5,q6⟩:=HH.u;exact⟨true,n3+1,f,_,_,acc++[em],rfl,by simp,by omega,by omega,by simp;omega,fun _=>⟨by omega,HT2.u⟩,(fun h=>by cases h),q3,q4,q1,q2,by simpa using q5,q6⟩
     ·have HT2:=zD (HT.u.symm.trans (BS (f:=f) (acc:=acc) i7.u b6));have HH:=GW (d.qT d6 (by omega)) (d.qT b8 (by omega)) b2 (b0.trans d) (d.ZH a1 (by omega)) (qi.map (w':=w7) (fun x o h=>d.ZH h (by omega)) _ _ a9);clear b2 d d6 b8 g9 b0 a1 a9 b6;go_wp2;go_roundg 0
      case measure=>have:=HK.u;simp at this;omega
      case rel=>
       obtain⟨q1,q2,q3,q4,q5,q6⟩:=HH.u;exact⟨false,n3,f,_,_,acc++[em],rfl,by simp,by omega,by omega,by simp;omega,(fun h=>by cases h),fun _=>HT2.u,q3,q4,q1,q2,by simpa using q5,q6⟩
    ·have b3:=y.qT a3 (by omega);have HE:=zD (BO HS.u (HT.u.symm.trans (BT b7)));have b9:=zD (j.trans y);obtain⟨c0,c1,c2,c3,c4,c5,f0,f1,f2,f3,f4,f5⟩:=YD b3;have hz:=zQ b3;clear b3 y b7 a0 j a3 a4 a8 b5;go_wp2_with fail;refine zT (v:=E #[L yo,A W]) ?_ rfl (Or.inr ⟨HE.u,rfl,_,(b9.u.jM (N:=w.heap.size) (zB _) _ _ _ _ _ _).alloc _⟩);simp[results,results201,go_sem,c0,c1,c2,c3,c4,c5,hz]
 ·obtain⟨c0,c1,c2,c3,c4,c5,f0,f1,f2,f3,f4,f5⟩:=YD (T.qT d7 (by omega));have HS:=zD hs;have b9:=zD (b1.trans T);clear hr h3 b1 T hs d7;go_wp2_with fail;refine zT (v:=E #[L yo,A W]) ?_ rfl (Or.inr ⟨by rw[Rt.pCall,HS.u],rfl,_,b9.u.jM (zB _) _ _ _ _ _ _⟩);simp[results,results201,go_sem,c0,c1,c2,c3,c4,c5]
theorem vO {v:Array Value} (h:qk w B v fm) (G:N < B) (j:B'<=B):qk (W6 w N a b c d e f) B' v fm:=by
 obtain⟨y,iv,vv,k,rfl,F,D,A,z⟩:=h;have i:∀(t:TypeId) (size n:Nat) (v:Value) (xs:List Value),w.ownsRow B t size v n xs->(W6 w N a b c d e f).ownsRow B' t size v n xs:=fun t size n v xs h=>yn (ZU h (fun g hg=>by have:=(h.lt g hg).1;omega) _ _ _ _ _ _) j;refine⟨y,iv,vv,k,rfl,i _ _ _ _ _ F,i _ _ _ _ _ D,i _ _ _ _ _ A,?_⟩;exact V4 j _ _ (qi.map (fun x o h=>ZU h (fun g hg=>by have:=(h.lt g hg).1;omega) _ _ _ _ _ _) _ _ z)
theorem Cj (first:Ia) (hr:kC w R tv ts n zg []) (h0:(first.toList==[118,97,114])=D):Calls Tryz.prog 169 #[H (Q ⟨R,0,Z⟩),O first] w (YQ (Rt.xY first) R tv ts n w):=by
 have N:R < w.heap.size:=zt w _ (zC hr.block 0 (by simp));have HP:Hd (Rt.xY first (ts.drop n)=Rt.pNamed 1 (ts.drop n)):=by
  refine zD ?_;simp[Rt.xY,h0]
 go_enter func169,ntmps169;go_wp2_with fail;obtain⟨M,f⟩:=hr.zP ((zI w.heap.size w).alloc (zB _) (V yo 143));have o:(w.alloc (V yo 143)).heap[w.heap.size]?=Q (V yo 143 (0,0)):=zN w _;refine(lT 1 M).mono ?_;rintro e w1 (⟨h,n1,fv,z,rfl,F,k,d⟩| ⟨z,rfl,ov,d⟩)
 ·obtain⟨c0,c1,c2,c3,c4,T,f0,f1,f2,f3,f4,f5⟩:=YD (d.qT o (by omega));have j:=k;obtain⟨pv,iv,vv,vs,rfl,b1,b2,b3,_⟩:=k;obtain⟨a2,cap1,rfl⟩:=zK b1;obtain⟨a1,y,rfl⟩:=zK b2;obtain⟨a0,x,rfl⟩:=zK b3;have HE:=zD (HP.u.trans z);have HV:=zD j;have HR:=zD F;have i:=zD (f.trans d);go_wp2_with fail;refine zT (v:=E #[L #[J U h.kind,O h.name,J U h.cells,I a2 (G h.params) cap1,I a1 (G h.index) y,I a0 (G h.values) x],A D]) ?_ rfl
   (Or.inl ⟨h,n1,_,HE.u,rfl,HR.u.jM N _ _ _ _ _ _,vO HV.u (by simp) (by simp),i.u.jM (zB _) _ _ _ _ _ _⟩);simp[results,results169,go_sem,c0,c1,c2,c3,c4,T]
 ·obtain⟨c0,c1,c2,c3,c4,T,f0,f1,f2,f3,f4,f5⟩:=YD (d.qT o (by omega));have HE:=zD (HP.u.trans z);have i:=zD (f.trans d);go_wp2_with fail;refine zT (v:=E #[L yo,A W]) ?_ rfl (Or.inr ⟨HE.u,rfl,_,i.u.jM (zB _) _ _ _ _ _ _⟩);simp[results,results169,go_sem,c0,c1,c2,c3,c4,T]
theorem tH (first:Ia) (hr:kC w R tv ts n zg []) (z:∀t∈ts,t.text.size<=40000) (h0:(first.toList==[118,97,114])=W) (h1:(first.toList==[97,114,114,97,121])=D):Calls Tryz.prog 169 #[H (Q ⟨R,0,Z⟩),O first] w (YQ (Rt.xY first) R tv ts n w):=by
 have T:R < w.heap.size:=zt w _ (zC hr.block 0 (by simp));have a3:=zD z;have HP:Hd (Rt.xY first (ts.drop n)=Rt.pArray (ts.drop n)):=by
  refine zD ?_;simp[Rt.xY,h0,h1]
 go_enter func169,ntmps169;go_wp2_with fail;obtain⟨N,f⟩:=hr.zP ((zI w.heap.size w).alloc (zB _) (V yo 143));have o:(w.alloc (V yo 143)).heap[w.heap.size]?=Q (V yo 143 (0,0)):=zN w _;refine(BR N a3.u).mono ?_;rintro e w1 (⟨h,n1,fv,F,rfl,M,k,d⟩| ⟨F,rfl,ov,d⟩)
 ·obtain⟨c0,c1,c2,c3,c4,c5,f0,f1,f2,f3,f4,f5⟩:=YD (d.qT o (by omega));have j:=k;obtain⟨pv,iv,vv,vs,rfl,b1,b2,b3,_⟩:=k;obtain⟨a2,cap1,rfl⟩:=zK b1;obtain⟨a1,y,rfl⟩:=zK b2;obtain⟨a0,x,rfl⟩:=zK b3;have HE:=zD (HP.u.trans F);have HV:=zD j;have HR:=zD M;have i:=zD (f.trans d);go_wp2_with fail;refine zT (v:=E #[L #[J U h.kind,O h.name,J U h.cells,I a2 (G h.params) cap1,I a1 (G h.index) y,I a0 (G h.values) x],A D]) ?_ rfl
   (Or.inl ⟨h,n1,_,HE.u,rfl,HR.u.jM T _ _ _ _ _ _,vO HV.u (by simp) (by simp),i.u.jM (zB _) _ _ _ _ _ _⟩);simp[results,results169,go_sem,c0,c1,c2,c3,c4,c5]
 ·obtain⟨c0,c1,c2,c3,c4,c5,f0,f1,f2,f3,f4,f5⟩:=YD (d.qT o (by omega));have HE:=zD (HP.u.trans F);have i:=zD (f.trans d);go_wp2_with fail;refine zT (v:=E #[L yo,A W]) ?_ rfl (Or.inr ⟨HE.u,rfl,_,i.u.jM (zB _) _ _ _ _ _ _⟩);simp[results,results169,go_sem,c0,c1,c2,c3,c4,c5]
theorem An (first:Ia) (hr:kC w R tv ts n zg []) (h0:(first.toList==[118,97,114])=W) (h1:(first.toList==[97,114,114,97,121])=W) (h2:(first.toList==[112,114,111,99])=D):Calls Tryz.prog 169 #[H (Q ⟨R,0,Z⟩),O first] w (YQ (Rt.xY first) R tv ts n w):=by
 have N:R < w.heap.size:=zt w _ (zC hr.block 0 (by simp));have HP:Hd (Rt.xY first (ts.drop n)=Rt.pProc (ts.drop n)):=by
  refine zD ?_;simp[Rt.xY,h0,h1,h2]
 go_enter func169,ntmps169;go_wp2_with fail;obtain⟨M,f⟩:=hr.zP ((zI w.heap.size w).alloc (zB _) (V yo 143));have o:(w.alloc (V yo 143)).heap[w.heap.size]?=Q (V yo 143 (0,0)):=zN w _;refine(iV M).mono ?_;rintro e w1 (⟨h,n1,fv,z,rfl,F,k,d⟩| ⟨z,rfl,ov,d⟩)
 ·obtain⟨c0,c1,c2,c3,c4,T,f0,f1,f2,f3,f4,f5⟩:=YD (d.qT o (by omega));have j:=k;obtain⟨pv,iv,vv,vs,rfl,b1,b2,b3,_⟩:=k;obtain⟨a2,cap1,rfl⟩:=zK b1;obtain⟨a1,y,rfl⟩:=zK b2;obtain⟨a0,x,rfl⟩:=zK b3;have HE:=zD (HP.u.trans z);have HV:=zD j;have HR:=zD F;have i:=zD (f.trans d);go_wp2_with fail;refine zT (v:=E #[L #[J U h.kind,O h.name,J U h.cells,I a2 (G h.params) cap1,I a1 (G h.index) y,I a0 (G h.values) x],A D]) ?_ rfl
   (Or.inl ⟨h,n1,_,HE.u,rfl,HR.u.jM N _ _ _ _ _ _,vO HV.u (by simp) (by simp),i.u.jM (zB _) _ _ _ _ _ _⟩);simp[results,results169,go_sem,c0,c1,c2,c3,c4,T]
 ·obtain⟨c0,c1,c2,c3,c4,T,f0,f1,f2,f3,f4,f5⟩:=YD (d.qT o (by omega));have HE:=zD (HP.u.trans z);have i:=zD (f.trans d);go_wp2_with fail;refine zT (v:=E #[L yo,A W]) ?_ rfl (Or.inr ⟨HE.u,rfl,_,i.u.jM (zB _) _ _ _ _ _ _⟩);simp[results,results169,go_sem,c0,c1,c2,c3,c4,T]
theorem Cl (first:Ia) (f:kC w R tv ts n zg []) (k:(first.toList==[118,97,114])=W) (j:(first.toList==[97,114,114,97,121])=W) (i:(first.toList==[112,114,111,99])=W) (h:(first.toList==[101,110,100])=D):Calls Tryz.prog 169 #[H (Q ⟨R,0,Z⟩),O first] w (YQ (Rt.xY first) R tv ts n w):=by
 have o:Hd (Rt.xY first (ts.drop n)=Q (⟨4,⟨#[]⟩,0,[],[],[]⟩,ts.drop n)):=by
  refine zD ?_;simp[Rt.xY,k,j,i,h]
 have d:=zD (f.zP ((zI w.heap.size w).alloc (zB _) (V #[J U 4,O ⟨#[]⟩,J U 0,zg,zg,zg] 143)));go_enter func169,ntmps169;go_wp2_with fail;refine zT (v:=E #[L #[J U 4,O ⟨#[]⟩,J U 0,zg,zg,zg],A D]) ?_ rfl
  (Or.inl ⟨_,n,_,o.u,rfl,d.u.1,vM,d.u.2⟩);simp[results,results169,go_sem]
theorem Ef (first:Ia) (hr:kC w R tv ts n zg []) (z:∀t∈ts,t.text.size<=40000) (h0:(first.toList==[118,97,114])=W) (h1:(first.toList==[97,114,114,97,121])=W) (h2:(first.toList==[112,114,111,99])=W) (h3:(first.toList==[101,110,100])=W) (h4:(first.toList==[105,102])=D):Calls Tryz.prog 169 #[H (Q ⟨R,0,Z⟩),O first] w (YQ (Rt.xY first) R tv ts n w):=by
 have T:R < w.heap.size:=zt w _ (zC hr.block 0 (by simp));have a3:=zD z;have HP:Hd (Rt.xY first (ts.drop n)=Rt.kn 5 (ts.drop n)):=by
  refine zD ?_;simp[Rt.xY,h0,h1,h2,h3,h4]
 go_enter func169,ntmps169;go_wp2_with fail;obtain⟨N,f⟩:=hr.zP ((zI w.heap.size w).alloc (zB _) (V yo 143));have o:(w.alloc (V yo 143)).heap[w.heap.size]?=Q (V yo 143 (0,0)):=zN w _;refine(Vh 5 N a3.u).mono ?_;rintro e w1 (⟨h,n1,fv,F,rfl,M,k,d⟩| ⟨F,rfl,ov,d⟩)
 ·obtain⟨c0,c1,c2,c3,c4,c5,f0,f1,f2,f3,f4,f5⟩:=YD (d.qT o (by omega));have j:=k;obtain⟨pv,iv,vv,vs,rfl,b1,b2,b3,_⟩:=k;obtain⟨a2,cap1,rfl⟩:=zK b1;obtain⟨a1,y,rfl⟩:=zK b2;obtain⟨a0,x,rfl⟩:=zK b3;have HE:=zD (HP.u.trans F);have HV:=zD j;have HR:=zD M;have i:=zD (f.trans d);go_wp2_with fail;refine zT (v:=E #[L #[J U h.kind,O h.name,J U h.cells,I a2 (G h.params) cap1,I a1 (G h.index) y,I a0 (G h.values) x],A D]) ?_ rfl
   (Or.inl ⟨h,n1,_,HE.u,rfl,HR.u.jM T _ _ _ _ _ _,vO HV.u (by simp) (by simp),i.u.jM (zB _) _ _ _ _ _ _⟩);simp[results,results169,go_sem,c0,c1,c2,c3,c4,c5]
 ·obtain⟨c0,c1,c2,c3,c4,c5,f0,f1,f2,f3,f4,f5⟩:=YD (d.qT o (by omega));have HE:=zD (HP.u.trans F);have i:=zD (f.trans d);go_wp2_with fail;refine zT (v:=E #[L yo,A W]) ?_ rfl (Or.inr ⟨HE.u,rfl,_,i.u.jM (zB _) _ _ _ _ _ _⟩);simp[results,results169,go_sem,c0,c1,c2,c3,c4,c5]
theorem Ao (first:Ia) (f:kC w R tv ts n zg []) (x:(first.toList==[118,97,114])=W) (o:(first.toList==[97,114,114,97,121])=W) (k:(first.toList==[112,114,111,99])=W) (j:(first.toList==[101,110,100])=W) (i:(first.toList==[105,102])=W) (h:(first.toList==[101,108,115,101])=D):Calls Tryz.prog 169 #[H (Q ⟨R,0,Z⟩),O first] w (YQ (Rt.xY first) R tv ts n w):=by
 have y:Hd (Rt.xY first (ts.drop n)=Q (⟨6,⟨#[]⟩,0,[],[],[]⟩,ts.drop n)):=by
  refine zD ?_;simp[Rt.xY,x,o,k,j,i,h]
 have d:=zD (f.zP ((zI w.heap.size w).alloc (zB _) (V #[J U 6,O ⟨#[]⟩,J U 0,zg,zg,zg] 143)));go_enter func169,ntmps169;go_wp2_with fail;refine zT (v:=E #[L #[J U 6,O ⟨#[]⟩,J U 0,zg,zg,zg],A D]) ?_ rfl
  (Or.inl ⟨_,n,_,y.u,rfl,d.u.1,vM,d.u.2⟩);simp[results,results169,go_sem]
theorem tB (first:Ia) (hr:kC w R tv ts n zg []) (z:∀t∈ts,t.text.size<=40000) (h0:(first.toList==[118,97,114])=W) (h1:(first.toList==[97,114,114,97,121])=W) (h2:(first.toList==[112,114,111,99])=W) (h3:(first.toList==[101,110,100])=W) (h4:(first.toList==[105,102])=W) (h5:(first.toList==[101,108,115,101])=W) (h6:(first.toList==[119,104,105,108,101])=D):Calls Tryz.prog 169 #[H (Q ⟨R,0,Z⟩),O first] w (YQ (Rt.xY first) R tv ts n w):=by
 have T:R < w.heap.size:=zt w _ (zC hr.block 0 (by simp));have a3:=zD z;have HP:Hd (Rt.xY first (ts.drop n)=Rt.kn 7 (ts.drop n)):=by
  refine zD ?_;simp[Rt.xY,h0,h1,h2,h3,h4,h5,h6]
 go_enter func169,ntmps169;go_wp2_with fail;obtain⟨N,f⟩:=hr.zP ((zI w.heap.size w).alloc (zB _) (V yo 143));have o:(w.alloc (V yo 143)).heap[w.heap.size]?=Q (V yo 143 (0,0)):=zN w _;refine(Vh 7 N a3.u).mono ?_;rintro e w1 (⟨h,n1,fv,F,rfl,M,k,d⟩| ⟨F,rfl,ov,d⟩)
 ·obtain⟨c0,c1,c2,c3,c4,c5,f0,f1,f2,f3,f4,f5⟩:=YD (d.qT o (by omega));have j:=k;obtain⟨pv,iv,vv,vs,rfl,b1,b2,b3,_⟩:=k;obtain⟨a2,cap1,rfl⟩:=zK b1;obtain⟨a1,y,rfl⟩:=zK b2;obtain⟨a0,x,rfl⟩:=zK b3;have HE:=zD (HP.u.trans F);have HV:=zD j;have HR:=zD M;have i:=zD (f.trans d);go_wp2_with fail;refine zT (v:=E #[L #[J U h.kind,O h.name,J U h.cells,I a2 (G h.params) cap1,I a1 (G h.index) y,I a0 (G h.values) x],A D]) ?_ rfl
   (Or.inl ⟨h,n1,_,HE.u,rfl,HR.u.jM T _ _ _ _ _ _,vO HV.u (by simp) (by simp),i.u.jM (zB _) _ _ _ _ _ _⟩);simp[results,results169,go_sem,c0,c1,c2,c3,c4,c5]
 ·obtain⟨c0,c1,c2,c3,c4,c5,f0,f1,f2,f3,f4,f5⟩:=YD (d.qT o (by omega));have HE:=zD (HP.u.trans F);have i:=zD (f.trans d);go_wp2_with fail;refine zT (v:=E #[L yo,A W]) ?_ rfl (Or.inr ⟨HE.u,rfl,_,i.u.jM (zB _) _ _ _ _ _ _⟩);simp[results,results169,go_sem,c0,c1,c2,c3,c4,c5]
theorem Ck (first:Ia) (hr:kC w R tv ts n zg []) (z:∀t∈ts,t.text.size<=40000) (h0:(first.toList==[118,97,114])=W) (h1:(first.toList==[97,114,114,97,121])=W) (h2:(first.toList==[112,114,111,99])=W) (h3:(first.toList==[101,110,100])=W) (h4:(first.toList==[105,102])=W) (h5:(first.toList==[101,108,115,101])=W) (h6:(first.toList==[119,104,105,108,101])=W) (h7:(first.toList==[115,101,116])=D):Calls Tryz.prog 169 #[H (Q ⟨R,0,Z⟩),O first] w (YQ (Rt.xY first) R tv ts n w):=by
 have T:R < w.heap.size:=zt w _ (zC hr.block 0 (by simp));have a3:=zD z;have HP:Hd (Rt.xY first (ts.drop n)=Rt.J6 (ts.drop n)):=by
  refine zD ?_;simp[Rt.xY,h0,h1,h2,h3,h4,h5,h6,h7]
 go_enter func169,ntmps169;go_wp2_with fail;obtain⟨N,f⟩:=hr.zP ((zI w.heap.size w).alloc (zB _) (V yo 143));have o:(w.alloc (V yo 143)).heap[w.heap.size]?=Q (V yo 143 (0,0)):=zN w _;refine(EF N a3.u).mono ?_;rintro e w1 (⟨h,n1,fv,F,rfl,M,k,d⟩| ⟨F,rfl,ov,d⟩)
 ·obtain⟨c0,c1,c2,c3,c4,c5,f0,f1,f2,f3,f4,f5⟩:=YD (d.qT o (by omega));have j:=k;obtain⟨pv,iv,vv,vs,rfl,b1,b2,b3,_⟩:=k;obtain⟨a2,cap1,rfl⟩:=zK b1;obtain⟨a1,y,rfl⟩:=zK b2;obtain⟨a0,x,rfl⟩:=zK b3;have HE:=zD (HP.u.trans F);have HV:=zD j;have HR:=zD M;have i:=zD (f.trans d);go_wp2_with fail;refine zT (v:=E #[L #[J U h.kind,O h.name,J U h.cells,I a2 (G h.params) cap1,I a1 (G h.index) y,I a0 (G h.values) x],A D]) ?_ rfl
   (Or.inl ⟨h,n1,_,HE.u,rfl,HR.u.jM T _ _ _ _ _ _,vO HV.u (by simp) (by simp),i.u.jM (zB _) _ _ _ _ _ _⟩);simp[results,results169,go_sem,c0,c1,c2,c3,c4,c5]
 ·obtain⟨c0,c1,c2,c3,c4,c5,f0,f1,f2,f3,f4,f5⟩:=YD (d.qT o (by omega));have HE:=zD (HP.u.trans F);have i:=zD (f.trans d);go_wp2_with fail;refine zT (v:=E #[L yo,A W]) ?_ rfl (Or.inr ⟨HE.u,rfl,_,i.u.jM (zB _) _ _ _ _ _ _⟩);simp[results,results169,go_sem,c0,c1,c2,c3,c4,c5]
theorem tE (first:Ia) (hr:kC w R tv ts n zg []) (z:∀t∈ts,t.text.size<=40000) (h0:(first.toList==[118,97,114])=W) (h1:(first.toList==[97,114,114,97,121])=W) (h2:(first.toList==[112,114,111,99])=W) (h3:(first.toList==[101,110,100])=W) (h4:(first.toList==[105,102])=W) (h5:(first.toList==[101,108,115,101])=W) (h6:(first.toList==[119,104,105,108,101])=W) (h7:(first.toList==[115,101,116])=W) (h8:(first.toList==[112,114,105,110,116])=D):Calls Tryz.prog 169 #[H (Q ⟨R,0,Z⟩),O first] w (YQ (Rt.xY first) R tv ts n w):=by
 have T:R < w.heap.size:=zt w _ (zC hr.block 0 (by simp));have a3:=zD z;have HP:Hd (Rt.xY first (ts.drop n)=Rt.kn 10 (ts.drop n)):=by
  refine zD ?_;simp[Rt.xY,h0,h1,h2,h3,h4,h5,h6,h7,h8]
 go_enter func169,ntmps169;go_wp2_with fail;obtain⟨N,f⟩:=hr.zP ((zI w.heap.size w).alloc (zB _) (V yo 143));have o:(w.alloc (V yo 143)).heap[w.heap.size]?=Q (V yo 143 (0,0)):=zN w _;refine(Vh 10 N a3.u).mono ?_;rintro e w1 (⟨h,n1,fv,F,rfl,M,k,d⟩| ⟨F,rfl,ov,d⟩)
 ·obtain⟨c0,c1,c2,c3,c4,c5,f0,f1,f2,f3,f4,f5⟩:=YD (d.qT o (by omega));have j:=k;obtain⟨pv,iv,vv,vs,rfl,b1,b2,b3,_⟩:=k;obtain⟨a2,cap1,rfl⟩:=zK b1;obtain⟨a1,y,rfl⟩:=zK b2;obtain⟨a0,x,rfl⟩:=zK b3;have HE:=zD (HP.u.trans F);have HV:=zD j;have HR:=zD M;have i:=zD (f.trans d);go_wp2_with fail;refine zT (v:=E #[L #[J U h.kind,O h.name,J U h.cells,I a2 (G h.params) cap1,I a1 (G h.index) y,I a0 (G h.values) x],A D]) ?_ rfl
   (Or.inl ⟨h,n1,_,HE.u,rfl,HR.u.jM T _ _ _ _ _ _,vO HV.u (by simp) (by simp),i.u.jM (zB _) _ _ _ _ _ _⟩);simp[results,results169,go_sem,c0,c1,c2,c3,c4,c5]
 ·obtain⟨c0,c1,c2,c3,c4,c5,f0,f1,f2,f3,f4,f5⟩:=YD (d.qT o (by omega));have HE:=zD (HP.u.trans F);have i:=zD (f.trans d);go_wp2_with fail;refine zT (v:=E #[L yo,A W]) ?_ rfl (Or.inr ⟨HE.u,rfl,_,i.u.jM (zB _) _ _ _ _ _ _⟩);simp[results,results169,go_sem,c0,c1,c2,c3,c4,c5]
theorem Am (first:Ia) (hr:kC w R tv ts n zg []) (h0:(first.toList==[118,97,114])=W) (h1:(first.toList==[97,114,114,97,121])=W) (h2:(first.toList==[112,114,111,99])=W) (h3:(first.toList==[101,110,100])=W) (h4:(first.toList==[105,102])=W) (h5:(first.toList==[101,108,115,101])=W) (h6:(first.toList==[119,104,105,108,101])=W) (h7:(first.toList==[115,101,116])=W) (h8:(first.toList==[112,114,105,110,116])=W) (h9:(first.toList==[114,101,97,100])=D):Calls Tryz.prog 169 #[H (Q ⟨R,0,Z⟩),O first] w (YQ (Rt.xY first) R tv ts n w):=by
 have N:R < w.heap.size:=zt w _ (zC hr.block 0 (by simp));have HP:Hd (Rt.xY first (ts.drop n)=Rt.pNamed 11 (ts.drop n)):=by
  refine zD ?_;simp[Rt.xY,h0,h1,h2,h3,h4,h5,h6,h7,h8,h9]
 go_enter func169,ntmps169;go_wp2_with fail;obtain⟨M,f⟩:=hr.zP ((zI w.heap.size w).alloc (zB _) (V yo 143));have o:(w.alloc (V yo 143)).heap[w.heap.size]?=Q (V yo 143 (0,0)):=zN w _;refine(lT 11 M).mono ?_;rintro e w1 (⟨h,n1,fv,z,rfl,F,k,d⟩| ⟨z,rfl,ov,d⟩)
 ·obtain⟨c0,c1,c2,c3,c4,T,f0,f1,f2,f3,f4,f5⟩:=YD (d.qT o (by omega));have j:=k;obtain⟨pv,iv,vv,vs,rfl,b1,b2,b3,_⟩:=k;obtain⟨a2,cap1,rfl⟩:=zK b1;obtain⟨a1,y,rfl⟩:=zK b2;obtain⟨a0,x,rfl⟩:=zK b3;have HE:=zD (HP.u.trans z);have HV:=zD j;have HR:=zD F;have i:=zD (f.trans d);go_wp2_with fail;refine zT (v:=E #[L #[J U h.kind,O h.name,J U h.cells,I a2 (G h.params) cap1,I a1 (G h.index) y,I a0 (G h.values) x],A D]) ?_ rfl
   (Or.inl ⟨h,n1,_,HE.u,rfl,HR.u.jM N _ _ _ _ _ _,vO HV.u (by simp) (by simp),i.u.jM (zB _) _ _ _ _ _ _⟩);simp[results,results169,go_sem,c0,c1,c2,c3,c4,T]
 ·obtain⟨c0,c1,c2,c3,c4,T,f0,f1,f2,f3,f4,f5⟩:=YD (d.qT o (by omega));have HE:=zD (HP.u.trans z);have i:=zD (f.trans d);go_wp2_with fail;refine zT (v:=E #[L yo,A W]) ?_ rfl (Or.inr ⟨HE.u,rfl,_,i.u.jM (zB _) _ _ _ _ _ _⟩);simp[results,results169,go_sem,c0,c1,c2,c3,c4,T]
theorem Aq (first:Ia) (hr:kC w R tv ts n zg []) (z:∀t∈ts,t.text.size<=40000) (h0:(first.toList==[118,97,114])=W) (h1:(first.toList==[97,114,114,97,121])=W) (h2:(first.toList==[112,114,111,99])=W) (h3:(first.toList==[101,110,100])=W) (h4:(first.toList==[105,102])=W) (h5:(first.toList==[101,108,115,101])=W) (h6:(first.toList==[119,104,105,108,101])=W) (h7:(first.toList==[115,101,116])=W) (h8:(first.toList==[112,114,105,110,116])=W) (h9:(first.toList==[114,101,97,100])=W) (a0:(first.toList==[99,97,108,108])=D):Calls Tryz.prog 169 #[H (Q ⟨R,0,Z⟩),O first] w (YQ (Rt.xY first) R tv ts n w):=by
 have T:R < w.heap.size:=zt w _ (zC hr.block 0 (by simp));have a4:=zD z;have HP:Hd (Rt.xY first (ts.drop n)=Rt.pCall (ts.drop n)):=by
  refine zD ?_;simp[Rt.xY,h0,h1,h2,h3,h4,h5,h6,h7,h8,h9,a0]
 go_enter func169,ntmps169;go_wp2_with fail;obtain⟨N,f⟩:=hr.zP ((zI w.heap.size w).alloc (zB _) (V yo 143));have o:(w.alloc (V yo 143)).heap[w.heap.size]?=Q (V yo 143 (0,0)):=zN w _;refine(Db N a4.u).mono ?_;rintro e w1 (⟨h,n1,fv,F,rfl,M,k,d⟩| ⟨F,rfl,ov,d⟩)
 ·obtain⟨c0,c1,c2,c3,c4,c5,f0,f1,f2,f3,f4,f5⟩:=YD (d.qT o (by omega));have j:=k;obtain⟨pv,iv,vv,vs,rfl,b1,b2,b3,_⟩:=k;obtain⟨a3,cap1,rfl⟩:=zK b1;obtain⟨a2,y,rfl⟩:=zK b2;obtain⟨a1,x,rfl⟩:=zK b3;have HE:=zD (HP.u.trans F);have HV:=zD j;have HR:=zD M;have i:=zD (f.trans d);go_wp2_with fail;refine zT (v:=E #[L #[J U h.kind,O h.name,J U h.cells,I a3 (G h.params) cap1,I a2 (G h.index) y,I a1 (G h.values) x],A D]) ?_ rfl
   (Or.inl ⟨h,n1,_,HE.u,rfl,HR.u.jM T _ _ _ _ _ _,vO HV.u (by simp) (by simp),i.u.jM (zB _) _ _ _ _ _ _⟩);simp[results,results169,go_sem,c0,c1,c2,c3,c4,c5]
 ·obtain⟨c0,c1,c2,c3,c4,c5,f0,f1,f2,f3,f4,f5⟩:=YD (d.qT o (by omega));have HE:=zD (HP.u.trans F);have i:=zD (f.trans d);go_wp2_with fail;refine zT (v:=E #[L yo,A W]) ?_ rfl (Or.inr ⟨HE.u,rfl,_,i.u.jM (zB _) _ _ _ _ _ _⟩);simp[results,results169,go_sem,c0,c1,c2,c3,c4,c5]
theorem pJ (first:Ia) (i:kC w R tv ts n zg []) (M:(first.toList==[118,97,114])=W) (I:(first.toList==[97,114,114,97,121])=W) (G:(first.toList==[112,114,111,99])=W) (F:(first.toList==[101,110,100])=W) (z:(first.toList==[105,102])=W) (y:(first.toList==[101,108,115,101])=W) (x:(first.toList==[119,104,105,108,101])=W) (o:(first.toList==[115,101,116])=W) (k:(first.toList==[112,114,105,110,116])=W) (j:(first.toList==[114,101,97,100])=W) (f:(first.toList==[99,97,108,108])=W) (d:(first.toList==[114,101,116,117,114,110])=D):Calls Tryz.prog 169 #[H (Q ⟨R,0,Z⟩),O first] w (YQ (Rt.xY first) R tv ts n w):=by
 have N:Hd (Rt.xY first (ts.drop n)=Q (⟨13,⟨#[]⟩,0,[],[],[]⟩,ts.drop n)):=by
  refine zD ?_;simp[Rt.xY,M,I,G,F,z,y,x,o,k,j,f,d]
 have h:=zD (i.zP ((zI w.heap.size w).alloc (zB _) (V #[J U 13,O ⟨#[]⟩,J U 0,zg,zg,zg] 143)));go_enter func169,ntmps169;go_wp2_with fail;refine zT (v:=E #[L #[J U 13,O ⟨#[]⟩,J U 0,zg,zg,zg],A D]) ?_ rfl
  (Or.inl ⟨_,n,_,N.u,rfl,h.u.1,vM,h.u.2⟩);simp[results,results169,go_sem]
theorem tG (first:Ia) (h:kC w R tv ts n zg []) (G:(first.toList==[118,97,114])=W) (F:(first.toList==[97,114,114,97,121])=W) (D:(first.toList==[112,114,111,99])=W) (z:(first.toList==[101,110,100])=W) (y:(first.toList==[105,102])=W) (x:(first.toList==[101,108,115,101])=W) (o:(first.toList==[119,104,105,108,101])=W) (k:(first.toList==[115,101,116])=W) (j:(first.toList==[112,114,105,110,116])=W) (i:(first.toList==[114,101,97,100])=W) (f:(first.toList==[99,97,108,108])=W) (d:(first.toList==[114,101,116,117,114,110])=W):Calls Tryz.prog 169 #[H (Q ⟨R,0,Z⟩),O first] w (YQ (Rt.xY first) R tv ts n w):=by
 have J:Hd (Rt.xY first (ts.drop n)=Z):=by
  refine zD ?_;simp[Rt.xY,G,F,D,z,y,x,o,k,j,i,f,d]
 have I:=zD (h.zP ((zI w.heap.size w).alloc (zB _) (V yo 143)));go_enter func169,ntmps169;go_wp2_with fail;refine zT (v:=E #[L yo,A W]) ?_ rfl (Or.inr ⟨J.u,rfl,_,I.u.2⟩);simp[results,results169,go_sem]
theorem Cn (first:Ia) (f:kC w R tv ts n zg []) (d:∀t∈ts,t.text.size<=40000):Calls Tryz.prog 169 #[H (Q ⟨R,0,Z⟩),O first] w (YQ (Rt.xY first) R tv ts n w):=by
 cases h0:(first.toList==[118,97,114])with
 | true=>exact Cj first f h0
 | false=>
 cases h1:(first.toList==[97,114,114,97,121])with
 | true=>exact tH first f d h0 h1
 | false=>
 cases h2:(first.toList==[112,114,111,99])with
 | true=>exact An first f h0 h1 h2
 | false=>
 cases h3:(first.toList==[101,110,100])with
 | true=>exact Cl first f h0 h1 h2 h3
 | false=>
 cases h4:(first.toList==[105,102])with
 | true=>exact Ef first f d h0 h1 h2 h3 h4
 | false=>
 cases h5:(first.toList==[101,108,115,101])with
 | true=>exact Ao first f h0 h1 h2 h3 h4 h5
 | false=>
 cases h6:(first.toList==[119,104,105,108,101])with
 | true=>exact tB first f d h0 h1 h2 h3 h4 h5 h6
 | false=>
 cases h7:(first.toList==[115,101,116])with
 | true=>exact Ck first f d h0 h1 h2 h3 h4 h5 h6 h7
 | false=>
 cases h8:(first.toList==[112,114,105,110,116])with
 | true=>exact tE first f d h0 h1 h2 h3 h4 h5 h6 h7 h8
 | false=>
 cases h9:(first.toList==[114,101,97,100])with
 | true=>exact Am first f h0 h1 h2 h3 h4 h5 h6 h7 h8 h9
 | false=>
 cases h10:(first.toList==[99,97,108,108])with
 | true=>exact Aq first f d h0 h1 h2 h3 h4 h5 h6 h7 h8 h9 h10
 | false=>
 cases h11:(first.toList==[114,101,116,117,114,110])with
 | true=>exact pJ first f h0 h1 h2 h3 h4 h5 h6 h7 h8 h9 h10 h11
 | false=>
 exact tG first f h0 h1 h2 h3 h4 h5 h6 h7 h8 h9 h10 h11
theorem D5 (h:w.ownsRow B 188 2 tv (G ts) (qa ts)) (f:0 < G ts) (o:w.heap.size<=R):Gs w R tv ts:=by
 obtain⟨g,cap,rfl,_,k,_⟩:=yD h (Y9 ts 0 f).1;refine⟨g,cap,rfl,by omega,fun i hi=>⟨?_,?_⟩⟩
 ·obtain⟨g',cap',d,_,_,j⟩:=yD h (Y9 ts i hi).1;simp at d;rw[d.1];exact j
 ·obtain⟨g',cap',d,_,_,j⟩:=yD h (Y9 ts i hi).2;simp at d;rw[d.1];exact j
theorem ZJ.toBelow (h:ZJ R zg ov w w') (f:B<=R) (d:B<=w.heap.size):Below B w w':=
 ⟨h.os,h.tape,h.output,h.size,fun k hk=>h.block k (by omega) (by omega) (by simp[Value.ownBlock])⟩
theorem YI {w1:World} (h:Below B w w1) (i:B<=N) (a b c d e f:Value):Below B w (W6 w1 N a b c d e f):=
 (((((h.setCell (p:=⟨N,0,Z⟩) i a).setCell (p:=⟨N,1,Z⟩) i b).setCell (p:=⟨N,2,Z⟩) i c).setCell (p:=⟨N,3,Z⟩) i d).setCell (p:=⟨N,4,Z⟩) i e).setCell (p:=⟨N,5,Z⟩) i f
theorem du {w w':World} {B B':Nat} (d:∀(t:TypeId) (size n:Nat) (v:Value) (xs:List Value),w.ownsRow B t size v n xs->w'.ownsRow B' t size v n xs):∀xs os,qi w B xs os->qi w' B' xs os
 | [],[],_=>trivial
 | _::xs,_::os,⟨h1,h2⟩=>⟨d _ _ _ _ _ h1,du d xs os h2⟩
 | [],_::_,h=>h.elim
 | _::_,[],h=>h.elim
theorem Kr {v:Array Value} (h:qk w B v fm) (d:∀(t:TypeId) (size n:Nat) (v:Value) (xs:List Value),w.ownsRow B t size v n xs->w'.ownsRow B' t size v n xs):qk w' B' v fm:=by
 obtain⟨i,iv,vv,f,rfl,x,o,k,j⟩:=h;refine⟨i,iv,vv,f,rfl,d _ _ _ _ _ x,d _ _ _ _ _ o,d _ _ _ _ _ k,?_⟩;exact du d _ _ j
def FJ (ts:List Rt.Tk) (w:World) (e:Ending) (w':World):Prop:=
 Below w.heap.size w w'/\((∃fm fv,Rt.pLineAll ts=Q fm/\e=T (E #[L fv,A D])/\qk w' w.heap.size fv fm)\/(Rt.pLineAll ts=Z/\e=T (E #[L yo,A W])))
theorem ie (ht:w.ownsRow B 188 2 tv (G ts) (qa ts)) (F:G ts<=24) (M:∀t∈ts,t.text.size<=40000):Calls Tryz.prog 122 #[tv] w (FJ ts w):=by
 obtain⟨ad,cap,rfl⟩:=zK ht
 match ts,ht,F,M with
 | [],ht,_,_=>
  have HB:=zD ((zI w.heap.size w).alloc (zB _) (V yo 143));go_enter func122,ntmps122;go_wp2_with fail;refine zT (v:=E #[L yo,A D]) ?_ rfl ⟨HB.u,Or.inl ⟨_,_,rfl,rfl,vM⟩⟩;simp[results,results122,go_sem]
 | t::r,ht,F,M=>
  have b9:=zD M;have a7:=D5 (R:=w.heap.size) ht (by simp) (zB _);obtain⟨b,cap',he,hb,hc⟩:=a7;obtain⟨b4,b0⟩:=hc 0 (by simp);simp at he b4 b0;obtain⟨rfl,rfl⟩:=he;have o:=((zI w.heap.size w).alloc (zB _) (V yo 143)).alloc (by simp) (V #[I (Q ⟨b,0,Z⟩) (t::r).length cap,J U 1,zg] 208);have hr:kC ((w.alloc (V yo 143)).alloc (V #[I (Q ⟨b,0,Z⟩) (t::r).length cap,J U 1,zg] 208)) (w.heap.size+1) (I (Q ⟨b,0,Z⟩) (t::r).length cap) (t::r) 1 zg []:=by
   refine⟨by simp,F,by simp,?_,?_,zW _ _ _ _⟩
   ·have:=zN (w.alloc (V yo 143)) (V #[I (Q ⟨b,0,Z⟩) (t::r).length cap,J U 1,zg] 208);simpa using this
   ·exact⟨b,cap,rfl,by omega,fun i hi=>⟨cell_later o (hc i hi).1,cell_later o (hc i hi).2⟩⟩
  have a6:((w.alloc (V yo 143)).alloc (V #[I (Q ⟨b,0,Z⟩) (t::r).length cap,J U 1,zg] 208)).heap[w.heap.size]?=Q (V yo 143 (0,0)):=yR (zN w _) _;clear hc;have a9:(0:Int) < ((t::r).length:Int):=by simp only[yE];omega
  generalize d7:(t::r).length=LN at *;go_enter func122,ntmps122;go_wp2_with fail;refine(Cn t.text hr b9.u).mono ?_;rintro e w1 (⟨fm,n1,fv,hs,rfl,a8,a5,d⟩| ⟨hs,rfl,ov,d⟩)
  ·have a0:=d.qT a6 (by omega);have a1:w.heap.size+2<=w1.heap.size:=by have:=d.size;simp at this;omega
   have a4:=a5;obtain⟨pv,iv,vv,vs,rfl,b1,b2,b3,_⟩:=a5;obtain⟨z,cap1,rfl⟩:=zK b1;obtain⟨y,j,rfl⟩:=zK b2;obtain⟨x,f,rfl⟩:=zK b3;have T:=o.trans (d.toBelow (B:=w.heap.size) (by omega) (by simp <;> omega));have hA:=a8.zP ((zI w1.heap.size w1).alloc (zB _) (V #[J U fm.kind,O fm.name,J U fm.cells,I z (G fm.params) cap1,I y (G fm.index) j,I x (G fm.values) f] 143));have N:=T.alloc (by omega) (V #[J U fm.kind,O fm.name,J U fm.cells,I z (G fm.params) cap1,I y (G fm.index) j,I x (G fm.values) f] 143);have b6:=yR a0 (V #[J U fm.kind,O fm.name,J U fm.cells,I z (G fm.params) cap1,I y (G fm.index) j,I x (G fm.values) f] 143);have b8:=zN w1 (V #[J U fm.kind,O fm.name,J U fm.cells,I z (G fm.params) cap1,I y (G fm.index) j,I x (G fm.values) f] 143);have a2:qk (w1.alloc (V #[J U fm.kind,O fm.name,J U fm.cells,I z (G fm.params) cap1,I y (G fm.index) j,I x (G fm.values) f] 143)) (w.heap.size+2) _ fm:=Kr a4 (fun t size n v xs h=>yn (h.alloc _) (by simp <;> omega));have HS:=zD hs;go_wp2_with fail;refine(Cb hA.1).mono ?_;rintro e w3 ⟨rfl,d6,k⟩;have b5:=k.qT b6 (by omega);have b7:=k.qT b8 (by omega);have a3:=Kr a2 (w':=w3) (B':=w.heap.size+2) (fun t size n v xs h=>k.ZH h (by omega));have H:=N.trans (k.toBelow (B:=w.heap.size) (by omega) (by simp <;> omega));obtain⟨c0,c1,c2,c3,c4,c5,f0,f1,f2,f3,f4,f5⟩:=YD b5;have ⟨d0,d1,d2,d3,d4,d5,_,_,_,_,_,_⟩:=YD b7;by_cases hmore:n1 < (t::r).length
   ·have hd:decide (n1 < (t::r).length)=D:=by simpa using hmore
    rw[hd];have HE:Hd (Rt.pLineAll (t::r)=Z):=by
     refine zD ?_;have h:=HS.u;simp only[Z7,Zb]at h;rw[Rt.pLineAll,h];simp only;rw[zA (fun e=>by rw[ql hmore]at e;cases e)]
    have HB:=zD H;go_wp2_with fail;refine zT (v:=E #[L yo,A W]) ?_ rfl ⟨YI HB.u (zB _) _ _ _ _ _ _,Or.inr ⟨HE.u,rfl⟩⟩;simp[results,results122,go_sem,c0,c1,c2,c3,c4,c5]
   ·have hd:decide (n1 < (t::r).length)=W:=by simpa using hmore
    rw[hd];have HE:Hd (Rt.pLineAll (t::r)=Q fm):=by
     refine zD ?_;have h:=HS.u;simp only[Z7,Zb]at h;rw[Rt.pLineAll,h];simp only;rw[zE (vW hmore)]
    have HB:=zD H;have HV:=zD a3;go_wp2_with fail;refine zT (v:=E #[L #[J U fm.kind,O fm.name,J U fm.cells,I z (G fm.params) cap1,I y (G fm.index) j,I x (G fm.values) f],A D]) ?_ rfl
     ⟨YI HB.u (zB _) _ _ _ _ _ _,Or.inl ⟨fm,_,HE.u,rfl,vO HV.u (by omega) (by omega)⟩⟩;simp[results,results122,go_sem,c0,c1,c2,c3,c4,c5]
  ·have a0:=d.qT a6 (by omega);have a1:w.heap.size < w1.heap.size:=by have:=d.size;simp at this;omega
   have HE:Hd (Rt.pLineAll (t::r)=Z):=by
    refine zD ?_;simp only[Z7,Zb]at hs;rw[Rt.pLineAll,hs]
   have HB:=zD (o.trans (d.toBelow (B:=w.heap.size) (by omega) (by simp <;> omega)));obtain⟨c0,c1,c2,c3,c4,c5,f0,f1,f2,f3,f4,f5⟩:=YD a0;go_wp2_with fail;refine zT (v:=E #[L yo,A W]) ?_ rfl ⟨(YI HB.u (zB _) _ _ _ _ _ _).alloc (by rw[eO];omega) _,Or.inr ⟨HE.u,rfl⟩⟩;simp[results,results122,go_sem,c0,c1,c2,c3,c4,c5,a1]
namespace Rt
structure PL where
 yY:List Tk
 form:qS
 depth:Int
 opener:Int
 proc:Int
def kb:PL:=⟨[],⟨0,⟨#[]⟩,0,[],[],[]⟩,0,0,0⟩
def rdLine (s:Ia):Option PL:=
 match yY s with
 | none=>none
 | some ts=>
  match pLineAll ts with
  | none=>none
  | some fm=>some ⟨ts,fm,0,0,0⟩
def rForms:Nat->Ib->List PL->Nat×List PL
 | _,[],acc=>(0,acc)
 | i,s::r,acc=>
  match rdLine s with
  | none=>(i+1,acc)
  | some pl=>rForms (i+1) r (acc++[pl])
structure Zx where
 line:Nat
 kind:Int
 aB:Bool
def bX (b:Zx):List Value:=[J U b.line,J U b.kind,A b.aB]
def js (bs:List Zx):List Value:=bs.flatMap bX
theorem kk {bs:List Zx} {b:Zx}:js (bs++[b])=js bs++[J U b.line,J U b.kind,A b.aB]:=by simp[js,bX]
theorem Y5 (bs:List Zx):(js bs).length=G bs*3:=by
 induction bs with
 | nil=>rfl
 | cons t r ih=>simp only[js,Q0,ze,yE]at ih ⊢;simp[bX]at ih ⊢;omega
def jE (bs:List Zx):Zx:=bs.getLastD ⟨0,0,W⟩
def Yj (bs:List Zx) (kind:Int):Bool:=
 if kind=0 then D
 else if kind=1\/kind=2\/kind=3 then decide (bs=[])
 else if bs=[]then W
 else if kind=6 then decide ((jE bs).kind=5) && !(jE bs).aB
 else D
def qK (bs:List Zx) (n:Nat) (kind:Int):List Zx:=
 if kind=3\/kind=5\/kind=7 then bs++[⟨n,kind,W⟩]
 else if kind=6 then (if bs=[]then []else bs.dropLast++[⟨(jE bs).line,(jE bs).kind,D⟩])
 else if kind=4 then bs.dropLast
 else bs
def kr (bs:List Zx):Zx:=bs.headD ⟨0,0,W⟩
def ym (bs:List Zx) (pl:PL):PL:=
 if bs=[]then pl
 else if pl.form.kind=6\/pl.form.kind=4 then ⟨pl.yY,pl.form,(G bs:Int)-1,(jE bs).line,(kr bs).line⟩
 else ⟨pl.yY,pl.form,G bs,pl.opener,(kr bs).line⟩
def nestFrom:List PL->Nat->List Zx->List PL->Nat×List PL×List Zx
 | [],_,bs,acc=>(0,acc,bs)
 | p::r,n,bs,acc=>if Yj bs p.form.kind=true then nestFrom r (n+1) (qK bs n p.form.kind) (acc++[ym bs p])else (n,acc++p::r,bs)
theorem XH (d:List Zx) (p:PL):(ym d p).yY=p.yY/\(ym d p).form=p.form:=by
 unfold ym;split
 ·exact⟨rfl,rfl⟩
 ·split <;> exact⟨rfl,rfl⟩
theorem sK (f:List Zx) (n:Nat) (d:Int):(qK f n d).length<=G f+1:=by
 unfold qK;split
 ·simp
 ·split
  ·split
   ·simp
   ·simp <;> omega
  ·split
   ·simp <;> omega
   ·omega
def zF:qS:=⟨0,⟨#[]⟩,0,[],[],[]⟩
def isDecl (p:PL) (x:Ia):Bool:=(decide (p.form.kind=1)|| decide (p.form.kind=2)|| decide (p.form.kind=3)) && decide (p.form.name=x)
def declFrom:Nat->List PL->Ia->Nat
 | _,[],_=>0
 | n,p::r,x=>if isDecl p x=true then n else declFrom (n+1) r x
def xb (zL:List PL) (x:Ia):Nat:=declFrom 1 (zL.drop 1) x
def yA (zL:List PL) (n:Int):qS:=if n < 0 then zF else (zL[n.toNat]?.map (·.form)).getD zF
def yJ (zL:List PL) (x:Ia):qS:=yA zL (xb zL x)
def VS (zL:List PL) (proc:Int) (x:Ia):Bool:=(yA zL proc).params.any (fun y=>decide (y=x))
def isVar (zL:List PL) (proc:Int) (x:Ia):Bool:=VS zL proc x || decide ((yJ zL x).kind=1)
def ZW (zL:List PL) (proc:Int) (x:Ia):Bool:=!VS zL proc x && decide ((yJ zL x).kind=2)
def CS (zL:List PL) (proc:Int) (o:qM):Bool:=if o.code=2 then isVar zL proc o.name else if o.code=3 then ZW zL proc o.name else D
def XP (zL:List PL) (proc:Int) (ops:List qM):Bool:=ops.all (CS zL proc)
def jF (zL:List PL) (p:PL):Bool:=XP zL p.proc p.form.index && p.form.values.all (XP zL p.proc)
structure Small (fm:qS):Prop where
 params:fm.params.length<=4
 index:fm.index.length<=900
 values:fm.values.length<=900
 each:∀o∈fm.values,o.length<=900
 cells:0<=fm.cells/\fm.cells<=32
def XF (zL:List PL) (fm:qS):Bool:=decide ((yJ zL fm.name).kind=3) && decide ((yJ zL fm.name).params.length=G fm.values)
def bh (ps:Ib) (k:Nat):Prop:=∀i j,j < i->i < k->i < G ps->¬ps[i]?=ps[j]?
def QN:List UInt8:=[109,97,105,110]
open Classical in
noncomputable def QJ (fm:qS):Bool:=!((fm.name.toList==QN) && decide (0 < fm.params.length)) && decide (bh fm.params fm.params.length)
noncomputable def qh (zL:List PL) (n:Nat) (p:PL):Bool:=
 if p.form.kind=1\/p.form.kind=2 then decide (xb zL p.form.name=n)
 else if p.form.kind=3 then decide (xb zL p.form.name=n) && QJ p.form
 else if p.form.kind=8\/p.form.kind=11 then isVar zL p.proc p.form.name && jF zL p
 else if p.form.kind=9 then ZW zL p.proc p.form.name && jF zL p
 else if p.form.kind=12 then XF zL p.form && jF zL p
 else jF zL p
noncomputable def nameErr (zL:List PL):Nat->List PL->Nat
 | _,[]=>0
 | n,p::r=>if qh zL n p=true then nameErr zL (n+1) r else n
def xP:Ia:=⟨#[109,97,105,110]⟩
theorem aJ {zL:List PL} (h:∀p∈zL,Small p.form) (n:Int):(yA zL n).params.length<=1000:=by
 unfold yA;split
 ·simp[zF]
 ·cases e:zL[n.toNat]? with
  | none=>simp[zF]
  | some p=>
   have:=(h p (qF e)).params;simp only[Xf,Zn];omega
def xy (k:Int):Bool:=decide (k=8)|| decide (k=9)|| decide (k=10)|| decide (k=11)|| decide (k=5)|| decide (k=7)|| decide (k=12)|| decide (k=13)
def xV (zL:List PL) (p:PL):Bool:=if xy p.form.kind=D then D else if p.form.kind=4 then decide ((yA zL p.opener).kind=3)else W
def stopsFrom (zL:List PL):Nat->List PL->List Int->List Int
 | _,[],acc=>acc
 | n,p::r,acc=>stopsFrom zL (n+1) r (if xV zL p=true then acc++[(n:Int)]else acc)
def IA (zL:List PL):List Int:=stopsFrom zL 1 (zL.drop 1) []
def Dw (pf:List Tk->JX):Prop:=∀rem em r,pf rem=Q (em,r)->G em+G r<=G rem
theorem pE {pf:List Tk->JX} (h:Dw pf) (lo hi:Int):∀g,Dw (pLoop pf lo hi g)
 | 0,rem,em,r,e=>by simp[pLoop]at e
 | g+1,[],em,r,e=>by simp[pLoop]at e;obtain⟨rfl,rfl⟩:=e;simp
 | g+1,t::rem,em,r,e=>by
  rw[pLoop]at e;split at e
  ·cases h1:pf rem with
   | none=>rw[h1]at e;simp at e
   | some x=>
    obtain⟨i,r1⟩:=x;rw[h1]at e;simp only at e;cases h2:pLoop pf lo hi g r1 with
    | none=>rw[h2]at e;simp at e
    | some y=>
     obtain⟨f,d⟩:=y;rw[h2]at e;simp at e;have a:=h _ _ _ h1;have b:=pE h lo hi g _ _ _ h2;rw[<-e.1,<-e.2];simp;omega
  ·simp at e;obtain⟨rfl,rfl⟩:=e;simp
theorem mO {pf:List Tk->JX} (h:Dw pf) (lo hi:Int):Dw (Xa pf lo hi):=by
 intro rem f r e;rw[Xa]at e;cases h1:pf rem with
 | none=>rw[h1]at e;simp at e
 | some x=>
  obtain⟨j,r1⟩:=x;rw[h1]at e;simp only at e;cases h2:pLoop pf lo hi 25 r1 with
  | none=>rw[h2]at e;simp[Yb]at e
  | some y=>
   obtain⟨i,d⟩:=y;rw[h2]at e;simp[Yb]at e;have a:=h _ _ _ h1;have b:=pE h lo hi 25 _ _ _ h2;rw[<-e.1,<-e.2];simp;omega
theorem pz {pf:List Tk->JX} (h:Dw pf):Dw (pComp pf):=by
 have d:Dw (VI pf):=mO (mO h 7 9) 5 6;intro rem i r e;rw[pComp]at e;cases h1:VI pf rem with
 | none=>rw[h1]at e;simp at e
 | some x=>
  obtain⟨k,r1⟩:=x;have a:=d _ _ _ h1;rw[h1]at e;cases r1 with
  | nil=>simp at e;obtain⟨rfl,rfl⟩:=e;exact a
  | cons t r1=>
   simp only at e;split at e
   ·cases h2:VI pf r1 with
    | none=>rw[h2]at e;simp at e
    | some y=>
     obtain⟨j,f⟩:=y;rw[h2]at e;simp at e;have b:=d _ _ _ h2;rw[<-e.1,<-e.2];simp at a ⊢;omega
   ·simp at e;rw[<-e.1,<-e.2];exact a
theorem gu {x:Ia} {last:List qM} {y:JX} {em:List qM} {r:List Tk} (h:closed x last y=Q (em,r)):∃e t,y=Q (e,t::r)/\em=e++last:=by
 cases y with
 | none=>simp[closed]at h
 | some z=>
  obtain⟨e,r1⟩:=z;cases r1 with
  | nil=>simp[closed]at h
  | cons t r1=>
   rw[closed]at h;split at h
   ·simp at h;exact⟨e,t,by rw[h.2],h.1.symm⟩
   ·cases h
theorem V2:∀f,Dw (yV f)
 | 0,rem,em,r,e=>by simp[yV]at e
 | f+1,[],em,r,e=>by simp[yV]at e
 | f+1,t::rem,em,r,e=>by
  have h:Dw (pComp (yV f)):=pz (V2 f);rw[yV]at e;split at e
  ·cases h1:yV f rem with
   | none=>rw[h1]at e;simp at e
   | some x=>
    obtain⟨i,o⟩:=x;rw[h1]at e;simp at e;have a:=V2 f _ _ _ h1;rw[<-e.1,<-e.2];simp;omega
  ·split at e
   ·obtain⟨i,j,h1,d⟩:=gu e;have a:=h _ _ _ h1;rw[d];simp at a ⊢;omega
   ·split at e
    ·simp at e;rw[<-e.1,<-e.2];simp;omega
    ·split at e
     ·cases rem with
      | nil=>simp[pVar]at e;obtain⟨rfl,rfl⟩:=e;simp
      | cons j rem=>
       rw[pVar]at e;split at e
       ·obtain⟨i,k,h1,d⟩:=gu e;have a:=h _ _ _ h1;rw[d];simp at a ⊢;omega
       ·simp at e;rw[<-e.1,<-e.2];simp;omega
     ·cases e
theorem an:Dw Z1:=pz (V2 24)
theorem rN:∀(f:Nat) (acc:List (List qM)) (rem:List Tk) (vs:List (List qM)) (r:List Tk),pArgs f acc rem=Q (vs,r)->G rem<=24->G acc+f<=25->(∀o∈acc,G o<=900)->G vs<=25/\∀o∈vs,G o<=900
 | 0,_,_,_,_,h,_,_,_=>by simp[pArgs]at h
 | f+1,acc,rem,vs,r,h,h1,h2,h3=>by
  rw[pArgs]at h;cases e:Z1 rem with
  | none=>rw[e]at h;simp at h
  | some x=>
   obtain⟨i,r1⟩:=x;rw[e]at h;simp only at h;have a:=an _ _ _ e;have d:∀o∈acc++[i],G o<=900:=by
    intro o ho;simp at ho;rcases ho with ho | rfl
    ·exact h3 o ho
    ·omega
   cases e2:jb ⟨#[44]⟩ r1 with
   | none=>
    rw[e2]at h;simp at h;rw[<-h.1];exact⟨by simp;omega,d⟩
   | some r2=>
    rw[e2]at h;simp only at h;have j:G r2<=G r1:=by
     cases r1 with
     | nil=>simp[jb]at e2
     | cons t r1=>simp[jb]at e2;rw[e2.2];simp
    exact rN f (acc++[i]) r2 vs r h (by omega) (by simp;omega) d
theorem fY:∀(rem:List Tk) (acc ps:Ib),jO acc rem=Q ps->G acc<=4->G ps<=4
 | [],acc,ps,h,h1=>by simp[jO]at h;rw[<-h];exact h1
 | t::r,acc,ps,h,h1=>by
  rw[jO]at h;split at h
  ·next hc=>exact fY r (acc++[t.text]) ps h (by simp;omega)
  ·cases h
theorem oi {rem r:List Tk} (h:kE rem=Q (nm,r)):G r<=G rem:=by
 cases rem with
 | nil=>simp[kE]at h
 | cons t rem=>
  rw[kE]at h;split at h
  ·simp at h;rw[<-h.2];simp
  ·cases h
theorem take_len {x:Ia} {rem r:List Tk} (h:jb x rem=Q r):G r<=G rem:=by
 cases rem with
 | nil=>simp[jb]at h
 | cons t rem=>
  rw[jb]at h;split at h
  ·simp at h;rw[<-h];simp
  ·cases h
theorem ZS {k:Int} {c:Int} (d:0<=c/\c<=32):Small ⟨k,nm,c,[],[],[]⟩:=⟨by simp,by simp,by simp,by simp,d⟩
theorem nr {kind:Int} {ix:List qM} {rem r:List Tk} {fm:qS} (h:pTo kind nm ix rem=Q (fm,r)) (i:G rem<=24) (d:G ix<=900):Small fm:=by
 rw[pTo]at h;cases e:jb ⟨#[116,111]⟩ rem with
 | none=>rw[e]at h;simp at h
 | some r1=>
  rw[e]at h;simp only at h;have a:=take_len e;cases e2:Z1 r1 with
  | none=>rw[e2]at h;simp at h
  | some y=>
   obtain⟨j,f⟩:=y;rw[e2]at h;simp at h;have b:=an _ _ _ e2;rw[<-h.1];exact⟨by simp,d,by simp,by simp;omega,by simp⟩
theorem tD {first:Ia} {rem r:List Tk} {fm:qS} (h:xY first rem=Q (fm,r)) (H:G rem<=24):Small fm:=by
 have j:∀k,pNamed k rem=Q (fm,r)->Small fm:=by
  intro k h;rw[pNamed]at h;cases e:kE rem with
  | none=>rw[e]at h;simp at h
  | some x=>obtain⟨o,r1⟩:=x;rw[e]at h;simp at h;rw[<-h.1];exact ZS (by omega)
 have f:∀k,kn k rem=Q (fm,r)->Small fm:=by
  intro k h;rw[kn]at h;cases e:Z1 rem with
  | none=>rw[e]at h;simp at h
  | some x=>
   obtain⟨I,r1⟩:=x;rw[e]at h;simp at h;have b:=an _ _ _ e;rw[<-h.1];exact⟨by simp,by simp,by simp,by simp;omega,by simp⟩
 have i:∀k:Int,(Q ((⟨k,⟨#[]⟩,0,[],[],[]⟩:qS),rem):eG)=Q (fm,r)->Small fm:=by
  intro k h;simp at h;rw[<-h.1];exact ZS (by omega)
 rw[xY]at h;by_cases h1:(first.toList==[118,97,114])=D
 ·rw[zE h1]at h;exact j _ h
 rw[zA h1]at h;by_cases h2:(first.toList==[97,114,114,97,121])=D
 ·rw[zE h2,pArray]at h;cases e:kE rem with
  | none=>rw[e]at h;simp at h
  | some x=>
   obtain⟨o,r1⟩:=x;rw[e]at h;simp only at h;cases e2:XC r1 with
   | none=>rw[e2]at h;simp at h
   | some y=>
    obtain⟨v,r2⟩:=y;rw[e2]at h;simp only at h;split at h
    ·cases h
    ·next hv=>simp at h;rw[<-h.1];exact ZS (by omega)
 rw[zA h2]at h;by_cases h3:(first.toList==[112,114,111,99])=D
 ·rw[zE h3,pProc]at h;cases e:kE rem with
  | none=>rw[e]at h;simp at h
  | some x=>
   obtain⟨o,r1⟩:=x;rw[e]at h;simp only at h;cases e2:jO [] r1 with
   | none=>rw[e2]at h;simp at h
   | some ps=>
    rw[e2]at h;simp at h;have b:=fY _ _ _ e2 (by simp);rw[<-h.1];exact⟨by simp;omega,by simp,by simp,by simp,by simp⟩
 rw[zA h3]at h;by_cases h4:(first.toList==[101,110,100])=D
 ·rw[zE h4]at h;exact i _ h
 rw[zA h4]at h;by_cases h5:(first.toList==[105,102])=D
 ·rw[zE h5]at h;exact f _ h
 rw[zA h5]at h;by_cases h6:(first.toList==[101,108,115,101])=D
 ·rw[zE h6]at h;exact i _ h
 rw[zA h6]at h;by_cases h7:(first.toList==[119,104,105,108,101])=D
 ·rw[zE h7]at h;exact f _ h
 rw[zA h7]at h;by_cases h8:(first.toList==[115,101,116])=D
 ·rw[zE h8,J6]at h;cases e:kE rem with
  | none=>rw[e]at h;simp at h
  | some x=>
   obtain⟨o,r1⟩:=x;rw[e]at h;simp only at h;have a:=oi e;cases e2:jb ⟨#[91]⟩ r1 with
   | none=>rw[e2]at h;exact nr h (by omega) (by simp)
   | some r2=>
    rw[e2]at h;simp only at h;have b:=take_len e2;cases e3:Z1 r2 with
    | none=>rw[e3]at h;simp at h
    | some y=>
     obtain⟨F,r3⟩:=y;rw[e3]at h;simp only at h;have c:=an _ _ _ e3;cases e4:jb ⟨#[93]⟩ r3 with
     | none=>rw[e4]at h;simp at h
     | some r4=>
      rw[e4]at h;have d:=take_len e4;exact nr h (by omega) (by omega)
 rw[zA h8]at h;by_cases h9:(first.toList==[112,114,105,110,116])=D
 ·rw[zE h9]at h;exact f _ h
 rw[zA h9]at h;by_cases h10:(first.toList==[114,101,97,100])=D
 ·rw[zE h10]at h;exact j _ h
 rw[zA h10]at h;by_cases h11:(first.toList==[99,97,108,108])=D
 ·rw[zE h11,pCall]at h;cases e:kE rem with
  | none=>rw[e]at h;simp at h
  | some x=>
   obtain⟨o,r1⟩:=x;rw[e]at h;simp only at h;have a:=oi e;cases e2:ZT r1 with
   | none=>rw[e2]at h;simp at h
   | some y=>
    obtain⟨A,r2⟩:=y;rw[e2]at h;simp at h;rw[<-h.1];rw[ZT]at e2;split at e2
    ·simp at e2;obtain⟨rfl,_⟩:=e2;exact ZS (by omega)
    ·obtain⟨g1,z⟩:=rN _ _ _ _ _ e2 (by omega) (by simp) (by simp);exact⟨by simp,by simp,by simp;omega,z,by simp⟩
 rw[zA h11]at h;by_cases h12:(first.toList==[114,101,116,117,114,110])=D
 ·rw[zE h12]at h;exact i _ h
 rw[zA h12]at h;cases h
theorem mw {s:Ia} {p:PL} (d:s.size<=40000) (h:rdLine s=Q p):Small p.form:=by
 rw[rdLine]at h;cases e:yY s with
 | none=>rw[e]at h;simp at h
 | some ts=>
  rw[e]at h;simp only at h;have f:=(JY d e).1;cases e2:pLineAll ts with
  | none=>rw[e2]at h;simp at h
  | some fm=>
   rw[e2]at h;simp at h;rw[<-h];cases ts with
   | nil=>simp[pLineAll]at e2;rw[<-e2];exact ZS (by omega)
   | cons t r=>
    rw[pLineAll]at e2;cases e3:xY t.text r with
    | none=>rw[e3]at e2;simp at e2
    | some y=>
     obtain⟨i,r'⟩:=y;rw[e3]at e2;simp only at e2;split at e2
     ·simp at e2;rw[<-e2];exact tD e3 (by simp at f;omega)
     ·cases e2
theorem Xn:∀(texts:Ib) (i:Nat) (acc zL:List PL),(∀t∈texts,t.size<=40000)->(∀p∈acc,Small p.form)->rForms i texts acc=(0,zL)->G zL=G acc+G texts/\(∀p∈zL,Small p.form)/\∃rest,zL=acc++rest
 | [],_,acc,zL,_,h2,h=>by simp[rForms]at h;rw[<-h];exact⟨by simp,h2,[],by simp⟩
 | s::r,i,acc,zL,h1,h2,h=>by
  rw[rForms]at h;cases e:rdLine s with
  | none=>rw[e]at h;simp at h
  | some p=>
   rw[e]at h;simp only at h;obtain⟨a,b,rest,c⟩:=Xn r (i+1) (acc++[p]) zL (fun t ht=>h1 t (by simp[ht])) (fun q hq=>by
    simp at hq;rcases hq with hq | rfl
    ·exact h2 q hq
    ·exact mw (h1 s (by simp)) e) h
   exact⟨by simp at a ⊢;omega,b,p::rest,by rw[c];simp⟩
theorem Vu:∀(rem:List PL) (n:Nat) (bs:List Zx) (acc:List PL) (ls:List PL) (b2:List Zx),(∀p∈acc,Small p.form)->(∀p∈rem,Small p.form)->nestFrom rem n bs acc=(0,ls,b2)->0 < n->G ls=G acc+G rem/\∀p∈ls,Small p.form
 | [],_,_,acc,ls,_,h1,_,h,_=>by simp[nestFrom]at h;rw[<-h.1];exact⟨by simp,h1⟩
 | p::r,n,bs,acc,ls,b2,h1,h2,h,hn=>by
  rw[nestFrom]at h;split at h
  ·obtain⟨a,b⟩:=Vu r (n+1) _ (acc++[ym bs p]) ls b2 (fun q hq=>by
    simp at hq;rcases hq with hq | rfl
    ·exact h1 q hq
    ·rw[(XH bs p).2];exact h2 p (by simp)) (fun q hq=>h2 q (by simp[hq])) h (by omega)
   exact⟨by simp at a ⊢;omega,b⟩
  ·simp at h;omega
noncomputable def jV (ls:List PL):Int×Int×List PL:=
 if ¬nameErr ls 1 (ls.drop 1)=0 then (4,nameErr ls 1 (ls.drop 1),[])
 else if ¬(yJ ls xP).kind=3 then (4,0,[])
 else (0,0,ls)
noncomputable def vH (er:Nat) (ls:List PL) (bs:List Zx) (len:Nat):Int×Int×List PL:=
 if ¬er=0 then (3,er,[])else if ¬bs=[]then (3,len,[])else jV ls
noncomputable def Yq (ln:Nat) (zL:List PL) (len:Nat):Int×Int×List PL:=
 if ¬ln=0 then (2,ln,[])
 else vH (nestFrom (zL.drop 1) 1 [] [kb]).1 (nestFrom (zL.drop 1) 1 [] [kb]).2.1 (nestFrom (zL.drop 1) 1 [] [kb]).2.2 len
noncomputable def qx (s:ByteArray):Int×Int×List PL:=
 if ZE s=true then (1,0,[])else Yq (rForms 0 (lines s) [kb]).1 (rForms 0 (lines s) [kb]).2 (lines s).length
end Rt
def kZ (tv:Value) (fv:Array Value) (xe xf:Int) (pl:Rt.PL):List Value:=tv::(fv.toList++[J U pl.depth,J U pl.opener,J U xe,J U xf,J U pl.proc])
def Kq (w:World) (B:Nat) (pl:Rt.PL) (c:List Value):Prop:=
 ∃tv fv xe xf,c=kZ tv fv xe xf pl/\w.ownsRow B 188 2 tv (G pl.yY) (qa pl.yY)/\qk w B fv pl.form
def ja (w:World) (B:Nat):List Rt.PL->List (List Value)->Prop
 | [],[]=>True
 | p::ps,c::cs=>Kq w B p c/\ja w B ps cs
 | _,_=>False
def Qc (w w':World) (B B':Nat):Prop:=∀(t:TypeId) (size n:Nat) (v:Value) (xs:List Value),t≠145->w.ownsRow B t size v n xs->w'.ownsRow B' t size v n xs
theorem Qc.exprs {w w':World} {B B':Nat} (d:Qc w w' B B'):∀xs os,qi w B xs os->qi w' B' xs os
 | [],[],_=>trivial
 | _::xs,_::os,⟨h1,h2⟩=>⟨d _ _ _ _ _ (by decide) h1,d.exprs xs os h2⟩
 | [],_::_,h=>h.elim
 | _::_,[],h=>h.elim
theorem Qc.form (d:Qc w w' B B') {v:Array Value} (h:qk w B v fm):qk w' B' v fm:=by
 obtain⟨i,iv,vv,f,rfl,x,o,k,j⟩:=h;exact⟨i,iv,vv,f,rfl,d _ _ _ _ _ (by decide) x,d _ _ _ _ _ (by decide) o,d _ _ _ _ _ (by decide) k,d.exprs _ _ j⟩
theorem Qc.line (d:Qc w w' B B') {pl:Rt.PL} {c:List Value} (h:Kq w B pl c):Kq w' B' pl c:=by
 obtain⟨tv,fv,i,f,rfl,k,j⟩:=h;exact⟨tv,fv,i,f,rfl,d _ _ _ _ _ (by decide) k,d.form j⟩
theorem Qc.lines {w w':World} {B B':Nat} (d:Qc w w' B B'):∀ps cs,ja w B ps cs->ja w' B' ps cs
 | [],[],_=>trivial
 | _::ps,_::cs,⟨h1,h2⟩=>⟨d.line h1,d.lines ps cs h2⟩
 | [],_::_,h=>h.elim
 | _::_,[],h=>h.elim
theorem ja.snoc {w:World} {B:Nat} {p:Rt.PL} {c:List Value} (h:Kq w B p c):∀ps cs,ja w B ps cs->ja w B (ps++[p]) (cs++[c])
 | [],[],_=>⟨h,trivial⟩
 | _::ps,_::cs,⟨h1,h2⟩=>⟨h1,ja.snoc h ps cs h2⟩
 | [],_::_,h=>h.elim
 | _::_,[],h=>h.elim
theorem xZ (d:Below w.heap.size w w'):Qc w w' B B:=fun _ _ _ _ _ _ h=>yG h d
structure qH (w:World) (P:Nat) (zL:List Rt.PL) (lv:Value) (cs:List (List Value)):Prop where
 block:w.heap[P]?=some (.cells #[lv] 76 (0,0))
 own:w.ownsRow (P+1) 145 12 lv zL.length cs.flatten
 lines:ja w (P+1) zL cs
theorem qH.zP {zL:List Rt.PL} (h:qH w P zL lv cs) (d:Below w.heap.size w w'):qH w' P zL lv cs:=
 ⟨zU h.block d,yG h.own d,(xZ d).lines _ _ h.lines⟩
structure Hg (w:World) (P B:Nat) (zL:List Rt.PL) (lv:Value) (cs:List (List Value)):Prop where
 lt:P < w.heap.size
 cell:w.cell? ⟨P,0,none⟩=some lv
 own:w.ownsRow B 145 12 lv zL.length cs.flatten
 lines:ja w B zL cs
theorem Hg.zP {zL:List Rt.PL} (h:Hg w P B zL lv cs) (d:Below w.heap.size w w'):Hg w' P B zL lv cs:=
 ⟨zX h.lt d.size,cell_later d h.cell,yG h.own d,(xZ d).lines _ _ h.lines⟩
theorem qH.v {zL:List Rt.PL} (h:qH w P zL lv cs):Hg w P (P+1) zL lv cs:=⟨zQ h.block,zC h.block 0 (by simp),h.own,h.lines⟩
theorem C3:(Tryz.prog.info? 145).map (fun i=>(i.zero,i.size,i.bytes))=Q (Q (L #[I Z 0 0,J U 0,O ⟨#[]⟩,J U 0,I Z 0 0,I Z 0 0,I Z 0 0,J U 0,J U 0,J U 0,J U 0,J U 0]),12,168):=by kernel_rfl
end Go.Proofs.YthleadfkfnnadaaGreat
