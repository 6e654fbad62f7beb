/- The walks of the readers of lines, continued: set. -/
import Derived.Test.YthleadfkfnnadaaGreatFormsc
set_option maxHeartbeats 4000000
set_option maxRecDepth 100000
set_option linter.unusedSimpArgs false
namespace Go.Proofs.YthleadfkfnnadaaGreat
open Go.RowKit
variable {nm:ByteArray} {acc:List ByteArray} {ts rem r:List Rt.Tk} {R n n2:Nat} {o:Obj} {row:Option Nat} {tv ov:Value} {w w1 wr:World}
theorem kC.kept (d:kC w R tv ts n zg []) (h:∀k,k<=R->w1.heap[k]?=w.heap[k]?):kC w1 R tv ts n zg []:=by
 refine⟨d.le,d.VJ,d.YH,by rw[h R (zB _)];exact d.block,?_,zW _ _ _ _⟩
 obtain⟨b,cap,rfl,o,x⟩:=d.yY
 have f:∀j,w1.cell? ⟨b,j,none⟩=w.cell? ⟨b,j,none⟩:=fun j=>xG (w:=w) (h b (by omega))
 exact⟨b,cap,rfl,o,fun i h=>⟨by rw[f];exact(x i h).1,by rw[f];exact(x i h).2⟩⟩
theorem ZJ.grown {a b:Value} (h:ZJ R a b w wr) (d:(wr.alloc o).grownBy w1 row) (f:∀k,row=some k->w.heap.size<=k):ZJ R a b w w1:=
 ⟨d.os.trans h.os,d.tape.trans h.tape,d.output.trans h.output,by have:=d.size;have:=h.size;simp at *;omega,
  fun k hk h1 h2=>((d.block k (by have:=h.size;simp;omega) (fun e=>by have:=f k e.symm;omega)).trans (jx wr o k (zX hk h.size))).trans (h.block k hk h1 h2),h.own⟩
theorem mA (f:(wr.alloc o).grownBy w1 row) (h:R < wr.heap.size) (d:∀k,row=some k->R < k):∀k,k<=R->w1.heap[k]?=wr.heap[k]?:=fun k hk=>by
 rw[f.block k (by simp;omega) (fun e=>by have:=d k e.symm;omega),jx wr o k (by omega)]
theorem Cb {ops:List qM} (d:kC w R tv ts n ov ops) :
  Calls Tryz.prog 170 #[.pointer (some ⟨R,0,none⟩)] w fun e w'=>e=.returned (.bool (decide (n < ts.length)))/\kC w' R tv ts n ov ops/\ZJ R ov ov w w':=
 (QL d).mono (by rintro e w' ⟨rfl,q,rfl⟩;exact⟨rfl,d.quiet q⟩)
theorem Kz {M N:Nat} (h:w.heap[N]?=some o) (d:N≠M) (i:Nat) (v:Value):(w.setCell ⟨M,i,none⟩ v).heap[N]?=some o:=by
 rw[zO w ⟨M,i,none⟩ v N d]
 exact h
theorem B8 (a b c d e f x:Value):(#[a,b,c,d,e,f].setIfInBounds 3 x)=#[a,b,c,x,e,f]:=rfl
theorem oL {nm2:ByteArray} (d:n2 < ts.length) (h:Rt.kE (ts.drop n2)=some (nm2,ts.drop (n2+1))) (f:acc.length < 4) :
  Rt.jO acc (ts.drop n2)=Rt.jO (acc++[nm2]) (ts.drop (n2+1)):=by
 rw[ql d,Rt.kE]at h
 rw[ql d,Rt.jO]
 split at h
 ·next hk=>
  rw[zE ⟨hk,f⟩]
  simp at h
  rw[h]
 ·cases h
theorem oM (d:n2 < ts.length) (f:4<=acc.length):Rt.jO acc (ts.drop n2)=none:=by
 rw[ql d,Rt.jO,zA (by omega)]
theorem sQ (d:n2 < ts.length) (h:Rt.kE (ts.drop n2)=none):Rt.jO acc (ts.drop n2)=none:=by
 rw[ql d,Rt.kE]at h
 rw[ql d,Rt.jO]
 split at h
 ·cases h
 ·next hk=>rw[zA (fun x=>hk x.1)]
theorem lJ (h:Rt.kE rem=some (nm,r)) (d:Rt.jO [] r=none):Rt.pProc rem=none:=by
 rw[Rt.pProc,h];simp only;rw[d]
theorem wu {ps:List ByteArray} (h:Rt.kE rem=some (nm,r)) (d:Rt.jO [] r=some ps):Rt.pProc rem=some (⟨3,nm,0,ps,[],[]⟩,[]):=by
 rw[Rt.pProc,h];simp only;rw[d]
theorem iV (hr:kC w R tv ts n zg []) :
  Calls Tryz.prog 198 #[.pointer (some ⟨R,0,none⟩)] w (YQ Rt.pProc R tv ts n w):=by
 have d8:R < w.heap.size:=zt w _ (zC hr.block 0 (by simp))
 obtain⟨i0,hi,d7,d6,b9⟩:=yi Tryz.eT
 go_enter Tryz.func198,Tryz.ntmps198
 go_wp2_with fail
 obtain⟨b0,L⟩:=hr.zP ((zI w.heap.size w).alloc (zB _) (.cells yo 143))
 have a5:(w.alloc (.cells yo 143)).heap[w.heap.size]?=some (.cells yo 143 (0,0)):=zN w _
 refine(JH b0).mono ?_
 rintro e w1 (⟨nm,hn,hs,rfl,a9,o⟩| ⟨hs,rfl,a9,o⟩)
 ·have hN:=o.qT a5 (by omega)
  have f8:=zQ hN
  have a6:=L.trans o
  have HS:=zD hs
  have hst:kC (w1.alloc (.cells #[.int .i64 3,.string nm,.int .i64 0,zg,zg,zg] 143)) R tv ts (n+1) zg []:=(a9.zP ((zI w1.heap.size w1).alloc (zB _) _)).1
  have hfrB:=a6.alloc (.cells #[.int .i64 3,.string nm,.int .i64 0,zg,zg,zg] 143)
  have hNB:=yR hN (.cells #[.int .i64 3,.string nm,.int .i64 0,zg,zg,zg] 143)
  have hMB:=zN w1 (.cells #[.int .i64 3,.string nm,.int .i64 0,zg,zg,zg] 143)
  clear hr b0 L o hs a5 a6 hN a9
  go_wp2_with fail
  go_loopg [7,8] (ts.length-(n+1)) (fun k _ _ wr=>∃(n2:Nat) (pv:Value) (acc:List ByteArray),k=ts.length-n2/\n+1<=n2/\acc.length<=4/\Rt.jO acc (ts.drop n2)=Rt.jO [] (ts.drop (n+1))/\
   kC wr R tv ts n2 zg []/\ZJ R zg zg w wr/\wr.heap[w.heap.size]?=some (.cells yo 143 (0,0))/\
   wr.heap[w1.heap.size]?=some (.cells #[.int .i64 3,.string nm,.int .i64 0,pv,zg,zg] 143 (0,0))/\wr.ownsRow (w1.heap.size+1) 9 1 pv acc.length (acc.map Value.string))
  case atStart=>exact⟨n+1,zg,[],rfl,zB _,by simp,rfl,hst,hfrB,hNB,hMB,zW _ _ _ _⟩
  case round=>
   clear hst hfrB hNB hMB
   obtain⟨n2,pv,acc,hk,g1,f7,hT,b4,a8,b7,b8,Z⟩:=hrel
   have HK:=zD hk
   have HT:=zD hT
   clear hk hT
   obtain⟨ad,cap,rfl⟩:=zK Z
   go_wp2_with fail
   refine(Cb b4).mono ?_
   rintro e w3 ⟨rfl,W,D⟩
   have O:=D.qT b7 (by omega)
   have a1:=D.qT b8 (by omega)
   have f:=D.ZH Z (by omega)
   have x:=a8.trans D
   clear b4 a8 b7 b8 Z D
   by_cases hn3:n2 < ts.length
   ·have hd:decide (n2 < ts.length)=true:=by simpa using hn3
    rw[hd]
    go_wp2_with fail
    refine(JH W).mono ?_
    rintro e w4 (⟨b2,g0,U,rfl,V,d⟩| ⟨U,rfl,V,d⟩)
    ·have G:=d.qT O (by omega)
     have T:=d.qT a1 (by omega)
     have F:=d.ZH f (by omega)
     have I:=x.trans d
     have f6:=zD U
     clear W O a1 f x d U
     by_cases hfull:4<=acc.length
     ·obtain⟨c0,c1,c2,c3,c4,c5,f0,f1,f2,f3,f4,f5⟩:=YD G
      have ⟨_,_,_,d3,_,_,_,_,_,_,_,_⟩:=YD T
      have H:=zD I
      have HE:=zD (lJ HS.u (HT.u.symm.trans (oM hn3 hfull)))
      have a3:(4:Int)<=(acc.length:Int):=by omega
      clear G T V I
      go_wp2_with fail
      refine zT (v:=.tuple #[.agg yo,.bool false]) ?_ rfl (Or.inr ⟨HE.u,rfl,_,H.u.jM (zB _) _ _ _ _ _ _⟩)
      simp[results,Tryz.results198,go_sem,c0,c1,c2,c3,c4,c5]
     ·have a3:¬(4:Int)<=(acc.length:Int):=by omega
      have d9:=zD ((oL hn3 f6.u (by omega)).symm.trans HT.u)
      have ⟨_,_,_,d3,_,_,_,_,_,g3,_,_⟩:=YD T
      have f9:=zQ T
      have b5:R < w4.heap.size:=by omega
      go_wp2_with (at_builtin;refine xQ _ rfl (.tmp 36) (.tmp 38) 87 rfl (w1.heap.size+1) 9 i0 _ 1 16 Tryz.underlying87 hi d7 d6 b9 rfl (by decide) _ _ _ rfl (F.alloc _) ⟨_,0,none⟩ 1 1 [.string b2] rfl rfl (cell_one_new _ _ _) ?c2 ?c3 ?c4 ?c5 ?_)
      case c2=>intro u hu;simp at hu;rcases hu with rfl;rfl
      case c3=>unfold maxLen;omega
      case c4=>omega
      case c5=>simp;omega
      intro v' w5 z j _
      have A:∀k,(Value.slice ad acc.length cap).ownBlock=some k->w1.heap.size < k:=fun k hk=>by have:=(F.lt k hk).1;omega
      have b1:=QW j T (fun h=>by have:=A _ h;omega)
      have b6:=QW j G (fun h=>by have:=A _ h;omega)
      have b3:=V.kept (mA j b5 (fun k hk=>by have:=A k hk;omega))
      have a7:=I.grown j (fun k hk=>by have:=A k hk;omega)
      obtain⟨ad5,cap5,rfl⟩:=zK z
      have ⟨_,_,_,e3,_,_,_,_,_,k3,_,_⟩:=YD b1
      have a0:=zf b1 3 (Value.slice ad5 (acc.length+1) cap5)
      rw[B8]at a0
      have a4:=Kz b6 (M:=w1.heap.size) (by omega) 3 (Value.slice ad5 (acc.length+1) cap5)
      have a2:=b3.setOther (N:=w1.heap.size) (i:=3) (by omega) (by intro g h;cases h) (Value.slice ad5 (acc.length+1) cap5)
      have J:=a7.YS (N:=w1.heap.size) (i:=3) (by omega) (Value.slice ad5 (acc.length+1) cap5)
      have y:=yk z (a:=⟨w1.heap.size,3,none⟩) (fun g hg=>by have:=(z.lt g hg).1;show g≠w1.heap.size;omega) (Value.slice ad5 (acc.length+1) cap5)
      have HH:=DA a0 a4 a2 J y
      clear a0 a4 a2 J y b1 b6 b3 a7 z j V I T G F A
      go_wp2_with fail
      go_roundg (ts.length-(n2+1))
      case measure=>have:=HK.u;omega
      case rel=>
       obtain⟨a0,a4,a2,J,y⟩:=HH.u
       exact⟨n2+1,_,acc++[b2],rfl,by omega,by simp;omega,d9.u,a2,J,a4,a0,by simpa using y⟩
    ·have G:=d.qT O (by omega)
     obtain⟨c0,c1,c2,c3,c4,c5,f0,f1,f2,f3,f4,f5⟩:=YD G
     have H:=zD (x.trans d)
     have HE:=zD (lJ HS.u (HT.u.symm.trans (sQ hn3 U)))
     clear W V O a1 f x d U G
     go_wp2_with fail
     refine zT (v:=.tuple #[.agg yo,.bool false]) ?_ rfl (Or.inr ⟨HE.u,rfl,_,H.u.jM (zB _) _ _ _ _ _ _⟩)
     simp[results,Tryz.results198,go_sem,c0,c1,c2,c3,c4,c5]
   ·have hd:decide (n2 < ts.length)=false:=by simpa using hn3
    rw[hd]
    have HE:Hd (Rt.pProc (ts.drop n)=some (⟨3,nm,0,acc,[],[]⟩,ts.drop n2)):=by
     refine zD ?_
     have h:=HT.u
     rw[vW hn3,Rt.jO]at h
     rw[wu HS.u h.symm,vW hn3]
    obtain⟨c0,c1,c2,c3,c4,c5,f0,f1,f2,f3,f4,f5⟩:=YD O
    have ⟨d0,d1,d2,d3,d4,d5,_,_,_,_,_,_⟩:=YD a1
    have HR:=zD W
    have H:=zD x
    have HO:=zD (yn (b':=w.heap.size) (ZU (N:=w.heap.size) f (fun g hg=>by have:=(f.lt g hg).1;omega) (.int .i64 3) (.string nm) (.int .i64 0) (.slice ad acc.length cap) zg zg) (by omega))
    clear W O a1 f x
    go_wp2_with fail
    refine zT (v:=.tuple #[.agg #[.int .i64 3,.string nm,.int .i64 0,.slice ad acc.length cap,zg,zg],.bool true]) ?_ rfl
     (Or.inl ⟨⟨3,nm,0,acc,[],[]⟩,n2,_,HE.u,rfl,HR.u.jM d8 _ _ _ _ _ _,⟨_,zg,zg,[],rfl,HO.u,zW _ _ _ _,zW _ _ _ _,trivial⟩,H.u.jM (zB _) _ _ _ _ _ _⟩)
    simp[results,Tryz.results198,go_sem,c0,c1,c2,c3,c4,c5]
 ·obtain⟨c0,c1,c2,c3,c4,c5,f0,f1,f2,f3,f4,f5⟩:=YD (o.qT a5 (by omega))
  have HS:=zD hs
  have H:=zD (L.trans o)
  clear hr b0 L o hs a5
  go_wp2_with fail
  refine zT (v:=.tuple #[.agg yo,.bool false]) ?_ rfl (Or.inr ⟨by rw[Rt.pProc,HS.u],rfl,_,H.u.jM (zB _) _ _ _ _ _ _⟩)
  simp[results,Tryz.results198,go_sem,c0,c1,c2,c3,c4,c5]
theorem KH {ops:List qM} (x:ByteArray) (h:kC w R tv ts n ov ops) :
  Calls Tryz.prog 216 #[.pointer (some ⟨R,0,none⟩),.string x] w fun e w'=>
   (Rt.jb x (ts.drop n)=some (ts.drop (n+1))/\e=.returned (.bool true)/\kC w' R tv ts (n+1) ov ops/\ZJ R ov ov w w')\/
   (Rt.jb x (ts.drop n)=none/\e=.returned (.bool false)/\kC w' R tv ts n ov ops/\ZJ R ov ov w w'):=by
 by_cases hn:n < ts.length
 ·by_cases hk:ts[n].text=x
  ·refine(JD x h hn hk).mono ?_
   rintro e w' ⟨rfl,f,d⟩
   exact Or.inl ⟨by rw[ql hn,Rt.jb,zE hk],rfl,f,d⟩
  ·refine(X9 x h hn hk).mono ?_
   rintro e w' ⟨rfl,f,d⟩
   exact Or.inr ⟨by rw[ql hn,Rt.jb,zA hk],rfl,f,d⟩
 ·refine(Ku x h hn).mono ?_
  rintro e w' ⟨rfl,f,d⟩
  exact Or.inr ⟨by rw[vW hn,Rt.jb],rfl,f,d⟩
theorem B9 (a b c d e f x:Value):(#[a,b,c,d,e,f].setIfInBounds 0 x)=#[x,b,c,d,e,f]:=rfl
theorem B7 (a b c d e f x:Value):(#[a,b,c,d,e,f].setIfInBounds 4 x)=#[a,b,c,d,x,f]:=rfl
theorem EF (hr:kC w R tv ts n zg []) (j0:∀t∈ts,t.text.size<=40000) :
  Calls Tryz.prog 200 #[.pointer (some ⟨R,0,none⟩)] w (YQ Rt.J6 R tv ts n w):=by
 have hlt:R < w.heap.size:=zt w _ (zC hr.block 0 (by simp))
 have i8:=zD j0
 clear j0
 go_enter Tryz.func200,Tryz.ntmps200
 go_wp2_with fail
 obtain⟨i1,b8⟩:=hr.zP ((zI w.heap.size w).alloc (zB _) (.cells yo 143))
 have h1:(w.alloc (.cells yo 143)).heap[w.heap.size]?=some (.cells yo 143 (0,0)):=zN w _
 refine(JH i1).mono ?_
 rintro e w1 (⟨nm,hn,hs,rfl,i0,U⟩| ⟨hs,rfl,i0,U⟩)
 ·have hN:=U.qT h1 (by omega)
  have j9:=zQ hN
  have h5:=b8.trans U
  have HS:=zD hs
  have h9:=(i0.zP ((zI w1.heap.size w1).alloc (zB _) (.cells #[.int .i64 8,.string nm,.int .i64 0,zg,zg,zg] 143))).1
  have b7:=h5.alloc (.cells #[.int .i64 8,.string nm,.int .i64 0,zg,zg,zg] 143)
  have h0:=yR hN (.cells #[.int .i64 8,.string nm,.int .i64 0,zg,zg,zg] 143)
  have h3:=zN w1 (.cells #[.int .i64 8,.string nm,.int .i64 0,zg,zg,zg] 143)
  clear hr i1 b8 U hs h1 h5 hN i0
  go_wp2_with fail
  refine(KH _ h9).mono ?_
  rintro e w2 (⟨d9,rfl,b0,D⟩| ⟨d9,rfl,b0,D⟩)
  ·have W:=D.qT h0 (by omega)
   have a0:=D.qT h3 (by omega)
   have z:=b7.trans D
   have a5:=zD d9
   clear d9 D b7 h0 h3 h9
   go_wp2_with fail
   refine(ZZ b0 i8.u).mono ?_
   rintro e w3 (⟨ix,n3,iv,d8,rfl,k1,k2,j1,i2,A⟩| ⟨d8,rfl,k0,A⟩)
   ·obtain⟨adi,capi,rfl⟩:=zK i2
    have j8:=zQ a0
    have a8:=yR (A.qT W (by omega)) (.cells #[.slice adi ix.length capi] 140)
    have i6:=yR (A.qT a0 (by omega)) (.cells #[.slice adi ix.length capi] 140)
    have i7:=zN w3 (.cells #[.slice adi ix.length capi] 140)
    have h8:=(j1.zP ((zI w3.heap.size w3).alloc (zB _) (.cells #[.slice adi ix.length capi] 140))).1
    have b6:=(z.trans A).alloc (.cells #[.slice adi ix.length capi] 140)
    have f9:=(yn (b':=w1.heap.size+1) i2 (by omega)).alloc (.cells #[.slice adi ix.length capi] 140)
    have j7:=zQ (A.qT a0 (by omega))
    have h4:=zD d8
    clear d8 A j1 i2 W a0 z b0
    go_wp2_with fail
    refine(KH _ h8).mono ?_
    rintro e w4 (⟨d7,rfl,g8,o⟩| ⟨d7,rfl,g8,o⟩)
    ·have g6:=o.qT a8 (by omega)
     have i5:=o.qT i6 (by omega)
     have j2:=o.qT i7 (by omega)
     have b4:=o.ZH f9 (by omega)
     have k:=b6.trans o
     have i9:=zD d7
     have ⟨d0,d1,d2,d3,d4,d5,g0,g1,g2,g3,g4,g5⟩:=YD i5
     have x0:=zC j2 0 (by simp)
     simp at x0
     have h2:=zf (zf i5 0 (.int .i64 9)) 4 (.slice adi ix.length capi)
     rw[B9,B7]at h2
     have g9:=Kz (Kz g6 (M:=w1.heap.size) (by omega) 0 (.int .i64 9)) (M:=w1.heap.size) (by omega) 4 (.slice adi ix.length capi)
     have h7:=(g8.setOther (N:=w1.heap.size) (i:=0) (by omega) (by intro g h;cases h) (.int .i64 9)).setOther (N:=w1.heap.size) (i:=4) (by omega) (by intro g h;cases h) (.slice adi ix.length capi)
     have b5:=(k.YS (N:=w1.heap.size) (i:=0) (by omega) (.int .i64 9)).YS (N:=w1.heap.size) (i:=4) (by omega) (.slice adi ix.length capi)
     have f8:=yk (yk b4 (a:=⟨w1.heap.size,0,none⟩) (fun g hg=>by have:=(b4.lt g hg).1;show g≠w1.heap.size;omega) (.int .i64 9)) (a:=⟨w1.heap.size,4,none⟩) (fun g hg=>by have:=(b4.lt g hg).1;show g≠w1.heap.size;omega) (.slice adi ix.length capi)
     clear d7 o g8 g6 i5 j2 b4 k a8 i6 i7 h8 b6 f9
     go_wp2_with fail
     refine(KH _ h7).mono ?_
     rintro e w5 (⟨J,rfl,L,f⟩| ⟨J,rfl,L,f⟩)
     ·have x:=f.qT g9 (by omega)
      have Z:=f.qT h2 (by omega)
      have T:=f.ZH f8 (by omega)
      have k:=b5.trans f
      have g7:=zD J
      clear J f h7 g9 h2 f8 b5
      go_wp2_with fail
      refine(ZZ L i8.u).mono ?_
      rintro e w6 (⟨em,n6,xv,I,rfl,j5,j6,f6,V,d⟩| ⟨I,rfl,j3,d⟩)
      ·obtain⟨G,j,rfl⟩:=zK V
       have F:=d.qT x (by omega)
       have b3:=d.qT Z (by omega)
       have y:=d.ZH T (by omega)
       have a7:=k.trans d
       have HE:=zD (Rt.B3 HS.u a5.u h4.u i9.u (Rt.FK g7.u I))
       have i3:=zQ b3
       have a9:∀g,(Value.slice G em.length j).ownBlock=some g->w5.heap.size<=g:=fun g hg=>(V.lt g hg).1
       have i4:=zQ Z
       obtain⟨c0,c1,c2,c3,c4,c5,f0,f1,f2,f3,f4,f5⟩:=YD F
       have ⟨d0,d1,d2,d3,d4,d5,_,_,_,_,_,g5⟩:=YD b3
       have j4:¬w1.heap.size=w.heap.size:=by omega
       have hz:w.heap.size < w6.heap.size:=by omega
       have a1:=(f6.setOther (N:=w1.heap.size) (i:=5) (by omega) (by intro g h;cases h) (Value.slice (some ⟨w6.heap.size+1,0,none⟩) 1 1)).jM hlt (.int .i64 9) (.string nm) (.int .i64 0) zg (Value.slice adi ix.length capi) (Value.slice (some ⟨w6.heap.size+1,0,none⟩) 1 1)
       have a2:=(a7.YS (N:=w1.heap.size) (i:=5) (by omega) (Value.slice (some ⟨w6.heap.size+1,0,none⟩) 1 1)).jM (N:=w.heap.size) (zB _) (.int .i64 9) (.string nm) (.int .i64 0) zg (Value.slice adi ix.length capi) (Value.slice (some ⟨w6.heap.size+1,0,none⟩) 1 1)
       have a3:=yn (b':=w.heap.size) (ZU (N:=w.heap.size) (yk V (a:=⟨w1.heap.size,5,none⟩) (fun g hg=>by have:=a9 g hg;show g≠w1.heap.size;omega) (Value.slice (some ⟨w6.heap.size+1,0,none⟩) 1 1)) (fun g hg=>by have:=a9 g hg;omega) (.int .i64 9) (.string nm) (.int .i64 0) zg (Value.slice adi ix.length capi) (Value.slice (some ⟨w6.heap.size+1,0,none⟩) 1 1)) (by omega)
       have a4:=yn (b':=w.heap.size) (ZU (N:=w.heap.size) (yk y (a:=⟨w1.heap.size,5,none⟩) (fun g hg=>by have:=(y.lt g hg).1;show g≠w1.heap.size;omega) (Value.slice (some ⟨w6.heap.size+1,0,none⟩) 1 1)) (fun g hg=>by have:=(y.lt g hg).1;omega) (.int .i64 9) (.string nm) (.int .i64 0) zg (Value.slice adi ix.length capi) (Value.slice (some ⟨w6.heap.size+1,0,none⟩) 1 1)) (by omega)
       have HH:=gN a1 a2 a3 a4
       clear a1 a2 a3 a4 f6 a7 V y F b3 k d x Z T L I a9
       go_wp2_with fail
       refine zT (v:=.tuple #[.agg #[.int .i64 9,.string nm,.int .i64 0,zg,Value.slice adi ix.length capi,.slice (some ⟨w6.heap.size+1,0,none⟩) 1 1],.bool true]) ?_ rfl ?_
       ·simp[results,Tryz.results200,go_sem,c0,c1,c2,c3,c4,c5,hz]
       ·obtain⟨a1,a2,a3,a4⟩:=HH.u
        have a6:=eO (w6.setCell ⟨w1.heap.size,5,none⟩ (Value.slice (some ⟨w6.heap.size+1,0,none⟩) 1 1)) w.heap.size (.int .i64 9) (.string nm) (.int .i64 0) zg (Value.slice adi ix.length capi) (Value.slice (some ⟨w6.heap.size+1,0,none⟩) 1 1)
        have d6:(w6.setCell ⟨w1.heap.size,5,none⟩ (Value.slice (some ⟨w6.heap.size+1,0,none⟩) 1 1)).heap.size=w6.heap.size:=by simp[World.setCell]
        generalize h6:W6 (w6.setCell ⟨w1.heap.size,5,none⟩ (Value.slice (some ⟨w6.heap.size+1,0,none⟩) 1 1)) w.heap.size (.int .i64 9) (.string nm) (.int .i64 0) zg (Value.slice adi ix.length capi) (Value.slice (some ⟨w6.heap.size+1,0,none⟩) 1 1)=wA at a1 a2 a3 a4 a6
        obtain⟨b1,b2⟩:=a1.zP (((zI wA.heap.size wA).alloc (zB _) (.cells #[.slice G em.length j] 140)).alloc (by simp) (.cells #[.slice G em.length j] 140))
        have O:=KS (wA.alloc (.cells #[.slice G em.length j] 140)) w.heap.size 140 (.slice G em.length j) (by simp;omega)
        have b9:(wA.alloc (.cells #[.slice G em.length j] 140)).heap.size=w6.heap.size+1:=by simp[a6,d6]
        rw[b9]at O
        skip
        rw[<-h6]at b1 b2 O a2 a3 a4
        exact Or.inl ⟨⟨9,nm,0,[],ix,[em]⟩,n6,_,HE.u,rfl,b1,⟨zg,Value.slice adi ix.length capi,_,[_],rfl,zW _ _ _ _,(a4.alloc _).alloc _,O,⟨(a3.alloc _).alloc _,trivial⟩⟩,a2.trans b2⟩
      ·have F:=d.qT x (by omega)
       have HE:=zD (Rt.B3 HS.u a5.u h4.u i9.u (Rt.FM g7.u I))
       have H:=zD (k.trans d)
       obtain⟨c0,c1,c2,c3,c4,c5,f0,f1,f2,f3,f4,f5⟩:=YD F
       have hz:=zQ F
       clear F x Z T L k d I
       go_wp2_with fail
       refine zT (v:=.tuple #[.agg yo,.bool false]) ?_ rfl (Or.inr ⟨HE.u,rfl,_,(H.u.jM (N:=w.heap.size) (zB _) _ _ _ _ _ _).alloc _⟩)
       simp[results,Tryz.results200,go_sem,c0,c1,c2,c3,c4,c5,hz]
     ·have x:=f.qT g9 (by omega)
      have HE:=zD (Rt.B3 HS.u a5.u h4.u i9.u (Rt.uK J))
      have H:=zD (b5.trans f)
      obtain⟨c0,c1,c2,c3,c4,c5,f0,f1,f2,f3,f4,f5⟩:=YD x
      clear x L f J h7 g9 h2 f8 b5
      go_wp2_with fail
      refine zT (v:=.tuple #[.agg yo,.bool false]) ?_ rfl (Or.inr ⟨HE.u,rfl,_,H.u.jM (zB _) _ _ _ _ _ _⟩)
      simp[results,Tryz.results200,go_sem,c0,c1,c2,c3,c4,c5]
    ·have g6:=o.qT a8 (by omega)
     have HE:=zD (Rt.Ga HS.u a5.u h4.u d7)
     have H:=zD (b6.trans o)
     obtain⟨c0,c1,c2,c3,c4,c5,f0,f1,f2,f3,f4,f5⟩:=YD g6
     clear g6 g8 o d7 a8 i6 i7 h8 b6 f9
     go_wp2_with fail
     refine zT (v:=.tuple #[.agg yo,.bool false]) ?_ rfl (Or.inr ⟨HE.u,rfl,_,H.u.jM (zB _) _ _ _ _ _ _⟩)
     simp[results,Tryz.results200,go_sem,c0,c1,c2,c3,c4,c5]
   ·have a8:=A.qT W (by omega)
    have HE:=zD (Rt.GZ HS.u a5.u d8)
    have H:=zD (z.trans A)
    obtain⟨c0,c1,c2,c3,c4,c5,f0,f1,f2,f3,f4,f5⟩:=YD a8
    have hz:=zQ a8
    clear a8 A d8 W a0 z b0
    go_wp2_with fail
    refine zT (v:=.tuple #[.agg yo,.bool false]) ?_ rfl (Or.inr ⟨HE.u,rfl,_,(H.u.jM (N:=w.heap.size) (zB _) _ _ _ _ _ _).alloc _⟩)
    simp[results,Tryz.results200,go_sem,c0,c1,c2,c3,c4,c5,hz]
  ·have W:=D.qT h0 (by omega)
   have a0:=D.qT h3 (by omega)
   have z:=b7.trans D
   have a5:=zD d9
   have f7:w2.ownsRow (w1.heap.size+1) 236 3 zg 0 (xX []):=zW _ _ _ _
   clear d9 D b7 h0 h3 h9
   go_wp2_with fail
   refine(KH _ b0).mono ?_
   rintro e w5 (⟨J,rfl,L,f⟩| ⟨J,rfl,L,f⟩)
   ·have x:=f.qT W (by omega)
    have Z:=f.qT a0 (by omega)
    have T:=f.ZH f7 (by omega)
    have k:=z.trans f
    have g7:=zD J
    clear J f b0 W a0 f7 z
    go_wp2_with fail
    refine(ZZ L i8.u).mono ?_
    rintro e w6 (⟨em,n6,xv,I,rfl,j5,j6,f6,V,d⟩| ⟨I,rfl,j3,d⟩)
    ·obtain⟨G,j,rfl⟩:=zK V
     have F:=d.qT x (by omega)
     have b3:=d.qT Z (by omega)
     have y:=d.ZH T (by omega)
     have a7:=k.trans d
     have HE:=zD (Rt.B4 HS.u a5.u (Rt.FK g7.u I))
     have i3:=zQ b3
     have a9:∀g,(Value.slice G em.length j).ownBlock=some g->w5.heap.size<=g:=fun g hg=>(V.lt g hg).1
     have i4:=zQ Z
     obtain⟨c0,c1,c2,c3,c4,c5,f0,f1,f2,f3,f4,f5⟩:=YD F
     have ⟨d0,d1,d2,d3,d4,d5,_,_,_,_,_,g5⟩:=YD b3
     have j4:¬w1.heap.size=w.heap.size:=by omega
     have hz:w.heap.size < w6.heap.size:=by omega
     have a1:=(f6.setOther (N:=w1.heap.size) (i:=5) (by omega) (by intro g h;cases h) (Value.slice (some ⟨w6.heap.size+1,0,none⟩) 1 1)).jM hlt (.int .i64 8) (.string nm) (.int .i64 0) zg (zg) (Value.slice (some ⟨w6.heap.size+1,0,none⟩) 1 1)
     have a2:=(a7.YS (N:=w1.heap.size) (i:=5) (by omega) (Value.slice (some ⟨w6.heap.size+1,0,none⟩) 1 1)).jM (N:=w.heap.size) (zB _) (.int .i64 8) (.string nm) (.int .i64 0) zg (zg) (Value.slice (some ⟨w6.heap.size+1,0,none⟩) 1 1)
     have a3:=yn (b':=w.heap.size) (ZU (N:=w.heap.size) (yk V (a:=⟨w1.heap.size,5,none⟩) (fun g hg=>by have:=a9 g hg;show g≠w1.heap.size;omega) (Value.slice (some ⟨w6.heap.size+1,0,none⟩) 1 1)) (fun g hg=>by have:=a9 g hg;omega) (.int .i64 8) (.string nm) (.int .i64 0) zg (zg) (Value.slice (some ⟨w6.heap.size+1,0,none⟩) 1 1)) (by omega)
     have a4:=yn (b':=w.heap.size) (ZU (N:=w.heap.size) (yk y (a:=⟨w1.heap.size,5,none⟩) (fun g hg=>by have:=(y.lt g hg).1;show g≠w1.heap.size;omega) (Value.slice (some ⟨w6.heap.size+1,0,none⟩) 1 1)) (fun g hg=>by have:=(y.lt g hg).1;omega) (.int .i64 8) (.string nm) (.int .i64 0) zg (zg) (Value.slice (some ⟨w6.heap.size+1,0,none⟩) 1 1)) (by omega)
     have HH:=gN a1 a2 a3 a4
     clear a1 a2 a3 a4 f6 a7 V y F b3 k d x Z T L I a9
     go_wp2_with fail
     refine zT (v:=.tuple #[.agg #[.int .i64 8,.string nm,.int .i64 0,zg,zg,.slice (some ⟨w6.heap.size+1,0,none⟩) 1 1],.bool true]) ?_ rfl ?_
     ·simp[results,Tryz.results200,go_sem,c0,c1,c2,c3,c4,c5,hz]
     ·obtain⟨a1,a2,a3,a4⟩:=HH.u
      have a6:=eO (w6.setCell ⟨w1.heap.size,5,none⟩ (Value.slice (some ⟨w6.heap.size+1,0,none⟩) 1 1)) w.heap.size (.int .i64 8) (.string nm) (.int .i64 0) zg (zg) (Value.slice (some ⟨w6.heap.size+1,0,none⟩) 1 1)
      have d6:(w6.setCell ⟨w1.heap.size,5,none⟩ (Value.slice (some ⟨w6.heap.size+1,0,none⟩) 1 1)).heap.size=w6.heap.size:=by simp[World.setCell]
      generalize h6:W6 (w6.setCell ⟨w1.heap.size,5,none⟩ (Value.slice (some ⟨w6.heap.size+1,0,none⟩) 1 1)) w.heap.size (.int .i64 8) (.string nm) (.int .i64 0) zg (zg) (Value.slice (some ⟨w6.heap.size+1,0,none⟩) 1 1)=wA at a1 a2 a3 a4 a6
      obtain⟨b1,b2⟩:=a1.zP (((zI wA.heap.size wA).alloc (zB _) (.cells #[.slice G em.length j] 140)).alloc (by simp) (.cells #[.slice G em.length j] 140))
      have O:=KS (wA.alloc (.cells #[.slice G em.length j] 140)) w.heap.size 140 (.slice G em.length j) (by simp;omega)
      have b9:(wA.alloc (.cells #[.slice G em.length j] 140)).heap.size=w6.heap.size+1:=by simp[a6,d6]
      rw[b9]at O
      skip
      rw[<-h6]at b1 b2 O a2 a3 a4
      exact Or.inl ⟨⟨8,nm,0,[],[],[em]⟩,n6,_,HE.u,rfl,b1,⟨zg,zg,_,[_],rfl,zW _ _ _ _,(a4.alloc _).alloc _,O,⟨(a3.alloc _).alloc _,trivial⟩⟩,a2.trans b2⟩
    ·have F:=d.qT x (by omega)
     have HE:=zD (Rt.B4 HS.u a5.u (Rt.FM g7.u I))
     have H:=zD (k.trans d)
     obtain⟨c0,c1,c2,c3,c4,c5,f0,f1,f2,f3,f4,f5⟩:=YD F
     have hz:=zQ F
     clear F x Z T L k d I
     go_wp2_with fail
     refine zT (v:=.tuple #[.agg yo,.bool false]) ?_ rfl (Or.inr ⟨HE.u,rfl,_,(H.u.jM (N:=w.heap.size) (zB _) _ _ _ _ _ _).alloc _⟩)
     simp[results,Tryz.results200,go_sem,c0,c1,c2,c3,c4,c5,hz]
   ·have x:=f.qT W (by omega)
    have HE:=zD (Rt.B4 HS.u a5.u (Rt.uK J))
    have H:=zD (z.trans f)
    obtain⟨c0,c1,c2,c3,c4,c5,f0,f1,f2,f3,f4,f5⟩:=YD x
    clear x L f J b0 W a0 f7 z
    go_wp2_with fail
    refine zT (v:=.tuple #[.agg yo,.bool false]) ?_ rfl (Or.inr ⟨HE.u,rfl,_,H.u.jM (zB _) _ _ _ _ _ _⟩)
    simp[results,Tryz.results200,go_sem,c0,c1,c2,c3,c4,c5]
 ·obtain⟨c0,c1,c2,c3,c4,c5,f0,f1,f2,f3,f4,f5⟩:=YD (U.qT h1 (by omega))
  have HS:=zD hs
  have H:=zD (b8.trans U)
  clear hr i1 b8 U hs h1
  go_wp2_with fail
  refine zT (v:=.tuple #[.agg yo,.bool false]) ?_ rfl (Or.inr ⟨by rw[Rt.J6,HS.u],rfl,_,H.u.jM (zB _) _ _ _ _ _ _⟩)
  simp[results,Tryz.results200,go_sem,c0,c1,c2,c3,c4,c5]
end Go.Proofs.YthleadfkfnnadaaGreat
