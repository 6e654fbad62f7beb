/- The walks of the readers of lines, continued: call. -/
import Derived.Test.YthleadfkfnnadaaGreatFormse
set_option maxHeartbeats 4000000
set_option maxRecDepth 100000
set_option linter.unusedSimpArgs false
namespace Go.Proofs.YthleadfkfnnadaaGreat
open Go.RowKit
variable {B:Nat} {w:World}
theorem qi.map {w w':World} {B:Nat} (h:∀x o,w.ownsRow B 236 3 x (List.length o) (xX o)->w'.ownsRow B 236 3 x (List.length o) (xX o)):∀xs os,qi w B xs os->qi w' B xs os
 | [],[],_=>trivial
 | x::xs,o::os,⟨h1,h2⟩=>⟨h x o h1,qi.map h xs os h2⟩
 | [],_::_,h=>h.elim
 | _::_,[],h=>h.elim
theorem qi.snoc {w:World} {B:Nat} {x:Value} {o:List qM} (h:w.ownsRow B 236 3 x o.length (xX o)):∀xs os,qi w B xs os->qi w B (xs++[x]) (os++[o])
 | [],[],_=>⟨h,trivial⟩
 | _::xs,_::os,⟨h1,h2⟩=>⟨h1,qi.snoc h xs os h2⟩
 | [],_::_,h=>h.elim
 | _::_,[],h=>h.elim
theorem V4 {w:World} {B B':Nat} (d:B'<=B):∀xs os,qi w B xs os->qi w B' xs os
 | [],[],_=>trivial
 | _::xs,_::os,⟨h1,h2⟩=>⟨yn h1 d,V4 d xs os h2⟩
 | [],_::_,h=>h.elim
 | _::_,[],h=>h.elim
theorem VX (w:World) (o:Obj) (x:Value) (t:TypeId):∀j u,[x][j]?=some u->((w.alloc o).alloc (.cells #[x] t)).cell? ((⟨w.heap.size+1,0,none⟩:Addr).add j)=some u:=by
 have h:=cell_one_new (w.alloc o) x t
 simpa using h
theorem B6 (a b c d e f x:Value):(#[a,b,c,d,e,f].setIfInBounds 5 x)=#[a,b,c,d,e,x]:=rfl
theorem Tryz.C5:(Tryz.prog.info? 140).map (fun i=>(i.zero,i.size,i.bytes))=some (some (.agg #[.slice none 0 0]),1,24):=by kernel_rfl
theorem Db {R:Nat} {tv:Value} {ts:List Rt.Tk} {n:Nat} (hr:kC w R tv ts n zg []) (g3:∀t∈ts,t.text.size<=40000) :
  Calls Tryz.prog 201 #[.pointer (some ⟨R,0,none⟩)] w (YQ Rt.pCall R tv ts n w):=by
 have h8:R < w.heap.size:=zt w _ (zC hr.block 0 (by simp))
 obtain⟨i0,hi,h7,h6,h5⟩:=yi Tryz.C5
 have i5:=hr.VJ
 have i1:=zD g3
 clear g3
 go_enter Tryz.func201,Tryz.ntmps201
 go_wp2_with fail
 obtain⟨f9,Z⟩:=hr.zP ((zI w.heap.size w).alloc (zB _) (.cells yo 143))
 have a9:(w.alloc (.cells yo 143)).heap[w.heap.size]?=some (.cells yo 143 (0,0)):=zN w _
 refine(JH f9).mono ?_
 rintro e w1 (⟨nm,hn,hs,rfl,f8,D⟩| ⟨hs,rfl,f8,D⟩)
 ·have hN:=D.qT a9 (by omega)
  have i7:=zQ hN
  have b9:=Z.trans D
  have HS:=zD hs
  have g4:=(f8.zP ((zI w1.heap.size w1).alloc (zB _) (.cells #[.int .i64 12,.string nm,.int .i64 0,zg,zg,zg] 143))).1
  have b8:=b9.alloc (.cells #[.int .i64 12,.string nm,.int .i64 0,zg,zg,zg] 143)
  have g8:=yR hN (.cells #[.int .i64 12,.string nm,.int .i64 0,zg,zg,zg] 143)
  have h1:=zN w1 (.cells #[.int .i64 12,.string nm,.int .i64 0,zg,zg,zg] 143)
  clear hr f9 Z D hs a9 b9 hN f8
  go_wp2_with fail
  refine(Cb g4).mono ?_
  rintro e w2 ⟨rfl,F,j⟩
  have I:=j.qT g8 (by omega)
  have J:=j.qT h1 (by omega)
  have b7:=b8.trans j
  clear j b8 g8 h1 g4
  go_wp2_with fail
  go_loopg [7,8,9] (if n+1 < ts.length then ts.length-(n+1)+1 else 0) (fun k wn _ _ wr=>∃(b:Bool) (n2 f:Nat) (vv:Value) (vs:List Value) (acc:List (List qM)),wn=.bool b/\k=(if b=true then ts.length-n2+1 else 0)/\n+1<=n2/\n2<=24/\acc.length+(n+1)<=n2/\
   (b=true->ts.length-n2 < f/\Rt.pArgs f acc (ts.drop n2)=Rt.ZT (ts.drop (n+1)))/\(b=false->Rt.ZT (ts.drop (n+1))=some (acc,ts.drop n2))/\
   kC wr R tv ts n2 zg []/\ZJ R zg zg w wr/\wr.heap[w.heap.size]?=some (.cells yo 143 (0,0))/\
   wr.heap[w1.heap.size]?=some (.cells #[.int .i64 12,.string nm,.int .i64 0,zg,zg,vv] 143 (0,0))/\wr.ownsRow (w1.heap.size+1) 140 1 vv acc.length vs/\qi wr (w1.heap.size+1) vs acc)
  case atStart=>
   refine⟨decide (n+1 < ts.length),n+1,25,zg,[],[],rfl,?_,zB _,by have:=F.le;omega,by simp,?_,?_,F,b7,I,J,zW _ _ _ _,trivial⟩
   ·simp only[yS]
   ·intro h
    simp at h
    refine⟨by omega,?_⟩
    rw[Rt.ZT,zA (fun e=>by rw[ql h]at e;cases e)]
   ·intro h
    simp at h
    rw[Rt.ZT,zE (vW (by omega))]
  case round=>
   clear F b7 I J
   obtain⟨b,n2,f,vv,vs,acc,rfl,hk,j1,i2,i6,g0,g1,F,j,I,J,U,a3⟩:=hrel
   obtain⟨ad,cap,rfl⟩:=zK U
   cases b with
   | false=>
    have HE:=zD (Rt.BN HS.u (g1 rfl))
    obtain⟨c0,c1,c2,c3,c4,c5,f0,f1,f2,f3,f4,f5⟩:=YD I
    have ⟨d0,d1,d2,d3,d4,d5,_,_,_,_,_,_⟩:=YD J
    have HO:=zD (yn (b':=w.heap.size) (ZU (N:=w.heap.size) U (fun g hg=>by have:=(U.lt g hg).1;omega) (.int .i64 12) (.string nm) (.int .i64 0) zg zg (.slice ad acc.length cap)) (by omega))
    have HV:Hd (qi (W6 wr w.heap.size (.int .i64 12) (.string nm) (.int .i64 0) zg zg (.slice ad acc.length cap)) w.heap.size vs acc):=by
     refine zD ?_
     have hx:∀x o,wr.ownsRow (w1.heap.size+1) 236 3 x (List.length o) (xX o)->(W6 wr w.heap.size (.int .i64 12) (.string nm) (.int .i64 0) zg zg (.slice ad acc.length cap)).ownsRow (w1.heap.size+1) 236 3 x (List.length o) (xX o):=fun x o h=>ZU h (fun g hg=>by have:=(h.lt g hg).1;omega) _ _ _ _ _ _
     have h2:=qi.map hx _ _ a3
     clear hx
     exact V4 (by omega) _ _ h2
    have HR:=zD F
    have a7:=zD j
    clear hk g0 g1 F j I J U a3
    go_wp2_with fail
    refine zT (v:=.tuple #[.agg #[.int .i64 12,.string nm,.int .i64 0,zg,zg,.slice ad acc.length cap],.bool true]) ?_ rfl
     (Or.inl ⟨⟨12,nm,0,[],[],acc⟩,n2,_,HE.u,rfl,HR.u.jM h8 _ _ _ _ _ _,⟨zg,zg,_,vs,rfl,zW _ _ _ _,zW _ _ _ _,HO.u,HV.u⟩,a7.u.jM (zB _) _ _ _ _ _ _⟩)
    simp[results,Tryz.results201,go_sem,c0,c1,c2,c3,c4,c5]
   | true=>
    obtain⟨hf,hT⟩:=g0 rfl
    obtain⟨f,rfl⟩:∃f',f=f'+1:=⟨f-1,by omega⟩
    have HT:=zD hT
    have HK:=zD hk
    clear g0 g1 hT hk
    go_wp2_with fail
    refine(ZZ F i1.u).mono ?_
    rintro e w3 (⟨em,n3,xv,a5,rfl,j0,j2,f7,d9,y⟩| ⟨a5,rfl,i9,y⟩)
    ·obtain⟨T,A,rfl⟩:=zK d9
     have h9:=zQ J
     have a1:=y.qT I (by omega)
     have b0:=y.qT J (by omega)
     have b3:=y.ZH U (by omega)
     have b6:=qi.map (w':=w3) (fun x o h=>y.ZH h (by omega)) _ _ a3
     have d8:=j.trans y
     have b2:=yn (b':=w1.heap.size+1) d9 (by omega)
     have i4:=f7.le
     have h4:=zD a5
     clear F j I J U a3 d9 y a5
     -- behind the new variable for the expression
     have h0:=yR a1 (.cells #[.slice T em.length A] 140)
     have h3:=yR b0 (.cells #[.slice T em.length A] 140)
     have i8:=zQ b0
     have L:=b3.alloc (.cells #[.slice T em.length A] 140)
     have b5:=qi.map (w':=w3.alloc (.cells #[.slice T em.length A] 140)) (fun x o h=>h.alloc _) _ _ b6
     have a2:=b2.alloc (.cells #[.slice T em.length A] 140)
     have g7:=(f7.zP ((zI w3.heap.size w3).alloc (zB _) (.cells #[.slice T em.length A] 140))).1
     have d7:=d8.alloc (.cells #[.slice T em.length A] 140)
     have ⟨_,_,_,_,_,d5,_,_,_,_,_,g5⟩:=YD b0
     clear f7 d8 a1 b0 b3 b6 b2
     go_wp2_with (at_builtin;refine xQ _ rfl (.tmp 32) (.tmp 34) 141 rfl (w1.heap.size+1) 140 i0 _ 1 24 Tryz.underlying141 hi h7 h6 h5 rfl (by decide) _ _ _ rfl (L.alloc _) ⟨_,0,none⟩ 1 1 [.slice T em.length A] rfl rfl (VX _ _ _ _) ?c2 ?c3 ?c4 ?c5 ?_)
     case c2=>intro u hu;simp at hu;rcases hu with rfl;rfl
     case c3=>unfold maxLen;omega
     case c4=>omega
     case c5=>simp;omega
     intro v' w5 H z _
     have O:∀k,(Value.slice ad acc.length cap).ownBlock=some k->w1.heap.size < k:=fun k hk=>by have:=(L.lt k hk).1;omega
     have g2:=QW z h3 (fun h=>by have:=O _ h;omega)
     have g9:=QW z h0 (fun h=>by have:=O _ h;omega)
     have g6:=g7.kept (mA z (by simp;omega) (fun k hk=>by have:=O k hk;omega))
     have d6:=d7.grown z (fun k hk=>by have:=O k hk;omega)
     have b4:=qi.map (w':=w5) (fun x o h=>lQ h z (Ys h L (by decide))) _ _ b5
     have b1:=lQ a2 z (Ys a2 L (by decide))
     obtain⟨ad5,cap5,rfl⟩:=zK H
     have ⟨_,_,_,_,_,e5,_,_,_,_,_,k5⟩:=YD g2
     have a6:=zf g2 5 (Value.slice ad5 (acc.length+1) cap5)
     rw[B6]at a6
     have a8:=Kz g9 (M:=w1.heap.size) (by omega) 5 (Value.slice ad5 (acc.length+1) cap5)
     have f6:=g6.setOther (N:=w1.heap.size) (i:=5) (by omega) (by intro g h;cases h) (Value.slice ad5 (acc.length+1) cap5)
     have W:=d6.YS (N:=w1.heap.size) (i:=5) (by omega) (Value.slice ad5 (acc.length+1) cap5)
     have G:=yk H (a:=⟨w1.heap.size,5,none⟩) (fun g hg=>by have:=(H.lt g hg).1;show g≠w1.heap.size;omega) (Value.slice ad5 (acc.length+1) cap5)
     have V:=qi.map (w':=w5.setCell ⟨w1.heap.size,5,none⟩ (Value.slice ad5 (acc.length+1) cap5)) (fun x o h=>yk h (fun g hg=>by have:=(h.lt g hg).1;show g≠w1.heap.size;omega) _) _ _ (qi.snoc b1 _ _ b4)
     clear g2 g9 g6 d6 H z g7 d7 h3 h0 L O b4 b1 b5 a2
     go_wp2_with fail
     refine(KH _ f6).mono ?_
     rintro e w7 (⟨a4,rfl,a0,d⟩| ⟨a4,rfl,a0,d⟩)
     ·have HT2:=zD ((Rt.BU (f:=f) (acc:=acc) h4.u a4).symm.trans HT.u)
      have HH:=GW (d.qT a8 (by omega)) (d.qT a6 (by omega)) a0 (W.trans d) (d.ZH G (by omega)) (qi.map (w':=w7) (fun x o h=>d.ZH h (by omega)) _ _ V)
      have i3:=a0.le
      clear a0 d a8 a6 f6 W G V a4
      go_wp2_with fail
      go_roundg (ts.length-(n3+1)+1)
      case measure=>have:=HK.u;simp at this;omega
      case rel=>
       obtain⟨q1,q2,q3,q4,q5,q6⟩:=HH.u
       exact⟨true,n3+1,f,_,_,acc++[em],rfl,by simp,by omega,by omega,by simp;omega,fun _=>⟨by omega,HT2.u⟩,(fun h=>by cases h),q3,q4,q1,q2,by simpa using q5,q6⟩
     ·have HT2:=zD (HT.u.symm.trans (Rt.BS (f:=f) (acc:=acc) h4.u a4))
      have HH:=GW (d.qT a8 (by omega)) (d.qT a6 (by omega)) a0 (W.trans d) (d.ZH G (by omega)) (qi.map (w':=w7) (fun x o h=>d.ZH h (by omega)) _ _ V)
      clear a0 d a8 a6 f6 W G V a4
      go_wp2_with fail
      go_roundg 0
      case measure=>have:=HK.u;simp at this;omega
      case rel=>
       obtain⟨q1,q2,q3,q4,q5,q6⟩:=HH.u
       exact⟨false,n3,f,_,_,acc++[em],rfl,by simp,by omega,by omega,by simp;omega,(fun h=>by cases h),fun _=>HT2.u,q3,q4,q1,q2,by simpa using q5,q6⟩
    ·have a1:=y.qT I (by omega)
     have HE:=zD (Rt.BO HS.u (HT.u.symm.trans (Rt.BT a5)))
     have a7:=zD (j.trans y)
     obtain⟨c0,c1,c2,c3,c4,c5,f0,f1,f2,f3,f4,f5⟩:=YD a1
     have hz:=zQ a1
     clear a1 y a5 F j I J U a3
     go_wp2_with fail
     refine zT (v:=.tuple #[.agg yo,.bool false]) ?_ rfl (Or.inr ⟨HE.u,rfl,_,(a7.u.jM (N:=w.heap.size) (zB _) _ _ _ _ _ _).alloc _⟩)
     simp[results,Tryz.results201,go_sem,c0,c1,c2,c3,c4,c5,hz]
 ·obtain⟨c0,c1,c2,c3,c4,c5,f0,f1,f2,f3,f4,f5⟩:=YD (D.qT a9 (by omega))
  have HS:=zD hs
  have a7:=zD (Z.trans D)
  clear hr f9 Z D hs a9
  go_wp2_with fail
  refine zT (v:=.tuple #[.agg yo,.bool false]) ?_ rfl (Or.inr ⟨by rw[Rt.pCall,HS.u],rfl,_,a7.u.jM (zB _) _ _ _ _ _ _⟩)
  simp[results,Tryz.results201,go_sem,c0,c1,c2,c3,c4,c5]
end Go.Proofs.YthleadfkfnnadaaGreat
