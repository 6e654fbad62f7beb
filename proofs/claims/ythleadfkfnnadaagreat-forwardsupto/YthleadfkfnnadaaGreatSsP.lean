/- What a session holds: Count, Held. -/
import Derived.Test.YthleadfkfnnadaaGreatPlC
import Derived.Test.YthleadfkfnnadaaGreatRgP
import Derived.Test.YthleadfkfnnadaaGreatSeA
import Derived.Test.YthleadfkfnnadaaGreatJrA
import Derived.Test.YthleadfkfnnadaaGreatSsA
import Derived.Test.YthleadfkfnnadaaGreatProg0
set_option maxHeartbeats 4000000
set_option maxRecDepth 100000
set_option linter.unusedSimpArgs false
namespace Go.Proofs.YthleadfkfnnadaaGreat
open Go.RowKit
attribute [local go_sem ↓] Go.wp_at_zero Go.wp_at_succ
variable {cap:Int} {ls:List (List ByteArray)} {qo:List Int} {X:ZK} {g B P k:Nat} {s:Rt.Se} {S:Rt.Src} {iv jv:Value} {w:World}
noncomputable def CX (s:ByteArray) (qo:List Int) (cap:Int):Int×Int:=
 if 100 < qo.length then (1,0)else if ¬(Rt.qx s).1=0 then ((Rt.qx s).1,(Rt.qx s).2.1)else if cap < 5\/500 < cap then (6,0)else (0,0)
theorem bL (s:ByteArray) (cap:Int) (o:s.size<=maxLen) (i:kA w iv qo) (d f:Int) (h:(100 < qo.length/\d=1/\f=0)\/(qo.length<=100/\¬d=0/\(Rf.vP s).1=d/\(Rf.vP s).2.1=f)) :
  Calls Tryz.prog 31 #[.string s,iv,.int .i64 cap] w fun e w'=>e=.returned (.tuple #[.pointer none,.int .i64 d,.int .i64 f])/\Below w.heap.size w w':=by
 have y:=zD i
 obtain⟨k,j,rfl⟩:=i.form
 have x:(d != 0)=true:=by rcases h with⟨_,rfl,_⟩| ⟨_,h,_⟩ <;> simp_all
 have HH:=zD h
 clear h i
 go_enter Tryz.func31,Tryz.ntmps31
 go_wp2_with fail
 refine(dB s o y.u).mono ?_
 rintro e w1 hcase
 have he:e=.returned (.tuple #[.pointer none,.int .i64 d,.int .i64 f])/\Below w.heap.size w w1:=by
  rcases HH.u with⟨h1,h2,h3⟩| ⟨h1,h2,h3,h4⟩
  ·subst h2 h3
   rcases hcase with⟨_,he,rfl⟩| ⟨h,_⟩
   ·exact⟨he,zI _ _⟩
   ·omega
  ·rcases hcase with⟨h,_⟩| ⟨_,hb,hc⟩
   ·omega
   ·rw[h3,h4]at hc
    rcases hc with⟨_,he⟩| ⟨h0,_⟩
    ·exact⟨he,hb⟩
    ·exact absurd h0 h2
 obtain⟨rfl,hb⟩:=he
 clear hcase
 go_wp2_with fail
 go_ret3
 exact⟨rfl,hb⟩
theorem DW (s:ByteArray) (cap:Int) (o:s.size<=maxLen) (d:kA w iv qo) (x:(Rf.vP s).1=0) (A:qo.length<=100) (D:cap < 5\/500 < cap) :
  Calls Tryz.prog 31 #[.string s,iv,.int .i64 cap] w fun e w'=>e=.returned (.tuple #[.pointer none,.int .i64 6,.int .i64 0])/\Below w.heap.size w w':=by
 have z:=zD d
 obtain⟨j,f,rfl⟩:=d.form
 clear d
 go_enter Tryz.func31,Tryz.ntmps31
 go_wp2_with fail
 refine(dB s o z.u).mono ?_
 rintro e w1 (⟨h,_⟩| ⟨_,i,(⟨y,_⟩| ⟨_,_,_,_,_,S,g,F,rfl,_⟩)⟩)
 ·omega
 ·exact absurd x y
 by_cases hz:cap < 5
 ·go_wp2_with fail
  go_ret3
  exact⟨rfl,i⟩
 ·have k:500 < cap:=by omega
  go_wp2_with fail
  go_ret3
  exact⟨rfl,i⟩
theorem jA.aside {S cap N i:Nat} {t:TypeId} (h:jA w S g cap ls) (f:qm w N t) (d:¬FG t) (v:Value):jA (w.setCell ⟨N,i,none⟩ v) S g cap ls:=
 h.stay (fun k _ hu hk=>zO w ⟨N,i,none⟩ v k (fun e=>hk.ne f (fun e2=>d (e2▸hu)) e))
theorem sw (w:World) (n:Nat) (d:n<=1000):(w.alloc (.cells (madeCells #[.bool false] n) 4)).ownsRow w.heap.size 4 1 (.slice (some ⟨w.heap.size,0,none⟩) n n) n ((List.replicate n false).map Value.bool):=by
 rw[List.map_replicate,<-gA]
 exact⟨by simp[madeCells],Or.inr ⟨_,_,_,rfl,zB _,zN w _,zB _,by unfold maxLen;omega,by simp[madeCells],by rw[yw (by simp[madeCells])]⟩⟩
theorem DS {w6:World} {C Sb gcap:Nat} {zL:List Rt.PL} {X:Qg} {tv:Value} (G:w6.heap[C]?=some (.cells #[.pointer (some ⟨Sb,0,none⟩),iv,.int .i64 cap,.slice none 0 0,.slice none 0 0,.int .i64 0,.int .i64 0,.slice none 0 0] 109 (0,0)))
  (V:jA w6 Sb g gcap ls) (L:w6.ownsRow B 3 1 iv S.input.length (xR S.input)) (D:Xd w6 B (ZN zL S 0) X) (J:w6.ownsRow B 72 7 tv 1 (jh X.fv X.vv X.cv X.ov (ZN zL S 0)).toList) (U:Below B w w6) (A:B<=C) (W:ls.length<=100) :
  vg (((w6.setCell ⟨C,3,none⟩ tv).setCell ⟨C,7,none⟩ (.slice (some ⟨w6.heap.size,0,none⟩) (ls.length+1) (ls.length+1))).alloc (.cells (madeCells #[.bool false] (ls.length+1)) 4)) C zL ls S cap 0 0 0 (List.replicate (ls.length+1) false) ⟨Sb,g,gcap,iv,tv,.slice none 0 0,.slice (some ⟨w6.heap.size,0,none⟩) (ls.length+1) (ls.length+1),[X]⟩/\
  Below B w (((w6.setCell ⟨C,3,none⟩ tv).setCell ⟨C,7,none⟩ (.slice (some ⟨w6.heap.size,0,none⟩) (ls.length+1) (ls.length+1))).alloc (.cells (madeCells #[.bool false] (ls.length+1)) 4))/\∀k∈Dt zL S C ⟨Sb,g,gcap,iv,tv,.slice none 0 0,.slice (some ⟨w6.heap.size,0,none⟩) (ls.length+1) (ls.length+1),[X]⟩,B<=k:=by
 have R:=zQ G
 have I:=yx (yx U A 3 tv) A 7 (.slice (some ⟨w6.heap.size,0,none⟩) (ls.length+1) (ls.length+1))
 have N:=zf (zf G 3 tv) 7 (.slice (some ⟨w6.heap.size,0,none⟩) (ls.length+1) (ls.length+1))
 have M:=(V.aside (i:=3) (qm.intro G) (by unfold FG;decide) tv).aside (i:=7) (qm.intro (zf G 3 tv)) (by unfold FG;decide) (.slice (some ⟨w6.heap.size,0,none⟩) (ls.length+1) (ls.length+1))
 have x:∀k,k≠C->((w6.setCell ⟨C,3,none⟩ tv).setCell ⟨C,7,none⟩ (.slice (some ⟨w6.heap.size,0,none⟩) (ls.length+1) (ls.length+1))).heap[k]?=w6.heap[k]?:=fun k hk=>(zO _ ⟨C,7,none⟩ _ k hk).trans (zO _ ⟨C,3,none⟩ _ k hk)
 have F:((w6.setCell ⟨C,3,none⟩ tv).setCell ⟨C,7,none⟩ (.slice (some ⟨w6.heap.size,0,none⟩) (ls.length+1) (ls.length+1))).heap.size=w6.heap.size:=by simp[World.setCell]
 have y:∀{B:Nat} {t:TypeId} {z m:Nat} {v:Value} {xs:List Value},w6.ownsRow B t z v m xs->t≠109->∀q,v.ownBlock=some q->q≠C:=fun hr ht q hq e=>by
  obtain⟨Z,d⟩:=yW hr hq
  rw[e,G]at d
  injection d with d
  injection d with _ d
  exact ht d.symm
 generalize (w6.setCell ⟨C,3,none⟩ tv).setCell ⟨C,7,none⟩ (.slice (some ⟨w6.heap.size,0,none⟩) (ls.length+1) (ls.length+1))=w8 at *
 have h:=sw w8 (ls.length+1) (by omega)
 have f:=(zI w8.heap.size w8).alloc (zB _) (.cells (madeCells #[.bool false] (ls.length+1)) 4)
 rw[F]at h
 refine⟨⟨by have:=zU N f;simpa[Du] using this,M.zP f,vr (yG (yP L (fun q hq=>x q (y L (by decide) q hq))) f),?_,rfl,fun i hi=>?_,zW _ _ _ _,by rw[qN];exact vr h,fun q hq=>by simp[Value.ownBlock]at hq⟩,I.trans (f.mono (by rw[F];omega)),?_⟩
 ·have:=vr (yG (yP J (fun q hq=>x q (y J (by decide) q hq))) f)
  simpa[trC] using this
 ·have O:i=0:=by simp at hi;omega
  subst O
  refine Xd.zP (w:=w8) ⟨⟨fun r hr=>yP (D.own.rows r hr) (fun q hq=>x q (y (D.own.rows r hr) (by rcases Yr hr with e | e | e <;> rw[e] <;> decide) q hq)),D.own.apart⟩,D.fl,D.cl,fun _ _=>zo _⟩ f
 ·intro k hk
  have H:∀{o:Option Nat} {g:Nat},g∈o.toList->o=some g:=fun hg=>by simpa using hg
  rcases zd.mp hk with hk | hk
  ·rcases zw.mp hk with rfl | hk
   ·exact A
   ·rcases zd.mp hk with hk | hk
    ·rcases zd.mp hk with hk | hk
     ·exact(J.lt k (H hk)).1
     ·simp[Value.ownBlock]at hk
    ·have:=H hk
     simp[Value.ownBlock]at this
     omega
  ·rcases zd.mp hk with hk | hk
   ·exact(L.lt k (H hk)).1
   ·obtain⟨j,T,hg⟩:=nM hk
    have O:j=0:=by simp at T;omega
    subst O
    exact D.new k hg
theorem Tryz.lq:(Tryz.prog.info? 72).map (fun i=>(i.zero,i.size,i.bytes))=some (some (.agg #[.slice none 0 0,.slice none 0 0,.slice none 0 0,.int .i64 0,.slice none 0 0,.int .i64 0,.int .i64 0]),7,120):=by kernel_rfl
theorem Tryz.A1:(Tryz.prog.info? 4).map (fun i=>(i.zero,i.size,i.bytes))=some (some (.bool false),1,1):=by kernel_rfl
abbrev zCu (S:Nat) (cap:Int):Array Value:=#[.pointer (some ⟨S,0,none⟩),.slice none 0 0,.int .i64 cap,.slice none 0 0,.slice none 0 0,.int .i64 0,.int .i64 0,.slice none 0 0]
theorem tf (s:ByteArray) (cap:Int) (zL:List Rt.PL) (hs:s.size<=maxLen) (hi:kA w iv qo) (hR:Rt.qx s=(0,0,zL)) (hl:qo.length<=100) (hc:5<=cap/\cap<=500) (ls:List (List ByteArray)) (a1:(Rf.vP s).2.2=ls) (S:Rt.Src) (hS:Zs s zL qo=S) :
  Calls Tryz.prog 31 #[.string s,iv,.int .i64 cap] w fun e w'=>Below w.heap.size w w'/\∃C Y,e=.returned (.tuple #[.pointer (some ⟨C,0,none⟩),.int .i64 0,.int .i64 0])/\vg w' C zL ls S cap 0 0 0 (List.replicate (ls.length+1) false) Y/\Lawful ls/\∀k∈Dt zL S C Y,w.heap.size<=k:=by
 have HI:=zD hi
 obtain⟨g3,f7,rfl⟩:=hi.form
 have b2:(Rf.vP s).1=0:=by rw[<-(Rf.eR s).1,hR]
 have g7:¬cap < 5:=by omega
 have g6:¬500 < cap:=by omega
 clear hi
 go_enter Tryz.func31,Tryz.ntmps31
 go_wp2_with fail
 refine(dB s hs HI.u).mono ?_
 rintro e w1 (⟨h,_⟩| ⟨_,b1,(⟨h0,_⟩| ⟨_,_,V,_,L,Sb,g,g0,rfl,hG⟩)⟩)
 ·omega
 ·exact absurd b2 h0
 have hC:=Rf.DT qo hR (V.lawful L)
 rw[a1]at hG L
 rw[a1,hS]at hC
 generalize (Rt.rForms 0 (Rt.lines s) [Rt.kb]).2.drop 1=ps at *
 obtain⟨f5,D,hD,f6,b3⟩:=Rf.gU hC
 have T:=zD hC
 have d7:S.input=qo:=by rw[<-hS];rfl
 clear a1 hS
 have a9:=(zI w1.heap.size w1).alloc (zB _) (.cells (zCu Sb cap) 109)
 have a6:=zN w1 (.cells (zCu Sb cap) 109)
 have U:=gN hG b1 a9 a6
 clear hG b1 hC V f5 b2 hR a9 a6
 go_wp2_with fail
 refine(Kd (HI.u.zP (U.u.2.1.trans (U.u.2.2.1.mono (B':=w.heap.size) U.u.2.1.size))) (by omega)).mono ?_
 generalize w1.alloc (.cells (zCu Sb cap) 109)=wa at *
 rintro e w2 ⟨a3,g2,rfl,o⟩
 obtain⟨z,y,rfl⟩:=zK o
 have d2:=U.u.2.2.1.size
 have M:=U.u.2.2.1.trans (a3.mono (B':=w1.heap.size) d2)
 have I:=zU U.u.2.2.2 a3
 have f9:=zQ I
 have b4:=U.u.1.zP M
 obtain⟨c0,c1,c2,c3,c4,c5,c6,c7⟩:=xH I
 have z2:=zS I
 have O:=zf I 1 (.slice z qo.length y)
 have A:=b4.aside (N:=w1.heap.size) (i:=1) (qm.intro I) (by unfold FG;decide) (.slice z qo.length y)
 have F:=yx M (zB _) 1 (.slice z qo.length y)
 have f:=yP (w':=w2.setCell ⟨w1.heap.size,1,none⟩ (.slice z qo.length y)) o (fun q hq=>zO w2 ⟨w1.heap.size,1,none⟩ _ q (by
  show q≠w1.heap.size
  have h1:=(o.lt q hq).1
  have h2:=zQ U.u.2.2.2
  omega))
 have g4:(w2.setCell ⟨w1.heap.size,1,none⟩ (.slice z qo.length y)).heap.size=w2.heap.size:=by simp[World.setCell]
 have a4:=gN O A F f
 have b5:=zC O 3 (by simp)
 simp at b5
 clear a3 o M I b4 O A F f
 obtain⟨j0,d6,b8,b7,b6⟩:=yi Tryz.lq
 obtain⟨b0,d9,d1,d0,b9⟩:=yi Tryz.A1
 go_wp2_with fail
 generalize w2.setCell ⟨w1.heap.size,1,none⟩ (.slice z qo.length y)=w3 at *
 clear c0 c1 c2 c3 c4 c5 c6 c7 z2
 go_region_law (first
  | (refine step_append_lies _ (by rfl) _ _ _ (by rfl) 0 72 j0 _ 7 120 Tryz.underlying106 d6 b8 b7 b6 rfl (by decide) _ 0 [] (by rfl) (zW _ _ _ _) ⟨w4.heap.size,0,none⟩ 1 1 [.slice xa (Rf.qu ls D (Rf.Qr zL)).zH.length xc,.slice ya (Rf.qu ls D (Rf.Qr zL)).vars.length yc,.slice za (Rf.qu ls D (Rf.Qr zL)).cells.length zc,.int .i64 (Rf.qu ls D (Rf.Qr zL)).read,.slice oa (Rf.qu ls D (Rf.Qr zL)).out.length oc,.int .i64 (Rf.qu ls D (Rf.Qr zL)).line,.int .i64 (Rf.qu ls D (Rf.Qr zL)).fin] (by rfl) (by rfl) (World.news_of_block (fr:=(0,0)) (zN w4 _)) (by simp[Value.oneCell']) (by omega) (by unfold maxLen;omega) (by omega) (zo _) (w4.heap.size+1) (by simp) ?_;intro g' cap' w6 J d hat a7;have bC:=(d.block w1.heap.size (by have:=zQ HX4.u.2.2;simp;omega) (by simp[Value.ownBlock])).trans (yR HX4.u.2.2 _);have d3:w6.cell? ⟨w1.heap.size,3,none⟩=some (.slice none 0 0):=(by have:=zC bC 3 (by simp);simpa using this);have e3:=zS bC 3)
  | (go_simp;go_wp2_with (go_at_call 54;refine(A6 D (Rf.Qr zL) (a4.u.2.1.zP (zh _)) T.u.law T.u.both.nested hD f6 (fun k hk=>(Rf.rM T.u hk).1) (fun k hk=>(Rf.rM T.u hk).2)).mono ?_;rintro e w4 ⟨a0,fv,vv,cv,ov,rfl,f0⟩;have x:=yh a0;obtain⟨_,_,xg,kB,G⟩:=f0;obtain⟨xa,xc,ya,yc,za,zc,oa,oc,f1,f2,f3,f4⟩:=G.ZX;simp only at f1 f2 f3 f4;subst f1 f2 f3 f4;have c4:=cell_later x b5;have H:=zU a4.u.1 x;have z4:=zS H;have l4:=zQ H;have n4:¬w1.heap.size=w4.heap.size:=(by omega);have HX4:=XX x G H;clear a0 x G H;unfold jh)))
 all_goals
  obtain⟨x,G,H⟩:=HX4.u
  obtain⟨O,A,F,f⟩:=a4.u
  have a2:Below w4.heap.size w4 w6:=⟨d.os,d.tape,d.output,zi (by simp) d.size,fun k hk=>(d.block k (by simp;omega) (by simp[Value.ownBlock])).trans (ki _ _ hk)⟩
  have d8:g'=w4.heap.size+1:=by rcases hat with h | h;simp[Value.ownBlock]at h;exact h
  have a5:=U.u.2.1.size
  have d4:=x.size
  have f8:=F.size
  have j:=x.trans (a2.mono (B':=w3.heap.size) d4)
  have a8:Below w.heap.size w w6:=U.u.2.1.trans ((F.mono (B':=w.heap.size) a5).trans (j.mono (B':=w.heap.size) (by omega)))
  have Z:=DS (zL:=zL) (S:=S) (B:=w.heap.size) (w:=w) (cap:=cap) (C:=w1.heap.size) (iv:=.slice z qo.length y) (tv:=.slice (some ⟨g',0,none⟩) 1 cap') (X:=⟨_,_,_,_,xg,kB⟩) (by simpa using bC) (A.zP j) (by rw[d7];exact yn (yG f j) (by omega)) (by have:=(G.zP a2).mono (B':=w.heap.size) (by show w.heap.size<=w3.heap.size;omega);rw[<-b3]at this;exact this) (by have:=Je J (b':=w.heap.size) (fun q hq=>by simp[Value.ownBlock]at hq;omega);rw[<-b3]at this;exact this) a8 a5 (by omega)
  have cS:=(A.zP j).top
  have nS:=(qm.intro bC).ne (A.zP j).ty.1 (by decide)
  have g1:=xK nS
  have c7:w6.cell? ⟨w1.heap.size,7,none⟩=some (.slice none 0 0):=by have:=zC bC 7 (by simp);simpa using this
  have e7:=zS bC 7
  have l6:=zQ bC
  have n6:¬w1.heap.size=w6.heap.size:=by omega
  have d5:=fun W=>run_make_row (P:=Tryz.prog) 107 4 b0 (.bool false) Tryz.underlying107 d9 d1 d0 rfl .i64 .i64 (ls.length+1) (by rw[b9];omega) (by omega) W
  rw[show ((ls.length+1:Nat):Int)=(ls.length:Int)+1 from rfl]at d5
  have g5:IntKind.i64.wrap ((ls.length:Int)+1)=(ls.length:Int)+1:=zl _ ⟨by omega,by omega⟩
  have R:=zD Z
  clear x G H O A F f a2 d8 j a8 Z d hat a7 J bC d3 e3 c4 z4 l4 n4 HX4
  go_wp2_with fail
  go_ret3
  exact⟨R.u.2.1,_,_,rfl,R.u.1,T.u.law,R.u.2.2⟩
theorem sf (s:ByteArray) (qo:List Int) (cap:Int):(100 < qo.length/\CX s qo cap=(1,0))\/(qo.length<=100/\¬(Rt.qx s).1=0/\CX s qo cap=((Rt.qx s).1,(Rt.qx s).2.1))\/(qo.length<=100/\Rt.qx s=(0,0,(Rt.qx s).2.2)/\(cap < 5\/500 < cap)/\CX s qo cap=(6,0))\/(qo.length<=100/\Rt.qx s=(0,0,(Rt.qx s).2.2)/\(5<=cap/\cap<=500)/\CX s qo cap=(0,0)):=by
 unfold CX
 by_cases hl:100 < qo.length
 ·exact Or.inl ⟨hl,zE hl⟩
 ·rw[zA hl]
  by_cases h0:(Rt.qx s).1=0
  ·rw[zA (kW h0)]
   by_cases hc:cap < 5\/500 < cap
   ·exact Or.inr (Or.inr (Or.inl ⟨by omega,Rt.uS h0,hc,zE hc⟩))
   ·exact Or.inr (Or.inr (Or.inr ⟨by omega,Rt.uS h0,by omega,zA hc⟩))
  ·exact Or.inr (Or.inl ⟨by omega,h0,zE h0⟩)
namespace Rt
def uQ (S:Src):Se:=⟨firstM S,[],0,0,List.replicate 101 false⟩
end Rt
def Gw (S:Rt.Src) (cap:Int) (w:World) (e:Ending) (w':World):Prop:=
 Below w.heap.size w w'/\∃P B X,e=.returned (.tuple #[.pointer (some ⟨P,0,none⟩),.int .i64 0,.int .i64 0])/\w.heap.size<=P/\(∀k∈Z4 X,w.heap.size<=k)/\Zv w' P B S cap (Rt.uQ S) X (.slice none 0 0)
theorem Cq (cap:Int) (w:World):Calls Tryz.prog 57 #[.int .i64 cap] w fun e w'=>e=.returned (.agg #[.int .i64 cap,.slice none 0 0,.int .i64 0])/\Below w.heap.size w w':=by
 go_enter Tryz.func57,Tryz.ntmps57
 go_wp2_with fail
 have E:=yb (zN w (.cells #[.int .i64 cap,.slice none 0 0,.int .i64 0] 101))
 refine zT (v:=.agg #[.int .i64 cap,.slice none 0 0,.int .i64 0]) ?_ rfl ⟨rfl,(zI _ _).alloc (zB _) _⟩
 revert E
 generalize w.alloc (.cells #[.int .i64 cap,.slice none 0 0,.int .i64 0] 101)=wz
 intro E
 simp[results,Tryz.results57,go_sem,E.1,E.2.1,E.2.2]
theorem wg (A z y x o k j i h f d:Value):(((((((((((Tryz.zeroCells105.setIfInBounds 0 A).setIfInBounds 1 z).setIfInBounds 2 y).setIfInBounds 3 x).setIfInBounds 4 o).setIfInBounds 5 k).setIfInBounds 6 j).setIfInBounds 7 i).setIfInBounds 8 h).setIfInBounds 9 f).setIfInBounds 10 d)=(#[A,z,y,x,o,k,j,i]++([h,f,d,.int .i64 0]++(List.replicate 101 false).map Value.bool).toArray:Array Value):=by kernel_rfl
theorem B0 (s:ByteArray) (cap:Int) (zL:List Rt.PL) (hs:s.size<=maxLen) (hi:kA w iv qo) (hR:Rt.qx s=(0,0,zL)) (hl:qo.length<=100) (hc:5<=cap/\cap<=500) :
  Calls Tryz.prog 30 #[.string s,iv,.int .i64 cap] w (Gw (Zs s zL qo) cap w):=by
 have j:=tQ hR
 have HI:=zD hi
 have a6:¬cap < 5:=by omega
 have a5:¬500 < cap:=by omega
 obtain⟨a3,a1,rfl,_⟩:=hi
 go_enter Tryz.func30,Tryz.ntmps30
 go_wp2_with fail
 refine(nC s hs HI.u (fun p hp=>by rw[hR]at hp;injection hp with _ hp;injection hp with _ hp;rw[<-hp];exact j)).mono ?_
 rintro e w1 ⟨f,hcase⟩
 rcases hcase with⟨hlt,_⟩| ⟨_,er,ln,a0,i,hcc⟩
 ·exact absurd hlt (by omega)
 rw[hR]at i
 injection i with e1 i
 injection i with e2 e3
 subst e1 e2 e3
 rcases hcc with⟨h0,_⟩| ⟨_,_,hlen,M0,X,rfl,hM0,hblk,hmc⟩
 ·exact absurd rfl h0
 obtain⟨H,G,J,I,M,L,A,z,F,D,q1,Z,W,V,U⟩:=hmc.shape
 generalize h:Rt.firstM (Zs s zL qo)=m0 at *
 have d:xC X m0 []=#[.slice H zL.length G,.slice J qo.length I,.slice M m0.zH.length L,.slice A m0.values.length z,.int .i64 m0.taken,.slice F m0.output.length D,.int .i64 m0.line,.int .i64 m0.fin]:=by
  simp only[xC,q1,Z,W,V,U,Zs,qR]
  rfl
 rw[d]
 have HX:=DA f hblk hmc d h
 clear f hblk hmc d h q1 Z W V U hR j
 go_wp2_with fail
 have y:=(zI w1.heap.size w1).alloc (zB _) (.cells #[.slice H zL.length G,.slice J qo.length I,.slice M m0.zH.length L,.slice A m0.values.length z,.int .i64 m0.taken,.slice F m0.output.length D,.int .i64 m0.line,.int .i64 m0.fin] 90)
 refine(Cq cap _).mono ?_
 rintro e w2 ⟨rfl,k⟩
 have T:=zU (zN w1 (.cells #[.slice H zL.length G,.slice J qo.length I,.slice M m0.zH.length L,.slice A m0.values.length z,.int .i64 m0.taken,.slice F m0.output.length D,.int .i64 m0.line,.int .i64 m0.fin] 90)) k
 obtain⟨y0,y1,y2,y3,y4,y5,y6,y7⟩:=xH T
 have a2:=zQ T
 have a4:¬w1.heap.size=w2.heap.size:=by omega
 have o:=zD (y.trans (k.mono (B':=w1.heap.size) (by simp)))
 clear y k T
 go_wp2_with fail
 have O:(((((((((((Tryz.zeroCells105.setIfInBounds 0 (.slice H zL.length G)).setIfInBounds 1 (.slice J qo.length I)).setIfInBounds 2 (.slice M m0.zH.length L)).setIfInBounds 3 (.slice A m0.values.length z)).setIfInBounds 4 (.int .i64 m0.taken)).setIfInBounds 5 (.slice F m0.output.length D)).setIfInBounds 6 (.int .i64 m0.line)).setIfInBounds 7 (.int .i64 m0.fin)).setIfInBounds 8 (.int .i64 cap)).setIfInBounds 9 (.slice none 0 0)).setIfInBounds 10 (.int .i64 0))=xC X m0 (vF cap (.slice none 0 0) 0 0 (List.replicate 101 false)):=by
  rw[wg]
  have:=HX.u.2.2.2.1
  have e:(xC X m0 (vF cap (.slice none 0 0) 0 0 (List.replicate 101 false)))=xC X m0 []++(vF cap (.slice none 0 0) 0 0 (List.replicate 101 false)).toArray:=by
   unfold xC
   rw[yX,List.append_toArray]
  rw[e,this]
  simp[vF]
 rw[O]
 obtain⟨f,hblk,hmc,_,h⟩:=HX.u
 have R:=((zI w2.heap.size w2).alloc (zB _) (.cells #[.int .i64 cap,.slice none 0 0,.int .i64 0] 101)).alloc (by simp) (.cells (xC X m0 (vF cap (.slice none 0 0) 0 0 (List.replicate 101 false))) 105)
 have bS:=qD w2 (.cells #[.int .i64 cap,.slice none 0 0,.int .i64 0] 101) (.cells (xC X m0 (vF cap (.slice none 0 0) 0 0 (List.replicate 101 false))) 105)
 have x:=o.u.trans (R.mono (B':=w1.heap.size) o.u.size)
 have N:=hmc.Gg x bS (by unfold FE;decide)
 refine zT (v:=.tuple #[.pointer (some ⟨w2.heap.size+1,0,none⟩),.int .i64 0,.int .i64 0]) ?_ rfl ⟨f.trans (x.mono (B':=w.heap.size) f.size),_,_,X,rfl,by have:=o.u.size;have:=f.size;omega,hblk,⟨by rw[Rt.uQ,h];exact N,zW _ _ _ _⟩⟩
 simp[results,Tryz.results30,go_sem]
theorem Ec (h:Zv w P B S cap s X jv):Calls Tryz.prog 102 #[.pointer (some ⟨P,8,none⟩)] w fun e w'=>e=.returned (.int .i64 s.low)/\w'=w:=by
 have d:=h.jrS.ud
 clear h
 go_enter Tryz.func102,Tryz.ntmps102
 go_wp2_with fail
 go_ret
 exact⟨rfl,rfl⟩
structure Be (S:Rt.Src):Prop where
 Gj:Good S
 call:iN S
 first:XW S (Rt.firstM S)
theorem Be.qT (h:Be S) (n:Nat):XW S (Rt.atM S n):=wD h.Gj h.first n
theorem Be.par (h:Be S) (n:Nat):iK (Rt.atM S n):=wC h.call n
theorem Be.input {S:Rt.Src} (h:Be S):S.input.length<=100:=h.first.Zi.input
theorem Be.Gh (h:Be S) {n low:Nat} (i:Rt.VK S cap n low) (d:List Bool) (f:d.length=101):rT S cap (Rt.XY S n low d):=⟨h.qT n,h.par n,i.room,f⟩
end Go.Proofs.YthleadfkfnnadaaGreat
namespace Go.Proofs.YthleadfkfnnadaaGreat
open Go.RowKit
variable {cap:Int} {ls:List (List ByteArray)} {qo:List Int} {X:ZK} {g B P k:Nat} {s:Rt.Se} {S:Rt.Src} {iv jv:Value} {w:World}
namespace Rt
def Fit (pl:PL):Prop:=pl.yY.length<=1000/\(∀t∈pl.yY,t.text.size<=40000)/\pl.depth<=1000
def Qq (S:Src) (mk:List Bool) (kind fuel d0:Int) (n k:Nat):Int:=kq (XY S n 0 mk) kind fuel d0 k
def fwdN (S:Src) (mk:List Bool) (kind fuel d0:Int):Nat->Nat->Nat->Nat×Nat×Int
 | 0,n,k=>(n,k,4)
 | f+1,n,k=>if Qq S mk kind fuel d0 n k=0 then fwdN S mk kind fuel d0 f (n+1) (k+1)else (n,k,Qq S mk kind fuel d0 n k)
def JI (S:Src) (cap:Int):Nat->Nat->Nat->Nat
 | 0,_,low=>low
 | j+1,n,low=>JI S cap j (n+1) (ik S cap n low)
theorem lX (S:Src) (cap:Int):∀i j n low,JI S cap (i+j) n low=JI S cap j (n+i) (JI S cap i n low)
 | 0,j,n,low=>by rw[xW];rfl
 | i+1,j,n,low=>by
  rw[show i+1+j=(i+j)+1 by omega,JI,lX S cap i j (n+1) _,JI,show n+1+i=n+(i+1) by omega]
theorem dC (S:Src) (mk:List Bool) (kind:Int) (fuel:Nat) (d0:Int):∀(f n k:Nat),k+f=fuel+1->0 < f->∃j,fwdN S mk kind fuel d0 f n k=(n+j,k+j,Qq S mk kind fuel d0 (n+j) (k+j))/\k+j<=fuel/\¬Qq S mk kind fuel d0 (n+j) (k+j)=0/\∀i,i < j->Qq S mk kind fuel d0 (n+i) (k+i)=0
 | 0,_,_,_,h=>by omega
 | f+1,n,k,he,_=>by
  rw[fwdN]
  by_cases hz:Qq S mk kind fuel d0 n k=0
  ·rw[zE hz]
   have x:(k:Int) < fuel:=(Xo hz).2
   obtain⟨j,o,D,d,y⟩:=dC S mk kind fuel d0 f (n+1) (k+1) (by omega) (by omega)
   have A:n+1+j=n+(j+1):=by omega
   have z:k+1+j=k+(j+1):=by omega
   rw[A,z]at o d
   refine⟨j+1,o,by omega,d,fun i hi=>?_⟩
   cases i with
   | zero=>exact hz
   | succ i=>
    have:=y i (by omega)
    rwa [show n+1+i=n+(i+1) by omega,show k+1+i=k+(i+1) by omega]at this
  ·rw[zA hz]
   exact⟨0,rfl,by omega,hz,fun i hi=>by omega⟩
theorem mE {S:Src} {cap:Int} (i:0<=cap) (mk:List Bool) (kind fuel d0:Int):∀(f n k low:Nat),VK S cap n low->n+f<=4611686018427387000->
  fwdRun S cap kind fuel d0 f (XY S n low mk) k=(XY S (fwdN S mk kind fuel d0 f n k).1 (JI S cap ((fwdN S mk kind fuel d0 f n k).1-n) n low) mk,(fwdN S mk kind fuel d0 f n k).2)/\VK S cap (fwdN S mk kind fuel d0 f n k).1 (JI S cap ((fwdN S mk kind fuel d0 f n k).1-n) n low)/\n<=(fwdN S mk kind fuel d0 f n k).1
 | 0,n,k,low,h,_=>by
  rw[fwdN,fwdRun]
  simp only[jC,JI]
  exact⟨trivial,h,zB _⟩
 | f+1,n,k,low,h,hn=>by
  rw[fwdN,fwdRun]
  have j:kq (XY S n low mk) kind fuel d0 k=Qq S mk kind fuel d0 n k:=rfl
  rw[j]
  by_cases hz:Qq S mk kind fuel d0 n k=0
  ·rw[zE hz,zE hz]
   have d:(atM S n).fin=0:=(Xo hz).1
   rw[wh h i d (by omega) mk]
   obtain⟨x,o,z⟩:=mE i mk kind fuel d0 f (n+1) (k+1) (ik S cap n low) (h.step i d) (by omega)
   generalize fwdN S mk kind fuel d0 f (n+1) (k+1)=r at *
   have y:JI S cap (r.1-n) n low=JI S cap (r.1-(n+1)) (n+1) (ik S cap n low):=by
    rw[show r.1-n=(r.1-(n+1))+1 by omega,JI]
   rw[y]
   exact⟨x,o,by omega⟩
  ·rw[zA hz,zA hz]
   simp only[jC,JI]
   exact⟨trivial,h,zB _⟩
end Rt
end Go.Proofs.YthleadfkfnnadaaGreat
namespace Go.Proofs.YthleadfkfnnadaaGreat
open Go.RowKit
attribute [local go_sem ↓] Go.wp_at_zero Go.wp_at_succ
variable {cap:Int} {ls:List (List ByteArray)} {qo:List Int} {X:ZK} {g B P k:Nat} {s:Rt.Se} {S:Rt.Src} {iv jv:Value} {w:World}
def J7 (P:Nat) (X:ZK) (jv:Value):List Nat:=P::Z4 X++jv.ownBlock.toList
theorem oZ (h:k∉J7 P X jv):k∉P::Z4 X/\jv.ownBlock≠some k:=by
 unfold J7 at h
 simp only[yF,zw,zd,Qu,not_or]at h
 exact⟨by simp only[zw,not_or];exact⟨h.1,h.2.1⟩,h.2.2⟩
theorem eV (h:k∈J7 P X jv):k=P\/k∈Z4 X\/jv.ownBlock=some k:=by
 unfold J7 at h
 simpa only[yF,zw,zd,Qu] using h
theorem K2 (h:k=P\/k∈Z4 X\/jv.ownBlock=some k):k∈J7 P X jv:=by
 unfold J7
 simpa only[yF,zw,zd,Qu] using h
section
variable {w w' : World} {P B : Nat} {S : Rt.Src} {cap : Int} {s s' : Rt.Se} {X X' : ZK} {jv jv' : Value}
theorem vX.kept (h:vX P B S cap X X' jv jv' s' w w') (f:k < w.heap.size) (d:k∉J7 P X jv):w'.heap[k]?=w.heap[k]?:=h.vz.block k f (oZ d).1 (oZ d).2
theorem vX.owns (h:vX P B S cap X X' jv jv' s' w w') (hk:k∈J7 P X' jv'):k∈J7 P X jv\/w.heap.size<=k:=by
 rcases eV hk with e | e | e
 ·exact Or.inl (K2 (Or.inl e))
 ·rcases h.grow k e with e | e
  ·exact Or.inl (K2 (Or.inr (Or.inl e)))
  ·exact Or.inr e
 ·rcases h.jg k e with e | e
  ·exact Or.inl (K2 (Or.inr (Or.inr e)))
  ·exact Or.inr e
theorem Zv.Vq (h:Zv w P B S cap s X jv) (hk:k∈J7 P X jv):k < w.heap.size:=by
 rcases eV hk with e | e | e
 ·rw[e];exact zQ h.mc.block
 ·rw[<-h.mc.xh]at e
  exact h.mc.own.lt k e
 ·obtain⟨c,d⟩:=yW h.jr e
  exact zQ d
end
def Vn (S:Rt.Src) (rs:Int) (k n:Nat):Array Value:=#[.int .i64 rs,.int .i64 (k:Int),.int .i64 (Rt.atM S n).fin,.int .i64 (Rt.atM S n).line,.int .i64 ((Rt.atM S n).zH.length:Int),.int .i64 (n:Int)]
structure Jx (w:World) (P B:Nat) (S:Rt.Src) (cap:Int) (n low:Nat) (mk:List Bool) (X:ZK) (jv:Value):Prop where
 Yo:Zv w P B S cap (Rt.XY S n low mk) X jv
 ok:Rt.VK S cap n low
structure Cst (S:Rt.Src) (cap:Int) (mk:List Bool):Prop where
 Gc:Be S
 lo:5<=cap
 hi:cap<=500
 Yw:mk.length=101
def MvP (P B:Nat) (S:Rt.Src) (cap:Int) (mk:List Bool) (X:ZK) (jv:Value) (n' low' k:Nat) (rs:Int) (w:World) (e:Ending) (w':World):Prop:=
 e=.returned (.tuple #[.agg (Vn S rs k n'),.int .i64 0])/\∃X' jv',vX P B S cap X X' jv jv' (Rt.XY S n' low' mk) w w'/\Rt.VK S cap n' low'
section
variable {w : World} {P B : Nat} {S : Rt.Src} {cap : Int} {n low : Nat} {mk : List Bool} {X : ZK} {jv : Value}
theorem Jx.zP {w':World} (h:Jx w P B S cap n low mk X jv) (d:Below w.heap.size w w'):Jx w' P B S cap n low mk X jv:=⟨h.Yo.zP d,h.ok⟩
theorem Jx.FU (h:Jx w P B S cap n low mk X jv):Calls Tryz.prog 59 #[.pointer (some ⟨P,0,none⟩)] w fun e w'=>e=.returned (.agg (Vn S 0 0 n))/\Below w.heap.size w w':=iw h.Yo
theorem Jx.fwd (h:Jx w P B S cap n low mk X jv) (i:Cst S cap mk) (f:Int) (d:Nat) (o:0<=f/\f<=3) (x:d<=1000) (F:n+1001<=4611686018427386000) :
  Calls Tryz.prog 65 #[.pointer (some ⟨P,0,none⟩),.int .i64 f,.int .i64 d] w (MvP P B S cap mk X jv (Rt.fwdN S mk f d (Rt.atM S n).zH.length (d+1) n 0).1 (Rt.JI S cap ((Rt.fwdN S mk f d (Rt.atM S n).zH.length (d+1) n 0).1-n) n low) (Rt.fwdN S mk f d (Rt.atM S n).zH.length (d+1) n 0).2.1 (Rt.fwdN S mk f d (Rt.atM S n).zH.length (d+1) n 0).2.2 w):=by
 have j:0<=cap:=by have:=i.lo;omega
 obtain⟨D,A,_⟩:=Rt.mE j mk f d (Rt.atM S n).zH.length (d+1) n 0 low h.ok (by omega)
 refine(pe h.Yo i.Gc.Gj i.Gc.call ⟨j,i.hi⟩ (i.Gc.Gh h.ok mk i.Yw) f d o x).mono ?_
 rintro e w' ⟨X',k,y,z⟩
 rw[show ((Rt.XY S n low mk).m.zH.length:Int)=((Rt.atM S n).zH.length:Int)from rfl,D]at y z
 exact⟨y,X',k,z,A⟩
end
theorem dd {M:Nat} {ty:TypeId} {tail:List Value} {m:Rt.Mc} (h:jz w M B ty tail S m X) (n:Int) :
  Calls Tryz.prog 105 #[.pointer (some ⟨M,0,none⟩),.int .i64 n] w fun e w'=>e=.returned (.bool (Rt.xV S.zL (Rt.yM S.zL n)))/\Below w.heap.size w w':=by
 have f:=zD (pQ n h.prog)
 clear h
 go_enter Tryz.func105,Tryz.ntmps105
 go_wp2_with fail
 refine f.u.mono ?_
 rintro e w1 ⟨rfl,d⟩
 have i:=zD d
 clear d
 go_wp2_with fail
 go_ret
 exact⟨rfl,i.u⟩
theorem ti (X:ZK) (m:Rt.Mc) (cap:Int) (jv:Value) (low d:Int) (marks:List Bool) (l:Nat) (b:Bool):(xC X m (vF cap jv low d marks)).setIfInBounds (12+l) (.bool b)=xC X m (vF cap jv low d (marks.set l b)):=by
 rw[Xs]
 simp[xC,vF,bk]
theorem Zv.marked (h:Zv w P B S cap s X jv) (l:Nat) (b:Bool):vX P B S cap X X jv jv { s with marks:=s.marks.set l b } w (w.setCell ⟨P,12+l,none⟩ (.bool b)):=by
 have j:KB P jv w (w.setCell ⟨P,12+l,none⟩ (.bool b)):=⟨rfl,rfl,rfl,by simp[World.setCell],fun k _ hp _=>zO _ _ _ _ hp⟩
 have o:=zf h.mc.block (12+l) (.bool b)
 have e:(([X.lv,X.iv,X.fv,X.vv,.int .i64 s.m.taken,X.ov,.int .i64 s.m.line,.int .i64 s.m.fin]++vF cap jv s.low s.idx s.marks).toArray).setIfInBounds (12+l) (.bool b)=xC X s.m (vF cap jv s.low s.idx (s.marks.set l b)):=ti X s.m cap jv s.low s.idx s.marks l b
 rw[e]at o
 have f:=h.mc.ru h.jr j o
 have d:jv.ownBlock≠some P:=h.jrS.ne
 have i:=yP (w':=w.setCell ⟨P,12+l,none⟩ (.bool b)) h.jr (fun g hg=>zO _ _ _ _ (fun e=>d (by rw[hg,show g=P from e])))
 exact⟨⟨f,i⟩,⟨rfl,rfl,rfl,by simp[World.setCell],fun k _ hn _=>zO _ _ _ _ (fun e=>hn (by rw[show k=P from e];exact xB ..))⟩,vd.refl _ _,fun _ h=>Or.inl h,zQ h.mc.block⟩
theorem lV (h:Zv w P B S cap s X jv) (l:Nat) (k:l < 101) (f:Rt.xV S.zL (Rt.yM S.zL l)=false) :
  Calls Tryz.prog 63 #[.pointer (some ⟨P,0,none⟩),.int .i64 l] w fun e w'=>e=.returned (.tuple #[.bool false,.int .i64 8])/\Below w.heap.size w w':=by
 have i:=zD (dd h.mc l)
 rw[f]at i
 have x:¬(l:Int) < 0:=by omega
 have o:¬(101:Int)<=(l:Int):=by omega
 clear h f
 go_enter Tryz.func63,Tryz.ntmps63
 go_wp2_with fail
 refine i.u.mono ?_
 rintro e w1 ⟨rfl,d⟩
 have j:=zD d
 clear d
 go_wp2_with fail
 refine zT (v:=.tuple #[.bool false,.int .i64 8]) ?_ rfl ⟨rfl,j.u⟩
 simp[results,Tryz.results63,go_sem]
theorem Ag (h:Zv w P B S cap s X jv) (x:s.marks.length=101) (l:Nat) (z:l < 101) (o:Rt.xV S.zL (Rt.yM S.zL l)=true) (b:Bool) (k:s.marks[l]?=some b) :
  Calls Tryz.prog 63 #[.pointer (some ⟨P,0,none⟩),.int .i64 l] w fun e w'=>e=.returned (.tuple #[.bool (!b),.int .i64 0])/\vX P B S cap X X jv jv { s with marks:=s.marks.set l (!b) } w w':=by
 have y:=zD (dd h.mc l)
 rw[o]at y
 have I:¬(l:Int) < 0:=by omega
 have A:(0:Int)<=(l:Int):=by omega
 have H:¬(101:Int)<=(l:Int):=by omega
 have G:(l:Int) < 101:=by omega
 have j:=qG h x
 clear h o x
 go_enter Tryz.func63,Tryz.ntmps63
 go_wp2_with fail
 refine y.u.mono ?_
 rintro e w1 ⟨rfl,f⟩
 have d:=j.u.1.zP f
 have D:=d.ow j.u.2 l z
 have J:w1.frozen? ⟨P,12+l,none⟩=false:=zS d.mc.block _
 have F:=zD (fun b=>(vX.start j.u.1 f).trans (d.marked l b))
 have i:s.marks[l]'(by have:=j.u.2;omega)=b:=by
  rw[zJ (by have:=j.u.2;omega)]at k
  exact Option.some.inj k
 rw[i]at D
 clear f d i k
 go_wp2_with fail
 go_region
 go_wp2_with fail
 refine zT (v:=.tuple #[.bool (!b),.int .i64 0]) ?_ rfl ⟨rfl,(F.u _).below (zh _)⟩
 simp[results,Tryz.results63,go_sem]
theorem BH (h:Zv w P B S cap s X jv):Calls Tryz.prog 103 #[.pointer (some ⟨P,8,none⟩)] w fun e w'=>e=.returned (.int .i64 (s.YU.length:Int))/\w'=w:=by
 have f:=h.jrS.k9
 obtain⟨i,d,rfl⟩:=zK h.jr
 clear h
 go_enter Tryz.func103,Tryz.ntmps103
 go_wp2_with fail
 go_ret
 exact⟨rfl,rfl⟩
theorem C9 (h:Zv w P B S cap s X jv):Calls Tryz.prog 61 #[.pointer (some ⟨P,0,none⟩)] w fun e w'=>e=.returned (.tuple #[.int .i64 s.low,.int .i64 (s.YU.length:Int)])/\w'=w:=by
 have d:=zD h
 clear h
 go_enter Tryz.func61,Tryz.ntmps61
 go_wp2_with fail
 refine(Ec d.u).mono ?_
 rintro e w1 ⟨rfl,rfl⟩
 go_wp2_with fail
 refine(BH d.u).mono ?_
 rintro e w2 ⟨rfl,rfl⟩
 go_wp2_with fail
 refine zT (v:=.tuple #[.int .i64 s.low,.int .i64 (s.YU.length:Int)]) ?_ rfl ⟨rfl,rfl⟩
 simp[results,Tryz.results61,go_sem]
end Go.Proofs.YthleadfkfnnadaaGreat
