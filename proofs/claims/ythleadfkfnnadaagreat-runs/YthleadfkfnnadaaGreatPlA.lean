/- The document's place of a machine: plain. -/
import Derived.Test.YthleadfkfnnadaaGreatNwC
import Derived.Test.YthleadfkfnnadaaGreatFwA
import Derived.Test.YthleadfkfnnadaaGreatMcK
set_option maxHeartbeats 4000000
set_option maxRecDepth 100000
namespace Go.Proofs.YthleadfkfnnadaaGreat
open Go.RowKit
attribute [local go_sem ↓] Go.wp_at_zero Go.wp_at_succ
namespace Rt
theorem zJy (len:Nat):∀(ps:List PL) (n:Nat) (bs:List Blk) (lk:Lks),(nestLk len ps n bs lk).length=lk.length
 | [],_,_,_=>rfl
 | p::r,n,bs,lk=>by
  unfold nestLk
  split
  ·rw[zJy len r,zE5]
  ·rfl
theorem zNS (ps:List PL):(zBv ps).length=ps.length+1:=by
 unfold zBv
 rw[zJy,List.length_replicate]
end Rt
structure Fit (s:ByteArray) (pls:List Rt.PL):Prop where
 len:(Rt.zCg s).length=pls.length
 fwd:zLy (pls.map Rt.zAt) (Rt.zCg s)
 cells:∀p∈pls,p.form.cells≤1000
def zA1 (s:ByteArray) (pls:List Rt.PL) (inp:List Int):Rt.Src:=⟨pls.map Rt.zAt,Rt.zCg s,inp⟩
abbrev zFH:Array Value:=#[.slice none 0 0,.slice none 0 0,.slice none 0 0,.slice none 0 0,.int .i64 0,.slice none 0 0,.int .i64 0,.int .i64 0]
def NewP (s:ByteArray) (inp:List Int) (w:World) (e:Ending) (w':World):Prop:=
  Below w.heap.size w w'∧
  ((100 < inp.length∧e=.returned (.tuple #[.agg zFH,.int .i64 1,.int .i64 0]))∨
   (inp.length≤100∧∃er ln pls,Rt.zAY s=(er,ln,pls)∧
     ((¬er=0∧e=.returned (.tuple #[.agg zFH,.int .i64 er,.int .i64 ln]))∨
      (er=0∧ln=0∧pls.length≤101∧∃M X,e=.returned (.tuple #[.agg (zAn X (Rt.firstM (zA1 s pls inp)) []),.int .i64 0,.int .i64 0])∧w.heap.size≤M∧(∀k∈zDX X,w.heap.size≤k)∧McS w' M w.heap.size 90 [] (zA1 s pls inp) (Rt.firstM (zA1 s pls inp)) X))))
theorem zCQ {w:World} {N:Nat} {t:TypeId} {v0 v1 v2 v3 v4 v5 v6 v7:Value} (h:w.heap[N]?=some (.cells #[v0,v1,v2,v3,v4,v5,v6,v7] t (0,0))) :
  w.cell? ⟨N,0,none⟩=some v0∧w.cell? ⟨N,1,none⟩=some v1∧w.cell? ⟨N,2,none⟩=some v2∧w.cell? ⟨N,3,none⟩=some v3∧w.cell? ⟨N,4,none⟩=some v4∧w.cell? ⟨N,5,none⟩=some v5∧w.cell? ⟨N,6,none⟩=some v6∧w.cell? ⟨N,7,none⟩=some v7:=
 ⟨zC h 0 (by simp),zC h 1 (by simp),zC h 2 (by simp),zC h 3 (by simp),zC h 4 (by simp),zC h 5 (by simp),zC h 6 (by simp),zC h 7 (by simp)⟩
abbrev W8 (w:World) (N:Nat) (a b c d e f g h:Value):World:=(((((((w.setCell ⟨N,0,none⟩ a).setCell ⟨N,1,none⟩ b).setCell ⟨N,2,none⟩ c).setCell ⟨N,3,none⟩ d).setCell ⟨N,4,none⟩ e).setCell ⟨N,5,none⟩ f).setCell ⟨N,6,none⟩ g).setCell ⟨N,7,none⟩ h
theorem zN3 {w:World} {R:Nat} {x0 x1 x2 x3 x4 x5 x6 x7:Value} {t:TypeId} (h:w.heap[R]?=some (.cells #[x0,x1,x2,x3,x4,x5,x6,x7] t (0,0))) (a b c d e f g i:Value):(W8 w R a b c d e f g i).heap[R]?=some (.cells #[a,b,c,d,e,f,g,i] t (0,0)):=by
 have:=zO (zO (zO (zO (zO (zO (zO (zO h 0 a) 1 b) 2 c) 3 d) 4 e) 5 f) 6 g) 7 i
 simpa using this
theorem zt {B N:Nat} {w w1:World} (h:Below B w w1) (hN:B≤N) (i:Nat) (v:Value):Below B w (w1.setCell ⟨N,i,none⟩ v):=
 ⟨h.os,h.tape,h.output,by simpa[World.setCell] using h.size,fun k hk=>by rw[Below.heap_setCell w1 ⟨N,i,none⟩ v k (by show k≠N;omega)];exact h.block k hk⟩
theorem zKj {B N:Nat} {w w1:World} (hb:Below B w w1) (hN:B≤N) (a b c d e f g h:Value):Below B w (W8 w1 N a b c d e f g h):=
 zt (zt (zt (zt (zt (zt (zt (zt hb hN _ _) hN _ _) hN _ _) hN _ _) hN _ _) hN _ _) hN _ _) hN _ _
abbrev W4m (w3:World) (M:Nat) (iv':Value):World:=((w3.setCell ⟨M,1,none⟩ iv').setCell ⟨M,2,none⟩ (.slice (some ⟨w3.heap.size,0,none⟩) 1 1)).alloc (.cells #[.slice none 0 0,.int .i64 0] 153)
theorem zOl {w2 w3:World} {P B:Nat} {pls:List Rt.PL} {lk:Rt.Lks} {lv:Value} {cs:List (List Value)} {iv':Value} {inp:List Int} (hp:zB5 w2 P B pls lk lv cs) (hb3:Below (w2.heap.size+1) (w2.alloc (.cells #[lv,.slice none 0 0,.slice none 0 0,.slice none 0 0,.int .i64 0,.slice none 0 0,.int .i64 0,.int .i64 0] 90)) w3) (hin:w3.ownsRow (w2.heap.size+1) 3 1 iv' inp.length (inp.map (Value.int .i64))) :
  McS (W4m w3 w2.heap.size iv') w2.heap.size B 90 [] ⟨pls,lk,inp⟩ ⟨[Rt.zEU],[],0,[],0,0⟩ ⟨lv,iv',.slice (some ⟨w3.heap.size,0,none⟩) 1 1,.slice none 0 0,.slice none 0 0,[.slice none 0 0],[],cs⟩∧Below w2.heap.size w2 (W4m w3 w2.heap.size iv'):=by
 have bM3:=(hb3.block w2.heap.size (by omega)).trans (heap_alloc_new w2 (.cells #[lv,.slice none 0 0,.slice none 0 0,.slice none 0 0,.int .i64 0,.slice none 0 0,.int .i64 0,.int .i64 0] 90))
 have hMlt:=zJ bM3
 have h1:=zO bM3 1 iv'
 have h2:=zO h1 2 (.slice (some ⟨w3.heap.size,0,none⟩) 1 1)
 have hsz:((w3.setCell ⟨w2.heap.size,1,none⟩ iv').setCell ⟨w2.heap.size,2,none⟩ (.slice (some ⟨w3.heap.size,0,none⟩) 1 1)).heap.size=w3.heap.size:=by simp[World.setCell]
 have h3:=zV h2 (.cells #[.slice none 0 0,.int .i64 0] 153)
 have hbb:Below w2.heap.size w2 w3:=((Below.refl w2.heap.size w2).alloc (Nat.le_refl _) (.cells #[lv,.slice none 0 0,.slice none 0 0,.slice none 0 0,.int .i64 0,.slice none 0 0,.int .i64 0,.int .i64 0] 90)).trans (hb3.mono (by omega))
 have hb24:Below w2.heap.size w2 (W4m w3 w2.heap.size iv'):=(zt (zt hbb (Nat.le_refl _) 1 iv') (Nat.le_refl _) 2 (.slice (some ⟨w3.heap.size,0,none⟩) 1 1)).alloc (by rw[hsz];omega) _
 have hp4:=hp.zH hb24
 have hoth:∀k,k < w3.heap.size→k≠w2.heap.size→(W4m w3 w2.heap.size iv').heap[k]?=w3.heap[k]?:=by
  intro k hk hne
  rw[show (W4m w3 w2.heap.size iv').heap[k]?=((w3.setCell ⟨w2.heap.size,1,none⟩ iv').setCell ⟨w2.heap.size,2,none⟩ (.slice (some ⟨w3.heap.size,0,none⟩) 1 1)).heap[k]? from heap_alloc_old _ _ (by rw[hsz];exact hk)]
  rw[Below.heap_setCell _ _ _ _ hne,Below.heap_setCell _ _ _ _ hne]
 have r1:(W4m w3 w2.heap.size iv').ownsRow 0 3 1 iv' inp.length (zz inp):=zAZ (zCr hin) (fun g hg=>hoth g (hin.lt g hg).2 (by have:=(hin.lt g hg).1;omega))
 have hnew:=heap_alloc_new ((w3.setCell ⟨w2.heap.size,1,none⟩ iv').setCell ⟨w2.heap.size,2,none⟩ (.slice (some ⟨w3.heap.size,0,none⟩) 1 1)) (.cells #[.slice none 0 0,.int .i64 0] 153)
 rw[hsz]at hnew
 have r2:(W4m w3 w2.heap.size iv').ownsRow 0 153 2 (.slice (some ⟨w3.heap.size,0,none⟩) 1 1) 1 [.slice none 0 0,.int .i64 0]:=
  ⟨rfl,Or.inr ⟨w3.heap.size,1,#[.slice none 0 0,.int .i64 0],rfl,Nat.zero_le _,hnew,Nat.le_refl _,by unfold maxLen;omega,rfl,rfl⟩⟩
 refine⟨⟨by simpa using h3,⟨zJ h3,?_,hp4.own,hp4.lines,hp4.zJ7,hp4.len⟩,⟨?_,?_⟩,rfl,rfl,by unfold TyOk;decide⟩,hb24⟩
 ·have:=zC h3 0 (by simp)
  simpa using this
 ·intro r hr
  simp only[rowsOf,List.map_cons,List.map_nil,List.zipWith_cons_cons,List.zipWith_nil_left,List.append_nil,List.cons_append,List.nil_append,List.mem_cons,List.not_mem_nil,or_false]at hr
  rcases hr with rfl | rfl | rfl | rfl | rfl
  ·exact r1
  ·exact r2
  ·exact World.ownsRow_nil _ _ _ _
  ·exact World.ownsRow_nil _ _ _ _
  ·exact World.ownsRow_nil _ _ _ _
 ·have hb:zAJ (rowsOf inp ⟨lv,iv',.slice (some ⟨w3.heap.size,0,none⟩) 1 1,.slice none 0 0,.slice none 0 0,[.slice none 0 0],[],cs⟩ ⟨[Rt.zEU],[],0,[],0,0⟩)=(match iv'.ownBlock with | none=>[w3.heap.size] | some g=>[g,w3.heap.size]):=by
   unfold rowsOf
   rw[List.cons_append,zBY]
   rfl
  rw[hb]
  cases e:iv'.ownBlock with
  | none=>simp
  | some g=>
   have:=(hin.lt g e).2
   simp
   omega
theorem McS.shape {w:World} {M B:Nat} {ty:TypeId} {tail:List Value} {S:Rt.Src} {m:Rt.Mc} {X:McX} (h:McS w M B ty tail S m X):∃la lc ia ic fa fc va vc oa oc,X.lv=.slice la S.pls.length lc∧X.iv=.slice ia S.input.length ic∧X.fv=.slice fa m.zD.length fc∧X.vv=.slice va m.values.length vc∧X.ov=.slice oa m.output.length oc:=by
 obtain⟨la,lc,e1⟩:=zE h.prog.own
 obtain⟨ia,ic,e2⟩:=zE h.input
 obtain⟨fa,fc,e3⟩:=zE h.zD
 obtain⟨va,vc,e4⟩:=zE h.zGO
 obtain⟨oa,oc,e5⟩:=zE h.out
 exact⟨la,lc,ia,ic,fa,fc,va,vc,oa,oc,e1,e2,e3,e4,e5⟩
theorem McS.eight {w:World} {M B:Nat} {ty:TypeId} {tail:List Value} {S:Rt.Src} {m:Rt.Mc} {X:McX} (h:McS w M B ty tail S m X) {N:Nat} {x0 x1 x2 x3 x4 x5 x6 x7:Value} (hN:w.heap[N]?=some (.cells #[x0,x1,x2,x3,x4,x5,x6,x7] 90 (0,0))) (hM:N≠M) (a b c d e f g i:Value):McS (W8 w N a b c d e f g i) M B ty tail S m X:=by
 have ht:¬PTy 90∧90≠3∧90≠153∧90≠24:=by unfold PTy;decide
 have n1:=zO hN 0 a
 have n2:=zO n1 1 b
 have n3:=zO n2 2 c
 have n4:=zO n3 3 d
 have n5:=zO n4 4 e
 have n6:=zO n5 5 f
 have n7:=zO n6 6 g
 exact(((((((h.aside hN hM ht 0 a).aside n1 hM ht 1 b).aside n2 hM ht 2 c).aside n3 hM ht 3 d).aside n4 hM ht 4 e).aside n5 hM ht 5 f).aside n6 hM ht 6 g).aside n7 hM ht 7 i
theorem zMI (s:ByteArray) (iv:Value) (inp:List Int) (w:World) (hs:s.size≤maxLen) (hi:zBP w iv inp) (hfit:∀pls,Rt.zAY s=(0,0,pls)→Fit s pls) :
  Calls Tryz.prog 49 #[.string s,iv] w (NewP s inp w):=by
 obtain⟨i0,hi0,hz0,hz1,hz2⟩:=info_parts Tryz.zCv
 have HI:=zB hi
 obtain⟨iad,icap,rfl,_⟩:=hi
 by_cases hl:100 < inp.length
 ·have hl':(100:Int) < (inp.length:Int):=by omega
  have HW:=heap_alloc_new w (.cells zFH 90)
  have E:=zCQ HW
  have HB:=zB ((Below.refl w.heap.size w).alloc (Nat.le_refl _) (.cells zFH 90))
  clear HW
  go_enter Tryz.func49,Tryz.ntmps49
  go_wp2_with fail
  refine bodyPost_ret (v:=.tuple #[.agg zFH,.int .i64 1,.int .i64 0]) ?_ rfl ⟨zA HB,Or.inl ⟨hl,rfl⟩⟩
  revert E
  generalize w.alloc (.cells zFH 90)=wz
  rintro ⟨E0,E1,E2,E3,E4,E5,E6,E7⟩
  simp[results,Tryz.results49,go_sem,E0,E1,E2,E3,E4,E5,E6,E7]
 ·have hl':¬(100:Int) < (inp.length:Int):=by omega
  go_enter Tryz.func49,Tryz.ntmps49
  go_wp2_with fail
  refine(zP3 s _ hs).mono ?_
  rintro e w1 ⟨hb1,er,ln,pls,hR,hcase⟩
  have hb0:=(Below.refl w.heap.size w).alloc (Nat.le_refl _) (.cells zFH 90)
  have hB1:Below w.heap.size w w1:=hb0.trans (hb1.mono (by simp))
  have bR1:=zK (heap_alloc_new w (.cells zFH 90)) hb1
  rcases hcase with⟨her,rfl⟩| ⟨rfl,rfl,hlen,lv,cs,rfl,hown,hlines,hlk⟩
  ·have her':(er != 0)=true:=by simpa using her
   have HB:=zB hB1
   have HR:=zB hR
   obtain⟨e0,e1,e2,e3,e4,e5,e6,e7⟩:=zCQ bR1
   have Z:=zI bR1
   have hRlt:=zJ bR1
   have hRne:¬w.heap.size=w1.heap.size:=by omega
   clear hb1 hb0 hB1 hR
   go_wp2_with fail
   have HW:=zN3 bR1 (.slice none 0 0) (.slice none 0 0) (.slice none 0 0) (.slice none 0 0) (.int .i64 0) (.slice none 0 0) (.int .i64 0) (.int .i64 0)
   have E:=zCQ (zV HW (.cells #[.slice none 0 0] 76))
   have HB2:=(zKj (zA HB) (Nat.le_refl _) (.slice none 0 0) (.slice none 0 0) (.slice none 0 0) (.slice none 0 0) (.int .i64 0) (.slice none 0 0) (.int .i64 0) (.int .i64 0))
   have HB3:=HB2.alloc HB2.size (.cells #[.slice none 0 0] 76)
   refine bodyPost_ret (v:=.tuple #[.agg zFH,.int .i64 er,.int .i64 ln]) ?_ rfl ⟨HB3,Or.inr ⟨by omega,er,ln,pls,zA HR,Or.inl ⟨her,rfl⟩⟩⟩
   revert E
   generalize (W8 w1 w.heap.size (.slice none 0 0) (.slice none 0 0) (.slice none 0 0) (.slice none 0 0) (.int .i64 0) (.slice none 0 0) (.int .i64 0) (.int .i64 0)).alloc (.cells #[.slice none 0 0] 76)=wz
   rintro ⟨E0,E1,E2,E3,E4,E5,E6,E7⟩
   simp[results,Tryz.results49,go_sem,E0,E1,E2,E3,E4,E5,E6,E7]
  ·obtain⟨lad,lcap,rfl⟩:=zE hown
   have hft:=hfit pls hR
   have hbP:=(Below.refl w1.heap.size w1).alloc (Nat.le_refl _) (.cells #[.slice lad pls.length lcap] 76)
   have bP:=heap_alloc_new w1 (.cells #[.slice lad pls.length lcap] 76)
   have hpm:zB5 (w1.alloc (.cells #[.slice lad pls.length lcap] 76)) w1.heap.size w.heap.size pls (Rt.zCg s) (.slice lad pls.length lcap) cs:=
    ⟨by simp,zC bP 0 (by simp),zh (zZ hown hbP) (by simp),zEI.lines (w:=w1.alloc (.cells #[.slice lad pls.length lcap] 76)) (fun _ _ _ _ _ _ h=>zh h (by simp)) _ _ ((zAD hbP).lines _ _ hlines),hlk.zH hown hbP,hft.len⟩
   have hne:(Value.slice lad pls.length lcap).ownBlock≠some w1.heap.size:=by
    intro e
    have:=(hown.lt _ e).2
    omega
   have hRlt:=zJ bR1
   have hRne:¬w.heap.size=w1.heap.size:=by omega
   have bR2:=zK bR1 hbP
   have HX:=zB (And.intro hown hB1)
   have HFT:=zB hft
   have HR:=zB hR
   clear hown hlines hlk hb1 hb0 hB1 hft hR
   go_wp2_with fail
   refine(drop_any _ w1.heap.size w.heap.size pls (Rt.zCg s) _ cs hpm hne hlen).mono ?_
   rintro e w2 ⟨rfl,⟨cs2,hp2⟩,hg2⟩
   have c2:=hp2.cell
   have hlt2:=hp2.lt
   have hB2:Below w.heap.size w w2:=by
    have h1:Below w.heap.size w (w1.alloc (.cells #[.slice lad pls.length lcap] 76)):=(zA HX).2.alloc (zA HX).2.size _
    exact h1.grown hg2 h1.size (fun j hj=>by have:=((zA HX).1.lt j hj).1;simp at this;omega)
   have HB2:=zB (And.intro (hB2.alloc hB2.size (.cells #[.slice lad pls.length lcap,.slice none 0 0,.slice none 0 0,.slice none 0 0,.int .i64 0,.slice none 0 0,.int .i64 0,.int .i64 0] 90)) hB2)
   clear hpm hB2
   go_wp2_with (at_builtin;refine zCo _ rfl _ _ 24 24 rfl (w2.heap.size+1) 3 i0 _ Tryz.underlying24 hi0 hz0 hz1 (by omega) rfl _ 0 [] rfl (World.ownsRow_nil _ _ _ _) _ inp.length (inp.map (Value.int .i64)) rfl ?c0 ?c1 ?c2 ?_)
   case c0=>exact((zA HI).zH (zA HB2).1).src
   case c1=>omega
   case c2=>simp
   intro v' w3 hown3 hgrow3
   obtain⟨vad,vcap,rfl⟩:=zE hown3
   have hb3:Below (w2.heap.size+1) (w2.alloc (.cells #[.slice lad pls.length lcap,.slice none 0 0,.slice none 0 0,.slice none 0 0,.int .i64 0,.slice none 0 0,.int .i64 0,.int .i64 0] 90)) w3:=⟨hgrow3.os,hgrow3.tape,hgrow3.output,hgrow3.size,fun k hk=>hgrow3.block k (by simpa using hk) (by simp[Value.ownBlock])⟩
   have bM3:=(hb3.block w2.heap.size (by omega)).trans (heap_alloc_new w2 (.cells #[.slice lad pls.length lcap,.slice none 0 0,.slice none 0 0,.slice none 0 0,.int .i64 0,.slice none 0 0,.int .i64 0,.int .i64 0] 90))
   obtain⟨m0,m1,m2,m3,m4,m5,m6,m7⟩:=zCQ bM3
   have zM:=zI bM3
   have hMlt:=zJ bM3
   have hMne:¬w2.heap.size=w3.heap.size:=by omega
   have H3:=zB (And.intro hown3 (And.intro hb3 bM3))
   have HP2:=zB (And.intro hp2 hg2)
   clear hown3 hb3 bM3 hgrow3 hp2 hg2 bP bR2 hbP
   go_wp2_with fail
   obtain⟨hown3,hb3,bM3⟩:=zA H3
   obtain⟨hms,hb24⟩:=zOl (zA HP2).1 hb3 hown3
   refine(first_m _ w2.heap.size w.heap.size (pls.map Rt.zAt) (Rt.zCg s) _ cs2 hms.prog (by simpa using hlen) (zA HFT).fwd).mono ?_
   rintro e w5 ⟨rfl,hb5⟩
   have h5:=hms.zH hb5
   have g6:=h5.c6
   have z6:=h5.fz 6
   have bR2:w2.heap[w.heap.size]?=some (.cells zFH 90 (0,0)):=by
    refine((zA HP2).2.block w.heap.size (by simp;omega) (fun e=>?_)).trans (zV bR1 _)
    have:=((zA HX).1.lt _ e.symm).1
    simp at this
    omega
   have hR2lt:=zJ bR2
   have bR5:=zK bR2 (hb24.trans (hb5.mono hb24.size))
   have hBw:Below w.heap.size w w5:=(zA HB2).2.trans ((hb24.trans (hb5.mono hb24.size)).mono (B':=w.heap.size) (zA HB2).2.size)
   have HFM:=zB (show Rt.firstM (zA1 s pls inp)=⟨[Rt.zEU],(pls.map Rt.zAt).map (fun p=>Rt.zA9 p.form),0,[],Rt.goOn (pls.map Rt.zAt) (Rt.zCg s) 102 (wrap64 (Rt.zAE (pls.map Rt.zAt) Rt.zy+1)),0⟩from rfl)
   have hin3:=hown3.lt
   generalize Rt.goOn (pls.map Rt.zAt) (Rt.zCg s) 102 (wrap64 (Rt.zAE (pls.map Rt.zAt) Rt.zy+1))=L at *
   have hA6:=(Aft.start h5 (Below.refl _ _)).own (m':=⟨[Rt.zEU],[],0,[],L,0⟩) 6 (.int .i64 L) (by simp[zAn]) rfl rfl rfl
   have bR6:=(Below.heap_setCell w5 ⟨w2.heap.size,6,none⟩ (.int .i64 L) w.heap.size (by show w.heap.size≠w2.heap.size;omega)).trans bR5
   have HB6:=zB (zt hBw (show w.heap.size≤w2.heap.size by omega) 6 (.int .i64 L))
   have HA6:=zB hA6
   have HR6:=zB bR6
   have hG0:∀k∈zDX ⟨.slice lad pls.length lcap,.slice vad inp.length vcap,.slice (some ⟨w3.heap.size,0,none⟩) 1 1,.slice none 0 0,.slice none 0 0,[.slice none 0 0],[],cs2⟩,w.heap.size≤k:=by
    intro k hk
    simp only[zDX,List.cons_append,List.nil_append,List.append_nil,List.mem_filterMap,List.mem_cons,List.not_mem_nil,or_false]at hk
    obtain⟨v,hv,hvk⟩:=hk
    rcases hv with rfl | rfl | rfl | rfl | rfl
    ·have:=(hin3 k hvk).1;omega
    ·simp[Value.ownBlock]at hvk;omega
    ·cases hvk
    ·cases hvk
    ·cases hvk
   have HG0:=zB hG0
   have hcells:∀p∈pls.map Rt.zAt,p.form.cells≤1000:=by
    intro p hp
    obtain⟨q,hq,rfl⟩:=List.mem_map.mp hp
    exact(zA HFT).cells q hq
   clear hown3 hb3 bM3 hms hb24 hb5 h5 bR2 bR5 hBw hA6 bR6 hG0 hin3 m0 m1 m2 m3 m4 m5 m6 m7 zM c2
   go_wp2_with fail
   refine(zNp _ w2.heap.size w.heap.size 90 [] ⟨pls.map Rt.zAt,Rt.zCg s,inp⟩ _ _ (zA HA6).mc rfl (by simpa using hlen) hcells).mono ?_
   rintro e w7 ⟨rfl,X7,hA7⟩
   have bR7:=Aft.keeps (zA HA6).mc hA7 (zA HR6) (by omega) (by decide)
   have h7:=hA7.mc
   obtain⟨la,lc,ia,ic,fa,fc,va,vc,oa,oc,q1,q2,q3,q4,q5⟩:=h7.shape
   have hb7:=h7.block
   rw[q1,q2,q3,q4,q5]at hb7
   obtain⟨x0,x1,x2,x3,x4,x5,x6,x7⟩:=zCQ hb7
   obtain⟨y0,y1,y2,y3,y4,y5,y6,y7⟩:=zCQ bR7
   have zR:=zI bR7
   have hRM:¬w.heap.size=w2.heap.size:=by omega
   have HMC:=zB (fun a b c d e f g i=>h7.eight bR7 hRM a b c d e f g i)
   have HBW:=zB (fun a b c d e f g i=>zN3 bR7 a b c d e f g i)
   have HB7:Hid (∀a b c d e f g i,Below w.heap.size w (W8 w7 w.heap.size a b c d e f g i)):=zB (fun a b c d e f g i=>zKj ⟨hA7.frm.os.trans (zA HB6).os,hA7.frm.tape.trans (zA HB6).tape,hA7.frm.output.trans (zA HB6).output,Nat.le_trans (zA HB6).size hA7.frm.size,fun k hk=>(hA7.frm.block k (Nat.lt_of_lt_of_le hk (zA HB6).size) (fun hm=>by
    rcases List.mem_cons.mp hm with rfl | hm
    ·omega
    ·have:=zA HG0 k hm;omega)).trans ((zA HB6).block k hk)⟩ (Nat.le_refl _) a b c d e f g i)
   have HG7:Hid (∀k∈zDX X7,w.heap.size≤k):=zB (fun k hk=>by
    rcases hA7.grow k hk with h' | h'
    ·exact zA HG0 k h'
    ·exact Nat.le_trans (zA HB6).size h')
   have HQ:=zB (show zAn X7 (Rt.firstM (zA1 s pls inp)) []=#[.slice la (pls.map Rt.zAt).length lc,.slice ia inp.length ic,.slice fa 1 fc,.slice va ((pls.map Rt.zAt).map (fun p=>Rt.zA9 p.form)).length vc,.int .i64 0,.slice oa 0 oc,.int .i64 L,.int .i64 0] by
    rw[zA HFM]
    simp only[zAn,q1,q2,q3,q4,q5]
    rfl)
   clear hA7 bR7 h7 hb7 q1 q2 q3 q4 q5 HA6 HR6 HG0
   go_wp2_with fail
   have HQ':zAn X7 (Rt.firstM (zA1 s pls inp)) []=#[.slice la pls.length lc,.slice ia inp.length ic,.slice fa 1 fc,.slice va pls.length vc,.int .i64 0,.slice oa 0 oc,.int .i64 L,.int .i64 0]:=by rw[zA HQ];simp
   have E:=zCQ (zA HBW (.slice la pls.length lc) (.slice ia inp.length ic) (.slice fa 1 fc) (.slice va pls.length vc) (.int .i64 0) (.slice oa 0 oc) (.int .i64 L) (.int .i64 0))
   refine bodyPost_ret (v:=.tuple #[.agg #[.slice la pls.length lc,.slice ia inp.length ic,.slice fa 1 fc,.slice va pls.length vc,.int .i64 0,.slice oa 0 oc,.int .i64 L,.int .i64 0],.int .i64 0,.int .i64 0]) ?_ rfl ⟨zA HB7 _ _ _ _ _ _ _ _,Or.inr ⟨by omega,0,0,pls,zA HR,Or.inr ⟨rfl,rfl,hlen,w2.heap.size,X7,by rw[HQ'],by omega,zA HG7,by rw[zA HFM];exact zA HMC _ _ _ _ _ _ _ _⟩⟩⟩
   obtain⟨E0,E1,E2,E3,E4,E5,E6,E7⟩:=E
   simp[results,Tryz.results49,go_sem,E0,E1,E2,E3,E4,E5,E6,E7]
end Go.Proofs.YthleadfkfnnadaaGreat
namespace Go.Proofs.YthleadfkfnnadaaGreat
namespace Rt
theorem zH9 {s:ByteArray} {pls:List PL} (h:zAY s=(0,0,pls)):zCB s=false∧(rForms 0 (lines s) [zPL]).1=0∧nestFrom ((rForms 0 (lines s) [zPL]).2.drop 1) 1 [] [zPL]=(0,pls,[])∧nameErr pls 1 (pls.drop 1)=0∧(zX pls zy).kind=3:=by
 unfold zAY at h
 split at h
 ·injection h with h _;omega
 ·next h0=>
  rw[zC1]at h
  split at h
  ·injection h with h _;omega
  ·next h1=>
   rw[zBn]at h
   split at h
   ·injection h with h _;omega
   ·next h2=>
    split at h
    ·injection h with h _;omega
    ·next h3=>
     rw[zA0]at h
     split at h
     ·injection h with h _;omega
     ·next h4=>
      split at h
      ·injection h with h _;omega
      ·next h5=>
       injection h with _ h
       injection h with _ h
       subst h
       exact⟨by simpa using h0,by omega,Prod.ext (by simpa using h2) (Prod.ext rfl (Decidable.not_not.mp h3)),Decidable.not_not.mp h4,Decidable.not_not.mp h5⟩
theorem zI9:Small zPL.form:=⟨by simp[zPL],by simp[zPL],by simp[zPL],by simp[zPL],by simp[zPL]⟩
theorem zGn {s:ByteArray} {pls:List PL} (h:zAY s=(0,0,pls)):(∀p∈pls,Small p.form)∧pls.length≤101∧(zCg s).length=pls.length:=by
 obtain⟨h1,h2,h3,_,_⟩:=zH9 h
 obtain⟨hz,hl⟩:=zGi h1
 obtain⟨a,b,rest,c⟩:=zDc (lines s) 0 [zPL] (rForms 0 (lines s) [zPL]).2 (zCk hz) (fun p hp=>by rw[List.mem_singleton.mp hp];exact zI9) (Prod.ext h2 rfl)
 obtain⟨d,e⟩:=zGs _ 1 [] [zPL] pls [] (fun p hp=>by rw[List.mem_singleton.mp hp];exact zI9) (fun p hp=>b p (List.mem_of_mem_drop hp)) h3 (by omega)
 rw[List.length_drop,a]at d
 simp only[List.length_singleton]at d
 refine⟨e,by omega,?_⟩
 unfold zCg
 rw[zNS,List.length_drop,a]
 simp only[List.length_singleton]
 omega
theorem zQQ {pls:List PL} {n:Nat} {p:PL} (h:(pls.map zAt)[n]?=some p):∃q,pls[n]?=some q∧p=zAt q:=by
 rw[List.getElem?_map]at h
 cases e:pls[n]? with
 | none=>rw[e]at h;cases h
 | some q=>rw[e]at h;injection h with h;exact⟨q,rfl,h.symm⟩
theorem zMv {s:ByteArray} {pls:List PL} (h:zAY s=(0,0,pls)):zLy (pls.map zAt) (zCg s):=by
 obtain⟨h1,h2,h3,_,_⟩:=zH9 h
 obtain⟨hz,hl⟩:=zGi h1
 obtain⟨a,b,rest,c⟩:=zDc (lines s) 0 [zPL] (rForms 0 (lines s) [zPL]).2 (zCk hz) (fun p hp=>by rw[List.mem_singleton.mp hp];exact zI9) (Prod.ext h2 rfl)
 have hf:=zQV h3 (by rw[List.length_drop,a];simp only[List.length_singleton];omega)
 intro n p hn hk
 obtain⟨q,hq,rfl⟩:=zQQ hn
 exact hf n q hq hk
end Rt
theorem zO4 {s:ByteArray} {pls:List Rt.PL} (h:Rt.zAY s=(0,0,pls)):Fit s pls:=
 ⟨(Rt.zGn h).2.2,Rt.zMv h,fun p hp=>by have:=((Rt.zGn h).1 p hp).cells;omega⟩
end Go.Proofs.YthleadfkfnnadaaGreat
namespace Go.Proofs.YthleadfkfnnadaaGreat
open Go.RowKit
namespace Rt
theorem zGt (pls:List PL) (n:Int):zB7 (pls.map zAt) n=zAt (zB7 pls n):=by
 unfold zB7
 split
 ·rfl
 ·rw[List.getElem?_map]
  cases pls[n.toNat]? <;> rfl
theorem zCY (pls:List PL) (n:Int):zT (pls.map zAt) n=zT pls n:=by
 unfold zT
 split
 ·rfl
 ·rw[List.getElem?_map]
  cases pls[n.toNat]? <;> rfl
theorem zFt (x:ByteArray):∀(ps:List PL) (n:Nat),declFrom n (ps.map zAt) x=declFrom n ps x
 | [],_=>rfl
 | p::r,n=>by
  rw[List.map_cons,declFrom,declFrom,zFt x r (n+1)]
  rfl
theorem zDQ (pls:List PL) (x:ByteArray):zAE (pls.map zAt) x=zAE pls x:=by
 unfold zAE
 rw[←List.map_drop,zFt]
theorem zMR (pls:List PL) (p:PL):zAK (pls.map zAt) (zAt p)=zAK pls p:=by
 unfold zAK
 rw[zCY]
 rfl
theorem zGy (pls:List PL) (lk:Lks):∀(f:Nat) (n:Int),goOn (pls.map zAt) lk f n=goOn pls lk f n
 | 0,_=>rfl
 | f+1,n=>by
  rw[goOn,goOn,List.length_map,zGt,zMR,zCY,zGy pls lk f,zGy pls lk f]
  rfl
end Rt
namespace Rf
open Rt
def zBJ (pls:List PL) (n:Int):Nat:=(zB7 pls n).proc.toNat
def frsOf (pls:List PL):List Fm→Int→List Fr
 | [],_=>[]
 | [f],n=>[⟨zBJ pls n,f.params,f.call⟩]
 | f::g::r,n=>⟨zBJ pls g.call,f.params,f.call⟩::frsOf pls (g::r) n
theorem zEC (pls:List PL):∀(fs:List Fm) (f:Fm) (n:Int),frsOf pls (fs++[f]) n=frsOf pls fs f.call++[⟨zBJ pls n,f.params,f.call⟩]
 | [],f,n=>rfl
 | [a],f,n=>rfl
 | a::b::r,f,n=>by
  have:=zEC pls (b::r) f n
  show (⟨zBJ pls b.call,a.params,a.call⟩::frsOf pls ((b::r)++[f]) n)=_
  rw[this]
  rfl
theorem zE9 (pls:List PL):∀(fs:List Fm) (n:Int),(frsOf pls fs n).length=fs.length
 | [],_=>rfl
 | [_],_=>rfl
 | a::b::r,n=>by
  show (frsOf pls (b::r) n).length+1=_
  rw[zE9 pls (b::r) n]
  rfl
theorem zKH {pls:List PL} {n n':Int} (h:zBJ pls n=zBJ pls n'):∀fs:List Fm,frsOf pls fs n=frsOf pls fs n'
 | []=>rfl
 | [f]=>by show [_]=[_];rw[h]
 | a::b::r=>by
  show _::frsOf pls (b::r) n=_::frsOf pls (b::r) n'
  rw[zKH h (b::r)]
def varsOf (pls:List PL) (vs:List (List Int)):List Int:=(List.range pls.length).map (fun l:Nat=>if (zT pls (l:Nat)).kind=1 then ((vs[l]?).getD []).headD 0 else 0)
def zEa (pls:List PL) (vs:List (List Int)):List (List Int):=(List.range pls.length).map (fun l:Nat=>if (zT pls (l:Nat)).kind=2 then (vs[l]?).getD []else [])
def zP (pls:List PL) (m:Mc):Pl:=⟨frsOf pls m.zD m.line,varsOf pls m.values,zEa pls m.values,m.taken.toNat,m.output,m.line,m.fin⟩
theorem zIJ (x:ByteArray) (xs:List ByteArray):∀f k,k+f=xs.length→indexFrom xs x f k=parNo k (xs.drop k) x
 | 0,k,h=>by rw[indexFrom,List.drop_eq_nil_of_le (by omega),parNo]
 | f+1,k,h=>by
  have hk:k < xs.length:=by omega
  rw[indexFrom,List.drop_eq_getElem_cons hk,parNo,zAi hk,zIJ x xs f (k+1) (by omega)]
structure Env (pls:List PL) (ls:List (List ByteArray)) (S:Rt.Src) (m:Mc):Prop where
 both:zCS pls ls
 zGl:S.pls=pls.map zAt
 ne:m.zD≠[]
 ok:zEb ls (zP pls m)
 here:∃d:Nat,∃hd:d < ls.length,(zB7 pls m.line).proc=(d:Int)+1∧((first ls[d]).toList==[112,114,111,99])=true
 zGO:m.values.map List.length=pls.map (fun p=>(zA9 p.form).length)
 law:Lawful ls
section
variable {pls : List PL} {ls : List (List ByteArray)} {S : Rt.Src} {m : Mc}
theorem zMP (h:m.zD≠[]):m.zD=m.zD.dropLast++[m.zD.getLastD zEU]:=by
 rw[List.getLastD_eq_getLast?,List.getLast?_eq_some_getLast h]
 exact(List.dropLast_concat_getLast h).symm
theorem zHI (h:m.zD≠[]):top (zP pls m)=⟨zBJ pls m.line,(m.zD.getLastD zEU).params,(m.zD.getLastD zEU).call⟩:=by
 unfold top zP
 simp only
 conv=>lhs;rw[zMP h]
 rw[zEC,List.length_append,List.length_singleton,Nat.add_sub_cancel,List.getD_eq_getElem?_getD,List.getElem?_append_right (Nat.le_refl _),Nat.sub_self]
 rfl
theorem Env.pars (E:Env pls ls S m):zDS ls (top (zP pls m)).proc=(zT S.pls (zAR S m)).params:=by
 obtain⟨d,hd,h1,h2⟩:=E.here
 have hp:zAR S m=(d:Int)+1:=by
  unfold zAR
  rw[E.zGl,zGt]
  exact h1
 rw[zHI E.ne,hp,E.zGl,zCY]
 have hn:zBJ pls m.line=d+1:=by unfold zBJ;rw[h1];omega
 have hf:=E.both.form hd
 have:=(zFX hf h2).2
 rw[show ((d+1:Nat):Int)=(d:Int)+1 by omega]at this
 rw[this]
 show zDS ls (zBJ pls m.line)=_
 rw[hn,zDS,Nat.add_sub_cancel,zr hd]
theorem zEe (E:Env pls ls S m):m.values.length=pls.length:=by
 have:=congrArg List.length E.zGO
 simpa using this
theorem vals_at (E:Env pls ls S m) {d:Nat} (hd:d < pls.length):((m.values[d]?).getD []).length=(zA9 (zT pls (d:Nat))).length:=by
 have h1:=zEe E
 have h2:=congrArg (fun l=>l[d]?) E.zGO
 simp only[List.getElem?_map]at h2
 rw[List.getElem?_eq_getElem (by omega),List.getElem?_eq_getElem hd]at h2
 rw[List.getElem?_eq_getElem (by omega),zT,if_neg (by omega),Int.toNat_natCast,List.getElem?_eq_getElem hd]
 simpa using h2
theorem zPM (E:Env pls ls S m) {d:Nat} (hd:d < pls.length) (hk:(zT pls (d:Nat)).kind=1):∃a,m.values[d]?=some [a]:=by
 have h1:=zEe E
 have h2:=vals_at E hd
 rw[List.getElem?_eq_getElem (by omega)]at h2 ⊢
 unfold zA9 at h2
 rw[if_pos hk]at h2
 simp only[Option.getD_some,List.length_replicate]at h2
 match hv:m.values[d],h2 with
 | [a],_=>exact⟨a,rfl⟩
theorem vars_get (m:Mc) {d:Nat} (hd:d < pls.length):(zP pls m).vars.getD d 0=if (zT pls (d:Nat)).kind=1 then ((m.values[d]?).getD []).headD 0 else 0:=by
 unfold zP varsOf
 rw[List.getD_eq_getElem?_getD,List.getElem?_map,List.getElem?_range hd]
 rfl
theorem zNs (m:Mc) {d:Nat} (hd:d < pls.length):(zP pls m).cells.getD d []=if (zT pls (d:Nat)).kind=2 then (m.values[d]?).getD []else []:=by
 unfold zP zEa
 rw[List.getD_eq_getElem?_getD,List.getElem?_map,List.getElem?_range hd]
 rfl
theorem zJI (E:Env pls ls S m) (x:ByteArray):decl ls x < pls.length:=by
 have:=E.both.len
 have:=zEG ls x
 omega
theorem zHk (E:Env pls ls S m) {x:ByteArray} (h:(zX pls x).kind≠0):0 < decl ls x:=by
 rcases E.both.zHl x with⟨_,h2⟩| ⟨h1,_⟩
 ·rw[h2]at h;exact absurd rfl h
 ·omega
theorem zNY {ps:List ByteArray} {x:ByteArray}:∀(i:Nat),parNo i ps x < 0→ps.any (fun y=>decide (y=x))=false:=by
 induction ps with
 | nil=>intro _ _;rfl
 | cons p r ih=>
  intro i h
  rw[parNo]at h
  split at h
  ·omega
  ·next hne=>rw[List.any_cons,ih (i+1) h,decide_eq_false hne];rfl
theorem value_eq (E:Env pls ls S m) {x:ByteArray} (hv:Rt.isVar pls (zAR S m) x=true):value ls (zP pls m) x=zCF m (zB6 S m x):=by
 have hp:=E.pars
 unfold value zB6
 rw[hp]
 have hi:index (zT S.pls (zAR S m)).params x=parNo 0 (zT S.pls (zAR S m)).params x:=by
  have:=zIJ x (zT S.pls (zAR S m)).params _ 0 (Nat.zero_add _)
  rw[List.drop_zero]at this
  exact this
 rw[hi]
 simp only
 have hpos:0 < m.zD.length:=List.length_pos_iff.mpr E.ne
 by_cases h0:0≤parNo 0 (zT S.pls (zAR S m)).params x
 ·rw[if_pos h0,if_pos h0,zHI E.ne]
  unfold zCF cellsOf
  simp only
  rw[if_neg (by omega),if_neg (by omega),if_pos ⟨by first | rfl | trivial,hpos⟩,List.getD_eq_getElem?_getD]
 ·rw[if_neg h0,if_neg h0,E.zGl,zDQ,E.both.zDZ]
  have hno:=zNY (ps:=(zT S.pls (zAR S m)).params) (x:=x) 0 (by omega)
  unfold Rt.isVar zGU at hv
  rw[E.zGl,zCY]at hno
  rw[hno,Bool.false_or,decide_eq_true_iff]at hv
  have hd:=zJI E x
  have hk:(zT pls ((decl ls x:Nat):Int)).kind=1:=by
   unfold zX at hv
   rw[E.both.zDZ]at hv
   exact hv
  obtain⟨a,ha⟩:=zPM E hd hk
  have hp0:=zHk E (x:=x) (by rw[hv];decide)
  have hvl:=zEe E
  rw[vars_get m hd,if_pos hk,ha]
  unfold zCF cellsOf
  simp only
  rw[if_neg (by omega),if_pos ⟨by omega,by omega⟩,Int.toNat_natCast,ha]
  rfl
theorem celE (E:Env pls ls S m) {x:ByteArray} (hv:Rt.zCN pls (zAR S m) x=true):(zP pls m).cells.getD (decl ls x) []=cellsOf m (zAE S.pls x:Nat)∧0 < decl ls x∧zAE S.pls x=decl ls x:=by
 have hd:=zJI E x
 unfold Rt.zCN at hv
 rw[Bool.and_eq_true,decide_eq_true_iff]at hv
 have hk:(zT pls ((decl ls x:Nat):Int)).kind=2:=by
  have:=hv.2
  unfold zX at this
  rw[E.both.zDZ]at this
  exact this
 have hp0:=zHk E (x:=x) (by rw[hv.2];decide)
 have hvl:=zEe E
 have he:zAE S.pls x=decl ls x:=by rw[E.zGl,zDQ,E.both.zDZ]
 rw[zNs m hd,if_pos hk,he]
 refine⟨?_,hp0,rfl⟩
 unfold cellsOf
 rw[if_pos ⟨by omega,by omega⟩,Int.toNat_natCast]
end
end Rf
end Go.Proofs.YthleadfkfnnadaaGreat
