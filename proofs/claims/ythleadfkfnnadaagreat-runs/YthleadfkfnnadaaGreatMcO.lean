/- The machine: a step. -/
import Derived.Test.YthleadfkfnnadaaGreatMcK
set_option maxHeartbeats 4000000
set_option maxRecDepth 100000
namespace Go.Proofs.YthleadfkfnnadaaGreat
open Go.RowKit
attribute [local go_sem ↓] Go.wp_at_zero Go.wp_at_succ
theorem zOD (inp:List Int) (X:McX) (m m':Rt.Mc) (h1:m'.zD=m.zD) (h2:m'.values=m.values) (h3:m'.output=m.output):rowsOf inp X m'=rowsOf inp X m:=by unfold rowsOf;rw[h1,h2,h3]
theorem Aft.own {M B:Nat} {ty:TypeId} {tail:List Value} {S:Rt.Src} {m m':Rt.Mc} {X X':McX} {w w':World} (h:Aft M B ty tail S X X' m w w') (i:Nat) (v:Value) (hb:(zAn X' m tail).setIfInBounds i v=zAn X' m' tail) (h1:m'.zD=m.zD) (h2:m'.values=m.values) (h3:m'.output=m.output):Aft M B ty tail S X X' m' w (w'.setCell ⟨M,i,none⟩ v):=by
 have hr:=zOD S.input X' m m' h1 h2 h3
 have hmc:=h.mc.step (m':=m') (X':=X') (Nat.le_refl _) rfl (fun _ _ hx _=>hx) i v hb (by rw[hr];exact h.mc.own) rfl rfl (by rw[h1];exact h.mc.fl) (by rw[h2];exact h.mc.vl)
 exact⟨hmc,h.frm.setM i v,h.grow,h.lt⟩
theorem zDy {M B:Nat} {ty:TypeId} {tail:List Value} {S:Rt.Src} {m m':Rt.Mc} {X:McX} {w w':World} (h:McS w M B ty tail S m X) {N:Nat} {c:Array Value} {t:TypeId} (hN:w.heap[N]?=some (.cells c t (0,0))) (hp:zG6 M B ty tail S m m' X w.drew w') (ht:t≠3∧t≠153∧t≠24):w'.heap[N]?=some (.cells c t (0,0)):=by
 have h1:w.drew.heap[N]?=some (.cells c t (0,0)):=hN
 exact(hp.2.block N (zJ h1) (zEh (w:=w.drew) (h.zH (zS w)).own h1 ht)).trans h1
theorem zP4 (m:Rt.Mc) (s:Rt.zEu) (v:Int):(Rt.zA4 m s v).taken=m.taken:=by
 unfold Rt.zA4
 split
 ·split <;> rfl
 ·rfl
structure zKq (M B:Nat) (ty:TypeId) (tail:List Value) (S:Rt.Src) (X:McX) (m:Rt.Mc) (sp:Rt.zEu) (iv:Int) (w:World) (O:Nat) (wy:World):Prop where
 aft:Aft M B ty tail S X X (Rt.zA4 m sp iv) w wy
 old:wy.heap[O]?=some (.cells #[.int .i64 4,.int .i64 0,.int .i64 sp.line,.int .i64 sp.cell,.int .i64 (Rt.zCF m sp)] 162 (0,0))
 res:wy.heap[w.heap.size+1]?=some (.cells #[.int .i64 0,.int .i64 0,.slice none 0 0] 157 (0,0))
 ne:w.heap.size+1 < O
theorem cutK {Goal:Prop} {F:Nat→World→Prop} {R:Code} {post:Exit→Act→World→Prop} {fr:Nat→Act} (main:(∀(O:Nat) (wy:World),F O wy→Code.wp Tryz.prog R post (fr O) wy)→Goal) (pf:∀(O:Nat) (wy:World),F O wy→Code.wp Tryz.prog R post (fr O) wy):Goal:=main pf
theorem zKq.one {M B:Nat} {ty:TypeId} {tail:List Value} {S:Rt.Src} {X:McX} {m:Rt.Mc} {sp:Rt.zEu} {iv:Int} {w w3 w4:World} (hh:McS w M B ty tail S m X) (h3:McS w3 M B ty tail S m X∧Below w.heap.size w w3∧w3.heap[w.heap.size+1]?=some (.cells #[.int .i64 0,.int .i64 0,.slice none 0 0] 157 (0,0))) (hp:zG6 M B ty tail S m (Rt.zA4 m sp iv) X w3.drew w4):zKq M B ty tail S X m sp iv w w4.heap.size (w4.alloc (.cells #[.int .i64 4,.int .i64 0,.int .i64 sp.line,.int .i64 sp.cell,.int .i64 (Rt.zCF m sp)] 162)):=by
 obtain⟨h3,hB,bR⟩:=h3
 have bR4:=zDy h3 bR hp (by decide)
 have hbx:=(Below.refl w4.heap.size w4).alloc (Nat.le_refl _) (.cells #[.int .i64 4,.int .i64 0,.int .i64 sp.line,.int .i64 sp.cell,.int .i64 (Rt.zCF m sp)] 162)
 exact⟨((Aft.start hh hB.drew).put hp).below hbx,heap_alloc_new _ _,zK bR4 hbx,zJ bR4⟩
theorem zKq.two {M B:Nat} {ty:TypeId} {tail:List Value} {S:Rt.Src} {X:McX} {m:Rt.Mc} {sp:Rt.zEu} {iv:Int} {w w3 w4:World} {O T:Nat} {bt:Array Value} (hh:McS w M B ty tail S m X) (h3:McS w3 M B ty tail S m X∧Below w.heap.size w w3∧w3.heap[w.heap.size+1]?=some (.cells #[.int .i64 0,.int .i64 0,.slice none 0 0] 157 (0,0))∧w3.heap[O]?=some (.cells #[.int .i64 0,.int .i64 0,.int .i64 0,.int .i64 0,.int .i64 0] 162 (0,0))∧w3.heap[T]?=some (.cells bt 160 (0,0))) (hO:w.heap.size+1 < O) (hp:zG6 M B ty tail S m (Rt.zA4 m sp iv) X w3.drew w4):zKq M B ty tail S X m sp iv w O (((((w4.setCell ⟨O,0,none⟩ (.int .i64 4)).setCell ⟨O,1,none⟩ (.int .i64 0)).setCell ⟨O,2,none⟩ (.int .i64 sp.line)).setCell ⟨O,3,none⟩ (.int .i64 sp.cell)).setCell ⟨O,4,none⟩ (.int .i64 (Rt.zCF m sp))):=by
 obtain⟨h3,hB,bR,bO,_⟩:=h3
 have bR4:=zDy h3 bR hp (by decide)
 have bO4:=zDy h3 bO hp (by decide)
 have n1:=zO bO4 0 (.int .i64 4)
 have n2:=zO n1 1 (.int .i64 0)
 have n3:=zO n2 2 (.int .i64 sp.line)
 have n4:=zO n3 3 (.int .i64 sp.cell)
 have n5:=zO n4 4 (.int .i64 (Rt.zCF m sp))
 have ht:¬PTy 162∧162≠3∧162≠153∧162≠24:=by unfold PTy;decide
 have hl:w.heap.size≤O:=by omega
 refine⟨((((((Aft.start hh hB.drew).put hp).aside bO4 hl ht _ _).aside n1 hl ht _ _).aside n2 hl ht _ _).aside n3 hl ht _ _).aside n4 hl ht _ _,by simpa using n5,?_,hO⟩
 repeat rw[Below.heap_setCell _ _ _ _ (by show w.heap.size+1≠O;omega)]
 exact bR4
theorem zOG (w:World) (M B:Nat) (ty:TypeId) (tail:List Value) (S:Rt.Src) (m:Rt.Mc) (X:McX) (fm:Rt.zAU) (a1 a2 a3:Option Addr) (c1 c2 c3:Nat) (h:McS w M B ty tail S m X) (hm:Mok S m) (hk:fm.kind=11) :
  Calls Tryz.prog 148 #[.pointer (some ⟨M,0,none⟩),.agg (fmA fm a1 a2 a3 c1 c2 c3)] w (zI2 M B ty tail S X (Rt.perform S m fm) w):=by
 have hbA:=((Below.refl w.heap.size w).alloc (Nat.le_refl _) (.cells (fmA fm a1 a2 a3 c1 c2 c3) 143)).alloc (by simp) (.cells #[.int .i64 0,.int .i64 0,.slice none 0 0] 157)
 have bF:=zV (heap_alloc_new w (.cells (fmA fm a1 a2 a3 c1 c2 c3) 143)) (.cells #[.int .i64 0,.int .i64 0,.slice none 0 0] 157)
 have bR:=zAG w (.cells (fmA fm a1 a2 a3 c1 c2 c3) 143) (.cells #[.int .i64 0,.int .i64 0,.slice none 0 0] 157)
 have hA:=h.zH hbA
 have HP:=zB (show Rt.perform S m fm=if m.taken < 0∨S.input.length≤m.taken then Rt.ended m 4 else ⟨0,wrap64 (m.line+1),[Rt.stay m.line,Rt.stored m (Rt.zB6 S m fm.name),⟨6,0,⟨0,0⟩,0⟩],{ Rt.zA4 m (Rt.zB6 S m fm.name) ((S.input[m.taken.toNat]?).getD 0)with taken:=wrap64 (m.taken+1) }⟩ by unfold Rt.perform;simp only;rw[if_neg (by omega),if_neg (by omega),if_neg (by omega),if_pos hk])
 have HH:=zB h
 have hMlt:=zJ h.block
 clear h hk
 go_enter Tryz.func148,Tryz.ntmps148
 go_wp2_with fail
 generalize (w.alloc (.cells (fmA fm a1 a2 a3 c1 c2 c3) 143)).alloc (.cells #[.int .i64 0,.int .i64 0,.slice none 0 0] 157)=wA at *
 have c4:=hA.c4
 have cI:=hA.c1
 obtain⟨iad,icap,hiv⟩:=zE hA.input
 have hil:=hm.input
 have k1:=zC bF 1 (by simp)
 simp at k1
 by_cases ht:m.taken < 0∨S.input.length≤m.taken
 ·replace HP:=zB ((zA HP).trans (if_pos ht))
  obtain⟨r0,r1,r2⟩:=zY bR
  have z:=zI bR
  have HA:=zB (And.intro (Aft.start (zA HH) hbA) bR)
  rw[hiv]at cI
  clear hA hbA bF hm bR
  have fin:∀(wz:World),Below wA.heap.size wA wz→∀a b c,Aft M B ty tail S X X m w (W3 wz (w.heap.size+1) a b c):=fun wz hb a b c=>((zA HA).1.below hb).three (zK (zA HA).2 hb) (by omega) (by unfold PTy;decide) a b c
  have HFin:=zB fin
  clear fin
  by_cases h0:m.taken < 0
  ·have h0':decide (m.taken < 0)=true:=by simpa using h0
   clear ht
   go_quiet (fail)
   go_wp2_with fail
   refine bodyPost_ret (v:=.agg #[.int .i64 4,.int .i64 0,.slice none 0 0]) ?_ rfl ⟨_,_,by rw[zA HP];rfl,by rw[zA HP];exact zA HFin _ (below_drewN _ _) _ _ _,by rw[zA HP];exact World.ownsRow_nil _ _ _ _⟩
   simp[results,Tryz.results148,go_sem,r0,r1,r2]
  ·have h0':decide (m.taken < 0)=false:=by simpa using h0
   have h1':(S.input.length:Int)≤m.taken:=by omega
   clear ht
   go_quiet (fail)
   go_wp2_with fail
   refine bodyPost_ret (v:=.agg #[.int .i64 4,.int .i64 0,.slice none 0 0]) ?_ rfl ⟨_,_,by rw[zA HP];rfl,by rw[zA HP];exact zA HFin _ (below_drewN _ _) _ _ _,by rw[zA HP];exact World.ownsRow_nil _ _ _ _⟩
   simp[results,Tryz.results148,go_sem,r0,r1,r2]
 ·replace HP:=zB ((zA HP).trans (if_neg ht))
  obtain⟨k,hk⟩:=Int.eq_ofNat_of_zero_le (show 0≤m.taken by omega)
  have hkl:k < S.input.length:=by omega
  obtain⟨g,gcap,hgv,_,hglt,ca⟩:=zW hA.input (j:=k) (u:=.int .i64 S.input[k]) (by simp[zz,hkl])
  rw[hgv]at cI
  rw[hk]at c4
  have HIn:=zB (show (S.input[m.taken.toNat]?).getD 0=S.input[k] by rw[hk];simp[hkl])
  rw[zA HIn]at HP
  have h0':decide ((k:Int) < 0)=false:=by simp
  have h0'':¬(k:Int) < 0:=by omega
  have h1':¬(S.input.length:Int)≤(k:Int):=by omega
  have h2':(k:Int) < (S.input.length:Int):=by omega
  have hk0:(0:Int)≤(k:Int):=by omega
  have HA:=zB (And.intro hA (And.intro hbA (And.intro bR bF)))
  have HM:=zB hm
  have HGV:=zB hgv
  have HKK:=zB hk
  have HIK:=zB (List.getElem?_eq_getElem hkl)
  clear hA hbA bF hm bR ht hiv hgv hk
  generalize S.input[k]=iv at *
  go_quiet (fail)
  go_wp2_with fail
  obtain⟨hA,hbA,bR,bF⟩:=zA HA
  refine(zJ3 _ M B ty tail S m X fm.name (hA.zH (below_drewN _ _)) (zA HM)).mono ?_
  rintro e w2 ⟨rfl,hb2⟩
  have hb2':Below wA.heap.size wA w2:=(below_drewN wA _).trans hb2
  clear hb2
  generalize Rt.zB6 S m fm.name=sp at *
  have hbF:=(Below.refl w2.heap.size w2).alloc (Nat.le_refl _) (.cells #[.int .i64 sp.line,.int .i64 sp.cell] 160)
  have hb3:Below wA.heap.size wA (w2.alloc (.cells #[.int .i64 sp.line,.int .i64 sp.cell] 160)):=hb2'.trans (hbF.mono (B':=wA.heap.size) hb2'.size)
  have h3:=hA.zH hb3
  have hB3:=hbA.trans (hb3.mono (B':=w.heap.size) hbA.size)
  have bR3:=zK bR hb3
  have x1:=cell_later hb3 cI
  have x4:=cell_later hb3 c4
  have xa:=cell_later hb3 ca
  have bT:=heap_alloc_new w2 (.cells #[.int .i64 sp.line,.int .i64 sp.cell] 160)
  have t0:=zC bT 0 (by simp)
  have t1:=zC bT 1 (by simp)
  simp only[List.getElem_toArray,List.getElem_cons_succ,List.getElem_cons_zero]at t0 t1
  clear hA hbA bR bF hb2' hbF hb3 cI c4 ca k1 HA
  go_wp2_with fail
  generalize w2.alloc (.cells #[.int .i64 sp.line,.int .i64 sp.cell] 160)=w3 at *
  generalize w2.heap.size=T at *
  have hwm:IntKind.i64.wrap (k:Int)=(k:Int):=by rw[IntWalk.i64_left,IntWalk.wrap64_in _ (by omega)]
  have hbB:=(Below.refl w3.heap.size w3).alloc (Nat.le_refl _) (.cells #[.int .i64 0,.int .i64 0,.int .i64 0,.int .i64 0,.int .i64 0] 162)
  have H3:=zB (And.intro h3 (And.intro hB3 bR3))
  have HBT:=zB bT
  have HQ:=zB (And.intro (h3.zH hbB) (And.intro (hB3.trans (hbB.mono (B':=w.heap.size) hB3.size)) (And.intro (zK bR3 hbB) (And.intro (heap_alloc_new w3 (.cells #[.int .i64 0,.int .i64 0,.int .i64 0,.int .i64 0,.int .i64 0] 162)) (zK bT hbB)))))
  have hTne:¬T=w3.heap.size:=by have:=zJ bT;omega
  have hMne:¬M=w3.heap.size:=by have:=zJ h3.block;omega
  have hgne:¬g=w3.heap.size:=by
   have h4:=h3.input
   rw[zA HGV]at h4
   have:=(h4.lt g rfl).2
   omega
  have hRne:¬w.heap.size+1=w3.heap.size:=by have:=zJ bR3;omega
  have hTlt:=zJ bT
  have hMlt3:=zJ h3.block
  have hglt3:g < w3.heap.size:=by
   have h4:=h3.input
   rw[zA HGV]at h4
   exact(h4.lt g rfl).2
  have hRlt3:=zJ bR3
  clear h3 hB3 bR3 bT hbB
  have hOlt:w.heap.size+1 < w3.heap.size:=hRlt3
  apply cutK (F:=zKq M B ty tail S X m sp iv w)
  ·intro HT
   have HT':=zB HT
   clear HT
   go_region_with (first | (go_at_call 181;refine(zF6 _ M B ty tail S m X sp iv ((zA H3).1.zH (zS _)) (zA HM)).mono ?_;rintro e w4 ⟨rfl,hp4⟩;have HR:=zB (zKq.one (zA HH) (zA H3) hp4);replace hp4:=zB hp4)| (go_at_call 181;refine(zF6 _ M B ty tail S m X sp iv ((zA HQ).1.zH (zS _)) (zA HM)).mono ?_;rintro e w4 ⟨rfl,hp4⟩;obtain⟨y0,y1,y2,y3,y4⟩:=zED (zDy (zA HQ).1 (zA HQ).2.2.2.1 hp4 (by decide));have yz:=zI (zDy (zA HQ).1 (zA HQ).2.2.2.1 hp4 (by decide));have HR:=zB (zKq.two (zA HH) (zA HQ) hOlt hp4)))
   all_goals
    rename_i hKK
    refine hKK _ _ ?_
    have HR':=zA HR
    revert HR'
    first
     | (generalize w4.alloc (.cells #[.int .i64 4,.int .i64 0,.int .i64 sp.line,.int .i64 sp.cell,.int .i64 (Rt.zCF m sp)] 162)=wy;generalize w4.heap.size=O)
     | (generalize ((((w4.setCell ⟨w3.heap.size,0,none⟩ (.int .i64 4)).setCell ⟨w3.heap.size,1,none⟩ (.int .i64 0)).setCell ⟨w3.heap.size,2,none⟩ (.int .i64 sp.line)).setCell ⟨w3.heap.size,3,none⟩ (.int .i64 sp.cell)).setCell ⟨w3.heap.size,4,none⟩ (.int .i64 (Rt.zCF m sp))=wy;generalize w3.heap.size=O)
    intro HR'
    exact zA HT' _ _ HR'
  ·intro O wy hR
   obtain⟨hA4,bO,bR4,hOR⟩:=hR
   have c4:=hA4.mc.c4
   rw[zP4,zA HKK]at c4
   have f4:=hA4.mc.fz 4
   have hMO:M≠O:=by have:=hA4.lt;omega
   have hMR:M≠w.heap.size+1:=by have:=hA4.lt;omega
   have hA5:=hA4.own (m':={ Rt.zA4 m sp iv with taken:=wrap64 (m.taken+1) }) 4 (.int .i64 (wrap64 (m.taken+1))) (by simp[zAn]) rfl rfl rfl
   have hw1:wrap64 ((k:Int)+1)=(k:Int)+1:=IntWalk.wrap64_in _ (by omega)
   rw[zA HKK,hw1]at hA5 HP
   have bO5:=(Below.heap_setCell wy ⟨M,4,none⟩ (.int .i64 ((k:Int)+1)) O (Ne.symm hMO)).trans bO
   have bR5:=(Below.heap_setCell wy ⟨M,4,none⟩ (.int .i64 ((k:Int)+1)) _ (Ne.symm hMR)).trans bR4
   have HRc:=zB (show Rt.stored m sp=⟨4,0,sp,Rt.zCF m sp⟩from rfl)
   generalize Rt.zCF m sp=old at *
   obtain⟨p0,p1,p2,p3,p4⟩:=zED bO5
   have c6:=hA5.mc.c6
   have HL:=zB (zJl m sp iv)
   rw[show ({ Rt.zA4 m sp iv with taken:=(k:Int)+1 }:Rt.Mc).line=m.line from zA HL]at c6
   have HA5:=zB (And.intro hA5 bR5)
   clear hw1 hA4 bO bR4 hA5 bR5 bO5 x1 x4 xa t0 t1 hTne hMne hgne hRne hTlt hMlt3 hglt3 hRlt3 hOlt
   go_wp2_with fail
   generalize wy.setCell ⟨M,4,none⟩ (.int .i64 ((k:Int)+1))=w5 at *
   clear c4 f4
   go_region_held3 (fun w'=>w'.cell? ⟨M,6,none⟩=some (.int .i64 m.line)∧w'.cell? ⟨O,0,none⟩=some (.int .i64 4)∧w'.cell? ⟨O,1,none⟩=some (.int .i64 0)∧w'.cell? ⟨O,2,none⟩=some (.int .i64 sp.line)∧w'.cell? ⟨O,3,none⟩=some (.int .i64 sp.cell)∧w'.cell? ⟨O,4,none⟩=some (.int .i64 old)) (go_keep) (fail)
   obtain⟨hA5,bR5⟩:=zA HA5
   have hb6:=((Below.refl w5.heap.size w5).alloc (Nat.le_refl _) (.cells #[.int .i64 1,.int .i64 m.line,.int .i64 0,.int .i64 0,.int .i64 0,.int .i64 4,.int .i64 0,.int .i64 sp.line,.int .i64 sp.cell,.int .i64 old,.int .i64 6,.int .i64 0,.int .i64 0,.int .i64 0,.int .i64 0] 162)).drew
   have bQ:(w5.alloc (.cells #[.int .i64 1,.int .i64 m.line,.int .i64 0,.int .i64 0,.int .i64 0,.int .i64 4,.int .i64 0,.int .i64 sp.line,.int .i64 sp.cell,.int .i64 old,.int .i64 6,.int .i64 0,.int .i64 0,.int .i64 0,.int .i64 0] 162)).drew.heap[w5.heap.size]?=_:=heap_alloc_new w5 (.cells #[.int .i64 1,.int .i64 m.line,.int .i64 0,.int .i64 0,.int .i64 0,.int .i64 4,.int .i64 0,.int .i64 sp.line,.int .i64 sp.cell,.int .i64 old,.int .i64 6,.int .i64 0,.int .i64 0,.int .i64 0,.int .i64 0] 162)
   have hA6:=hA5.below hb6
   have bR6:=zK bR5 hb6
   have c6':=hA6.mc.c6
   rw[show ({ Rt.zA4 m sp iv with taken:=(k:Int)+1 }:Rt.Mc).line=m.line from zA HL]at c6'
   have hQ:=hA5.frm.size
   have hQlt:=zJ bQ
   have hRlt:=zJ bR5
   clear hA5 bR5 hb6 HA5 c6 p0 p1 p2 p3 p4
   generalize (w5.alloc (.cells #[.int .i64 1,.int .i64 m.line,.int .i64 0,.int .i64 0,.int .i64 0,.int .i64 4,.int .i64 0,.int .i64 sp.line,.int .i64 sp.cell,.int .i64 old,.int .i64 6,.int .i64 0,.int .i64 0,.int .i64 0,.int .i64 0] 162)).drew=w6 at *
   generalize w5.heap.size=q at *
   obtain⟨r0,r1,r2⟩:=zY bR6
   have z:=zI bR6
   have HF:=zB (fun a b c=>And.intro (hA6.three bR6 (by omega) (by unfold PTy;decide) a b c) (zMC 3 bQ (show q≠w.heap.size+1 by omega) hQ a b c rfl (by omega)))
   clear hA6 bR6 bQ
   go_wp2_with fail
   refine bodyPost_ret (v:=.agg #[.int .i64 0,.int .i64 (wrap64 (m.line+1)),.slice (some ⟨q,0,none⟩) 3 3]) ?_ rfl ⟨_,_,by rw[zA HP],by rw[zA HP];exact(zA HF _ _ _).1,by rw[zA HP,zA HRc];exact(zA HF _ _ _).2⟩
   simp[results,Tryz.results148,go_sem,r0,r1,r2]
theorem setCell_any (w:World) (M B:Nat) (ty:TypeId) (tail:List Value) (S:Rt.Src) (m:Rt.Mc) (X:McX) (BB:Nat) (fm:Rt.zAU) (a1 a2 a3:Option Addr) (c1 c2 c3:Nat) (h:McS w M B ty tail S m X) (hm:Mok S m) (hf:zAd w BB (fmA fm a1 a2 a3 c1 c2 c3) fm) (hsm:Rt.Small fm) (hops:∀o∈fm.values,o.length≤900) (hk:fm.kind=9) (hix:fm.index.length≤900) :
  Calls Tryz.prog 146 #[.pointer (some ⟨M,0,none⟩),.agg (fmA fm a1 a2 a3 c1 c2 c3)] w (zI2 M B ty tail S X (Rt.perform S m fm) w):=by
 have hbA:=((Below.refl w.heap.size w).alloc (Nat.le_refl _) (.cells (fmA fm a1 a2 a3 c1 c2 c3) 143)).alloc (by simp) (.cells #[.int .i64 0,.int .i64 0,.slice none 0 0] 157)
 have bF:=zV (heap_alloc_new w (.cells (fmA fm a1 a2 a3 c1 c2 c3) 143)) (.cells #[.int .i64 0,.int .i64 0,.slice none 0 0] 157)
 have bR:=zAG w (.cells (fmA fm a1 a2 a3 c1 c2 c3) 143) (.cells #[.int .i64 0,.int .i64 0,.slice none 0 0] 157)
 have hA:=h.zH hbA
 have hfA:=zCO hf hbA
 have HP:=zB (show Rt.perform S m fm=if (Rt.zN S m fm.index).2=0 then (if (Rt.zBR S m fm).2=0 then (match Rt.zBW S m fm.name (Rt.zN S m fm.index).1 with | none=>Rt.ended m 3 | some s=>⟨0,wrap64 (m.line+1),[Rt.stay m.line,Rt.stored m s],Rt.zA4 m s (Rt.zBR S m fm).1⟩)else Rt.ended m (Rt.zBR S m fm).2)else Rt.ended m (Rt.zN S m fm.index).2 by unfold Rt.perform;simp only;rw[if_neg (by omega),if_pos hk];rfl)
 have HH:=zB h
 clear h hf hk
 go_enter Tryz.func146,Tryz.ntmps146
 go_wp2_with fail
 have hI:(((w.alloc (.cells (fmA fm a1 a2 a3 c1 c2 c3) 143)).alloc (.cells #[.int .i64 0,.int .i64 0,.slice none 0 0] 157)).ownsRow BB 236 3 (.slice a2 fm.index.length c2) fm.index.length (zAB fm.index)):=by
  obtain⟨pv,iv,vv,vs,hfe,_,q2,_,_⟩:=hfA
  have:iv=.slice a2 fm.index.length c2:=by simp at hfe;exact hfe.2.1.symm
  rw[←this];exact q2
 refine(zFD _ M B ty tail S m X BB a2 c2 fm.index hA hm hI hix).mono ?_
 rintro e w0 ⟨rfl,hb0⟩
 have hB0:=hbA.trans (hb0.mono (B':=w.heap.size) (by simp;omega))
 have bF0:=zK bF hb0
 have bR0:=zK bR hb0
 have h0:=hA.zH hb0
 have hf0:=zCO hfA hb0
 clear hA hfA hbA bF bR hb0 hI
 generalize Rt.zN S m fm.index=ix at *
 obtain⟨ix1,ix2⟩:=ix
 simp only at HP
 by_cases hx:ix2=0
 case neg=>
  replace HP:=zB ((zA HP).trans (if_neg hx))
  have bv:(ix2 != 0)=true:=by simpa using hx
  obtain⟨r0,r1,r2⟩:=zY bR0
  have z:=zI bR0
  have HF:=zB (fun a b c=>(Aft.start (zA HH) hB0).three bR0 (by omega) (by unfold PTy;decide) a b c)
  clear h0 hB0 bF0 bR0 hx hm hops hsm hf0
  go_wp2_with fail
  refine bodyPost_ret (v:=.agg #[.int .i64 ix2,.int .i64 0,.slice none 0 0]) ?_ rfl ⟨_,_,by rw[zA HP];rfl,by rw[zA HP];exact zA HF _ _ _,by rw[zA HP];exact World.ownsRow_nil _ _ _ _⟩
  simp[results,Tryz.results146,go_sem,r0,r1,r2]
 subst hx
 replace HP:=zB ((zA HP).trans (if_pos rfl))
 have f0:=zC bF0 0 (by simp)
 have f1:=zC bF0 1 (by simp)
 have f2:=zC bF0 2 (by simp)
 have f3:=zC bF0 3 (by simp)
 have f4:=zC bF0 4 (by simp)
 have f5:=zC bF0 5 (by simp)
 simp only[List.getElem_toArray,List.getElem_cons_succ,List.getElem_cons_zero]at f0 f1 f2 f3 f4 f5
 go_wp2_with fail
 refine(zF3 _ M B ty tail S m X BB fm a1 a2 a3 c1 c2 c3 h0 hm hf0 hsm hops).mono ?_
 rintro e w1 ⟨rfl,hb1⟩
 have hB1:=hB0.trans (hb1.mono (B':=w.heap.size) hB0.size)
 have bF1:=zK bF0 hb1
 have bR1:=zK bR0 hb1
 have k1:=zC bF1 1 (by simp)
 simp at k1
 have h1:=h0.zH hb1
 clear h0 hf0 hB0 bF0 bR0 hb1 f0 f1 f2 f3 f4 f5
 generalize Rt.zBR S m fm=v at *
 obtain⟨v1,v2⟩:=v
 simp only at HP
 by_cases hv:v2=0
 ·subst hv
  replace HP:=zB ((zA HP).trans (if_pos rfl))
  go_wp2_with fail
  refine(zLU _ M B ty tail S m X fm.name ix1 h1 hm).mono ?_
  rintro e w2 ⟨rfl,hb2⟩
  have hB2:=hB1.trans (hb2.mono (B':=w.heap.size) hB1.size)
  have h2:=h1.zH hb2
  have bR2:=zK bR1 hb2
  clear h1 hb2 hB1 bF1 bR1 k1
  cases hc:Rt.zBW S m fm.name ix1 with
  | none=>
   rw[hc]at HP
   have hbF:=(Below.refl w2.heap.size w2).alloc (Nat.le_refl _) (.cells #[.int .i64 0,.int .i64 0] 160)
   have hRlt:=zJ bR2
   have hne1:¬w.heap.size+1=w2.heap.size:=by omega
   have hne2:¬w2.heap.size=w.heap.size+1:=by omega
   obtain⟨r0,r1,r2⟩:=zY bR2
   have z:=zI bR2
   have HF:=zB (fun a b c=>((Aft.start (zA HH) hB2).three bR2 (by omega) (by unfold PTy;decide) a b c).below ((Below.refl _ _).alloc (Nat.le_refl _) (.cells #[.int .i64 0,.int .i64 0] 160)))
   have HG:=zB (fun a b c:Value=>zY (zV (zFx bR2 a b c) (.cells #[.int .i64 0,.int .i64 0] 160)))
   clear h2 hB2 bR2 hc hm hops hsm hbF
   simp only[cellR]
   go_wp2_with fail
   refine bodyPost_ret (v:=.agg #[.int .i64 3,.int .i64 0,.slice none 0 0]) ?_ rfl ⟨_,_,by rw[zA HP];rfl,by rw[zA HP];exact zA HF _ _ _,by rw[zA HP];exact World.ownsRow_nil _ _ _ _⟩
   have E:=zA HG (.int .i64 3) (.int .i64 0) (.slice none 0 0)
   revert E
   generalize (W3 w2 (w.heap.size+1) (.int .i64 3) (.int .i64 0) (.slice none 0 0)).alloc (.cells #[.int .i64 0,.int .i64 0] 160)=wz
   intro E
   simp[results,Tryz.results146,go_sem,E.1,E.2.1,E.2.2]
  | some sp=>
  rw[hc]at HP
  clear hc
  simp only[cellR]
  have hb3:=(Below.refl w2.heap.size w2).alloc (Nat.le_refl _) (.cells #[.int .i64 sp.line,.int .i64 sp.cell] 160)
  have h3:=h2.zH hb3
  have hB3:=hB2.trans (hb3.mono (B':=w.heap.size) hB2.size)
  have bR3:=zK bR2 hb3
  have bT3:=heap_alloc_new w2 (.cells #[.int .i64 sp.line,.int .i64 sp.cell] 160)
  clear h2 hb3 hB2 bR2
  go_wp2_with fail
  refine(zF6 _ M B ty tail S m X sp v1 h3 hm).mono ?_
  rintro e w4 ⟨rfl,hp4⟩
  have hA4:=(Aft.start (zA HH) hB3).put hp4
  have bR4:=(hp4.2.block _ (zJ bR3) (zEh h3.own bR3 (by decide))).trans bR3
  clear h3 hB3 bR3 bT3 hp4
  have HRc:=zB (show Rt.stored m sp=⟨4,0,sp,Rt.zCF m sp⟩from rfl)
  generalize Rt.zCF m sp=old at *
  have hb5:=(Below.refl w4.heap.size w4).alloc (Nat.le_refl _) (.cells #[.int .i64 4,.int .i64 0,.int .i64 sp.line,.int .i64 sp.cell,.int .i64 old] 162)
  have hA5:=hA4.below hb5
  have bR5:=zK bR4 hb5
  have bO5:=heap_alloc_new w4 (.cells #[.int .i64 4,.int .i64 0,.int .i64 sp.line,.int .i64 sp.cell,.int .i64 old] 162)
  have c6:=hA5.mc.c6
  have HL:=zB (show (Rt.zA4 m sp v1).line=m.line from zJl m sp v1)
  rw[zA HL]at c6
  have HA5:=zB (And.intro hA5 bR5)
  obtain⟨p0,p1,p2,p3,p4⟩:=zED bO5
  clear hA4 hA5 bR4 bR5 hb5 bO5
  go_wp2_with fail
  generalize w4.alloc (.cells #[.int .i64 4,.int .i64 0,.int .i64 sp.line,.int .i64 sp.cell,.int .i64 old] 162)=w5 at *
  generalize w4.heap.size=O at *
  go_region_held3 (fun w'=>w'.cell? ⟨M,6,none⟩=some (.int .i64 m.line)∧w'.cell? ⟨O,0,none⟩=some (.int .i64 4)∧w'.cell? ⟨O,1,none⟩=some (.int .i64 0)∧w'.cell? ⟨O,2,none⟩=some (.int .i64 sp.line)∧w'.cell? ⟨O,3,none⟩=some (.int .i64 sp.cell)∧w'.cell? ⟨O,4,none⟩=some (.int .i64 old)) (go_keep) (fail)
  obtain⟨hA5,bR5⟩:=zA HA5
  have hb6:=((Below.refl w5.heap.size w5).alloc (Nat.le_refl _) (.cells #[.int .i64 1,.int .i64 m.line,.int .i64 0,.int .i64 0,.int .i64 0,.int .i64 4,.int .i64 0,.int .i64 sp.line,.int .i64 sp.cell,.int .i64 old] 162)).drew
  have bQ:(w5.alloc (.cells #[.int .i64 1,.int .i64 m.line,.int .i64 0,.int .i64 0,.int .i64 0,.int .i64 4,.int .i64 0,.int .i64 sp.line,.int .i64 sp.cell,.int .i64 old] 162)).drew.heap[w5.heap.size]?=_:=heap_alloc_new w5 (.cells #[.int .i64 1,.int .i64 m.line,.int .i64 0,.int .i64 0,.int .i64 0,.int .i64 4,.int .i64 0,.int .i64 sp.line,.int .i64 sp.cell,.int .i64 old] 162)
  have hA6:=hA5.below hb6
  have bR6:=zK bR5 hb6
  have c6':=hA6.mc.c6
  rw[zA HL]at c6'
  have hQ:=hA5.frm.size
  have hQlt:=zJ bQ
  have hRlt:=zJ bR5
  clear hA5 bR5 hb6 HA5 c6 p0 p1 p2 p3 p4
  generalize (w5.alloc (.cells #[.int .i64 1,.int .i64 m.line,.int .i64 0,.int .i64 0,.int .i64 0,.int .i64 4,.int .i64 0,.int .i64 sp.line,.int .i64 sp.cell,.int .i64 old] 162)).drew=w6 at *
  generalize w5.heap.size=q at *
  obtain⟨r0,r1,r2⟩:=zY bR6
  have z:=zI bR6
  have HF:=zB (fun a b c=>And.intro (hA6.three bR6 (by omega) (by unfold PTy;decide) a b c) (zMC 2 bQ (show q≠w.heap.size+1 by omega) hQ a b c rfl (by omega)))
  clear hA6 bR6 bQ
  go_wp2_with fail
  refine bodyPost_ret (v:=.agg #[.int .i64 0,.int .i64 (wrap64 (m.line+1)),.slice (some ⟨q,0,none⟩) 2 2]) ?_ rfl ⟨_,_,by rw[zA HP],by rw[zA HP];exact(zA HF _ _ _).1,by rw[zA HP,zA HRc];exact(zA HF _ _ _).2⟩
  simp[results,Tryz.results146,go_sem,r0,r1,r2]
 ·replace HP:=zB ((zA HP).trans (if_neg hv))
  have bv:(v2 != 0)=true:=by simpa using hv
  obtain⟨r0,r1,r2⟩:=zY bR1
  have z:=zI bR1
  have HF:=zB (fun a b c=>(Aft.start (zA HH) hB1).three bR1 (by omega) (by unfold PTy;decide) a b c)
  clear h1 hB1 bF1 bR1 k1 hv hm hops hsm
  go_wp2_with fail
  refine bodyPost_ret (v:=.agg #[.int .i64 v2,.int .i64 0,.slice none 0 0]) ?_ rfl ⟨_,_,by rw[zA HP];rfl,by rw[zA HP];exact zA HF _ _ _,by rw[zA HP];exact World.ownsRow_nil _ _ _ _⟩
  simp[results,Tryz.results146,go_sem,r0,r1,r2]
theorem Aft.from {M B:Nat} {ty:TypeId} {tail:List Value} {S:Rt.Src} {m m':Rt.Mc} {X X':McX} {w w1 w':World} (hm:McS w M B ty tail S m X) (hb:Below w.heap.size w w1) (h:Aft M B ty tail S X X' m' w1 w'):Aft M B ty tail S X X' m' w w':=
 ⟨h.mc,(Frm.zD0 _ hb).trans h.frm (zCz.refl _ _),fun k hk=>by rcases h.grow k hk with h' | h';exact Or.inl h';exact Or.inr (Nat.le_trans hb.size h'),zJ hm.block⟩
theorem zNU (w:World) (M B:Nat) (ty:TypeId) (tail:List Value) (S:Rt.Src) (m:Rt.Mc) (X:McX) (h:McS w M B ty tail S m X) (hf:m.zD.length < 2) :
  Calls Tryz.prog 151 #[.pointer (some ⟨M,0,none⟩)] w (zI2 M B ty tail S X (Rt.ended m 1) w):=by
 have hbA:=(Below.refl w.heap.size w).alloc (Nat.le_refl _) (.cells #[.int .i64 0,.int .i64 0,.slice none 0 0] 157)
 have c2:=h.c2
 obtain⟨fad,fcap,hfv⟩:=zE h.zD
 rw[hfv]at c2
 have HH:=zB h
 have hMlt:=zJ h.block
 clear h hfv
 have hw:IntKind.i64.wrap ((m.zD.length:Int)-1)=(m.zD.length:Int)-1:=by rw[IntWalk.i64_left,IntWalk.wrap64_in _ (by omega)]
 have hlt:(m.zD.length:Int)-1 < 1:=by omega
 generalize m.zD.length=n at *
 go_enter Tryz.func151,Tryz.ntmps151
 go_wp2_with fail
 have HF:=zB ((Aft.start (zA HH) ((Below.refl w.heap.size w).alloc (Nat.le_refl _) (.cells #[.int .i64 1,.int .i64 0,.slice none 0 0] 157))))
 have E:=zY (heap_alloc_new w (.cells #[.int .i64 1,.int .i64 0,.slice none 0 0] 157))
 refine bodyPost_ret (v:=.agg #[.int .i64 1,.int .i64 0,.slice none 0 0]) ?_ rfl ⟨_,_,rfl,zA HF,World.ownsRow_nil _ _ _ _⟩
 revert E
 generalize w.alloc (.cells #[.int .i64 1,.int .i64 0,.slice none 0 0] 157)=wz
 intro E
 simp[results,Tryz.results151,go_sem,E.1,E.2.1,E.2.2]
theorem Aft.keeps {M B:Nat} {ty:TypeId} {tail:List Value} {S:Rt.Src} {m m':Rt.Mc} {X X':McX} {w w':World} (hm:McS w M B ty tail S m X) (h:Aft M B ty tail S X X' m' w w') {N:Nat} {c:Array Value} {t:TypeId} (hN:w.heap[N]?=some (.cells c t (0,0))) (hne:N≠M) (ht:t≠3∧t≠153∧t≠24):w'.heap[N]?=some (.cells c t (0,0)):=by
 refine(h.frm.block N (zJ hN) (fun hk=>?_)).trans hN
 rcases List.mem_cons.mp hk with hk | hk
 ·exact hne hk
 ·rw[←hm.zAJ]at hk
  exact zEh hm.own hN ht hk
theorem zI2.held {M B:Nat} {ty:TypeId} {tail:List Value} {S:Rt.Src} {m:Rt.Mc} {X X':McX} {o:Rt.Out} {w w1 w4:World} {R:Nat} {v0 v1 v2 rv:Value} (hmc:McS w M B ty tail S m X) (hb:Below w.heap.size w w1) (hR:w1.heap[R]?=some (.cells #[v0,v1,v2] 157 (0,0))) (hle:w.heap.size≤R) (ha:Aft M B ty tail S X X' o.m w1 w4) (ho:w4.ownsRow w1.heap.size 162 5 rv o.zHF.length (zDi o.zHF)) :
  w4.heap[R]?=some (.cells #[v0,v1,v2] 157 (0,0))∧∀a b c,zI2 M B ty tail S X o w (.returned (.agg #[.int .i64 o.fin,.int .i64 o.next,rv])) (W3 w4 R a b c):=by
 have hlt:=zJ hmc.block
 have h4:=Aft.keeps (hmc.zH hb) ha hR (by omega) (by decide)
 refine⟨h4,fun a b c=>⟨rv,X',rfl,(Aft.from hmc hb ha).three h4 hle (by unfold PTy;decide) a b c,?_⟩⟩
 refine zAZ (zh ho hb.size) (fun g hg=>?_)
 have:=(ho.lt g hg).1
 have:=zJ hR
 exact zFw _ _ _ _ _ _ (by omega)
def StepP (M B:Nat) (ty:TypeId) (tail:List Value) (S:Rt.Src) (X:McX) (m:Rt.Mc) (w:World) (e:Ending) (w':World):Prop:=
 ∃rv X',e=.returned rv∧Aft M B ty tail S X X' (Rt.zAI S m).1 w w'∧w'.ownsRow w.heap.size 162 5 rv (Rt.zAI S m).2.length (zDi (Rt.zAI S m).2)
theorem zK0 (S:Rt.Src) (m:Rt.Mc) (f:Rt.zAU) (h:(Rt.perform S m f).fin≠0):(Rt.perform S m f).m=m:=by
 unfold Rt.perform at h ⊢
 simp only at h ⊢
 repeat' split at h
 all_goals first | rfl | exact absurd rfl h | skip
 all_goals simp_all [Rt.ended]
theorem zGe (x:Int):-9223372036854775808≤wrap64 x∧wrap64 x≤9223372036854775807:=by unfold wrap64;omega
theorem zKx (S:Rt.Src) (m:Rt.Mc) (f:Rt.zAU):-9223372036854775808≤(Rt.perform S m f).next∧(Rt.perform S m f).next≤9223372036854775807:=by
 have h0:(-9223372036854775808:Int)≤0∧(0:Int)≤9223372036854775807:=by omega
 unfold Rt.perform
 simp only
 repeat' split
 all_goals first | exact h0 | exact zGe _ | skip
 all_goals
  unfold Rt.zBj
  split
  all_goals exact zGe _
theorem zLG (n:Nat) (w:World) (B:Nat) (cs:Array Value) (hB:B≤w.heap.size) (hn:cs.size=n*5) (h1:n≤1000):(w.alloc (.cells cs 162)).ownsRow B 162 5 (.slice (some ⟨w.heap.size,0,none⟩) n n) n cs.toList:=by
 refine⟨by simp[hn],Or.inr ⟨w.heap.size,n,cs,rfl,hB,heap_alloc_new w _,Nat.le_refl _,by unfold maxLen;omega,hn,?_⟩⟩
 exact List.take_of_length_le (by simp[hn])
theorem cutL {Goal:Prop} {F:Nat→Option Addr→Option Addr→Option Addr→Option Addr→Nat→Nat→Nat→Nat→World→Prop} {R:Code} {post:Exit→Act→World→Prop} {fr:Nat→Option Addr→Option Addr→Option Addr→Option Addr→Nat→Nat→Nat→Nat→Act} (main:(∀O a0 a1 a2 a3 c0 c1 c2 c3 wy,F O a0 a1 a2 a3 c0 c1 c2 c3 wy→Code.wp Tryz.prog R post (fr O a0 a1 a2 a3 c0 c1 c2 c3) wy)→Goal) (pf:∀O a0 a1 a2 a3 c0 c1 c2 c3 wy,F O a0 a1 a2 a3 c0 c1 c2 c3 wy→Code.wp Tryz.prog R post (fr O a0 a1 a2 a3 c0 c1 c2 c3) wy):Goal:=main pf
structure zKo (B:Nat) (fm:Rt.zAU) (w:World) (O:Nat) (a1 a2 a3:Option Addr) (c1 c2 c3:Nat) (wy:World):Prop where
 below:Below w.heap.size w wy
 form:wy.heap[O]?=some (.cells (fmA fm a1 a2 a3 c1 c2 c3) 143 (0,0))
 fv:zAd wy B (fmA fm a1 a2 a3 c1 c2 c3) fm
 le:w.heap.size≤O
theorem zKo.one {B:Nat} {fm:Rt.zAU} {w w1:World} {a1 a2 a3:Option Addr} {c1 c2 c3:Nat} (hb:Below w.heap.size w w1) (hf:zAd w1 B (fmA fm a1 a2 a3 c1 c2 c3) fm):zKo B fm w w1.heap.size a1 a2 a3 c1 c2 c3 (w1.alloc (.cells (fmA fm a1 a2 a3 c1 c2 c3) 143)):=by
 have hbx:=(Below.refl w1.heap.size w1).alloc (Nat.le_refl _) (.cells (fmA fm a1 a2 a3 c1 c2 c3) 143)
 exact⟨hb.trans (hbx.mono (B':=w.heap.size) hb.size),heap_alloc_new _ _,zCO hf hbx,hb.size⟩
theorem zKo.two {B:Nat} {fm:Rt.zAU} {w w1:World} {O:Nat} {v0 v1 v2 v3 v4 v5:Value} {a1 a2 a3:Option Addr} {c1 c2 c3:Nat} (hb:Below w.heap.size w w1) (hO:w1.heap[O]?=some (.cells #[v0,v1,v2,v3,v4,v5] 143 (0,0))) (hf:zAd w1 B (fmA fm a1 a2 a3 c1 c2 c3) fm) (hle:w.heap.size≤O):zKo B fm w O a1 a2 a3 c1 c2 c3 (W6 w1 O (.int .i64 fm.kind) (.string fm.name) (.int .i64 fm.cells) (.slice a1 fm.params.length c1) (.slice a2 fm.index.length c2) (.slice a3 fm.values.length c3)):=by
 refine⟨zEH hb hle _ _ _ _ _ _,?_,?_,hle⟩
 ·have:=zO (zO (zO (zO (zO (zO hO 0 (.int .i64 fm.kind)) 1 (.string fm.name)) 2 (.int .i64 fm.cells)) 3 (.slice a1 fm.params.length c1)) 4 (.slice a2 fm.index.length c2)) 5 (.slice a3 fm.values.length c3)
  simpa using this
 ·exact zGd hf hO _ _ _ _ _ _
end Go.Proofs.YthleadfkfnnadaaGreat
