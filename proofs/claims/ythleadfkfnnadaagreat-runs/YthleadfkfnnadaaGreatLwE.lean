/- The law: scripts of runs. -/
import Derived.Test.YthleadfkfnnadaaGreatMcG
import Derived.Test.YthleadfkfnnadaaGreatLwB
set_option maxHeartbeats 4000000
set_option maxRecDepth 100000
namespace Go.Proofs.YthleadfkfnnadaaGreat
open Go.RowKit
attribute [local go_sem ↓] Go.wp_at_zero Go.wp_at_succ
def zDX (X:McX):List Nat:=([X.iv,X.fv,X.vv,X.ov]++(X.fps++X.vps)).filterMap Value.ownBlock
theorem zJP:∀(a:List Value) (b:List (List Int)),a.length=b.length→zAJ (List.zipWith zQ a b)=a.filterMap Value.ownBlock
 | [],[],_=>rfl
 | [],_::_,h=>by simp at h
 | _::_,[],h=>by simp at h
 | x::a,y::b,h=>by
  rw[List.zipWith_cons_cons,zBY,zJP a b (by simpa using h),List.filterMap_cons]
  show (match x.ownBlock with | none=>_ | some g=>_)=_
  cases x.ownBlock <;> rfl
theorem McS.zAJ {w:World} {M B:Nat} {ty:TypeId} {tail:List Value} {S:Rt.Src} {m:Rt.Mc} {X:McX} (h:McS w M B ty tail S m X):zAJ (rowsOf S.input X m)=zDX X:=by
 unfold rowsOf zDX
 rw[zA7,zA7,zJP _ _ (by simp[h.fl]),zJP _ _ h.vl,List.filterMap_append,List.filterMap_append]
 rfl
structure Aft (M B:Nat) (ty:TypeId) (tail:List Value) (S:Rt.Src) (X X':McX) (m':Rt.Mc) (w w':World):Prop where
 mc:McS w' M B ty tail S m' X'
 frm:Frm w w' (M::zDX X)
 grow:zCz w (zDX X) (zDX X')
 lt:M < w.heap.size
theorem Aft.start {M B:Nat} {ty:TypeId} {tail:List Value} {S:Rt.Src} {m:Rt.Mc} {X:McX} {w w':World} (h:McS w M B ty tail S m X) (hb:Below w.heap.size w w'):Aft M B ty tail S X X m w w':=⟨h.zH hb,Frm.zD0 _ hb,zCz.refl _ _,zJ h.block⟩
theorem Aft.below {M B:Nat} {ty:TypeId} {tail:List Value} {S:Rt.Src} {m:Rt.Mc} {X X':McX} {w w1 w2:World} (h:Aft M B ty tail S X X' m w w1) (hb:Below w1.heap.size w1 w2):Aft M B ty tail S X X' m w w2:=
 ⟨h.mc.zH hb,h.frm.trans (Frm.zD0 [] hb) (fun _ h=>by cases h),h.grow,h.lt⟩
theorem Aft.put {M B:Nat} {ty:TypeId} {tail:List Value} {S:Rt.Src} {m m2:Rt.Mc} {X X':McX} {w w1 w2:World} (h:Aft M B ty tail S X X' m w w1) (hp:zG6 M B ty tail S m m2 X' w1 w2):Aft M B ty tail S X X' m2 w w2:=by
 refine⟨hp.1,h.frm.trans hp.2 ?_,h.grow,h.lt⟩
 rw[h.mc.zAJ]
 intro k hk
 rcases h.grow k hk with h' | h'
 ·exact Or.inl (List.mem_cons_of_mem _ h')
 ·exact Or.inr h'
theorem Aft.aside {M B:Nat} {ty:TypeId} {tail:List Value} {S:Rt.Src} {m:Rt.Mc} {X X':McX} {w w':World} (h:Aft M B ty tail S X X' m w w') {N:Nat} {cs:Array Value} {t:TypeId} (hN:w'.heap[N]?=some (.cells cs t (0,0))) (hlt:w.heap.size≤N) (ht:¬PTy t∧t≠3∧t≠153∧t≠24) (i:Nat) (v:Value):Aft M B ty tail S X X' m w (w'.setCell ⟨N,i,none⟩ v):=by
 have hlt2:=h.lt
 refine⟨h.mc.aside hN (by omega) ht i v,⟨h.frm.os,h.frm.tape,h.frm.output,Nat.le_trans h.frm.size (by simp[World.setCell]),fun k hk hn=>?_⟩,h.grow,h.lt⟩
 rw[Below.heap_setCell w' ⟨N,i,none⟩ v k (by show k≠N;omega)]
 exact h.frm.block k hk hn
abbrev W3 (w:World) (N:Nat) (a b c:Value):World:=((w.setCell ⟨N,0,none⟩ a).setCell ⟨N,1,none⟩ b).setCell ⟨N,2,none⟩ c
theorem Aft.three {M B:Nat} {ty:TypeId} {tail:List Value} {S:Rt.Src} {m:Rt.Mc} {X X':McX} {w w':World} (h:Aft M B ty tail S X X' m w w') {N:Nat} {cs:Array Value} {t:TypeId} (hN:w'.heap[N]?=some (.cells cs t (0,0))) (hlt:w.heap.size≤N) (ht:¬PTy t∧t≠3∧t≠153∧t≠24) (a b c:Value):Aft M B ty tail S X X' m w (W3 w' N a b c):=by
 have n1:=zO hN 0 a
 have n2:=zO n1 1 b
 exact((h.aside hN hlt ht 0 a).aside n1 hlt ht 1 b).aside n2 hlt ht 2 c
def zDi (rs:List Rt.Rec):List Value:=rs.flatMap Rt.recCells
def zI2 (M B:Nat) (ty:TypeId) (tail:List Value) (S:Rt.Src) (X:McX) (o:Rt.Out) (w:World) (e:Ending) (w':World):Prop:=
 ∃rv X',e=.returned (.agg #[.int .i64 o.fin,.int .i64 o.next,rv])∧Aft M B ty tail S X X' o.m w w'∧w'.ownsRow w.heap.size 162 5 rv o.zHF.length (zDi o.zHF)
abbrev fmA (fm:Rt.zAU) (a1 a2 a3:Option Addr) (c1 c2 c3:Nat):Array Value:=#[.int .i64 fm.kind,.string fm.name,.int .i64 fm.cells,.slice a1 fm.params.length c1,.slice a2 fm.index.length c2,.slice a3 fm.values.length c3]
theorem zY {w:World} {N:Nat} {t:TypeId} {v0 v1 v2:Value} (h:w.heap[N]?=some (.cells #[v0,v1,v2] t (0,0))) :
  w.cell? ⟨N,0,none⟩=some v0∧w.cell? ⟨N,1,none⟩=some v1∧w.cell? ⟨N,2,none⟩=some v2:=
 ⟨zC h 0 (by simp),zC h 1 (by simp),zC h 2 (by simp)⟩
theorem zCO {w w':World} {BB:Nat} {v:Array Value} {fm:Rt.zAU} (h:zAd w BB v fm) (hb:Below w.heap.size w w'):zAd w' BB v fm:=(zAD (B:=BB) hb).form h
theorem W3_size (w:World) (N:Nat) (a b c:Value):(W3 w N a b c).heap.size=w.heap.size:=by simp[World.setCell]
theorem zJC (n:Nat) (w:World) (B R:Nat) (cs:Array Value) (hB:B≤w.heap.size) (a b c:Value) (hn:cs.size=n*5) (h1:n≤1000):((W3 w R a b c).alloc (.cells cs 162)).ownsRow B 162 5 (.slice (some ⟨w.heap.size,0,none⟩) n n) n cs.toList:=by
 have hq:=heap_alloc_new (W3 w R a b c) (.cells cs 162)
 rw[W3_size]at hq
 refine⟨by simp[hn],Or.inr ⟨w.heap.size,n,cs,rfl,hB,hq,Nat.le_refl _,by unfold maxLen;omega,hn,?_⟩⟩
 exact List.take_of_length_le (by simp[hn])
theorem zFx {w:World} {R:Nat} {x y z:Value} {t:TypeId} (h:w.heap[R]?=some (.cells #[x,y,z] t (0,0))) (a b c:Value):(W3 w R a b c).heap[R]?=some (.cells #[a,b,c] t (0,0)):=by
 have:=zO (zO (zO h 0 a) 1 b) 2 c
 simpa using this
theorem zJl (m:Rt.Mc) (s:Rt.zEu) (v:Int):(Rt.zA4 m s v).line=m.line:=by
 unfold Rt.zA4
 split
 ·split <;> rfl
 ·rfl
theorem zFw (w:World) (N:Nat) (a b c:Value) (k:Nat) (hk:k≠N):(W3 w N a b c).heap[k]?=w.heap[k]?:=by
 simp only[W3]
 repeat rw[Below.heap_setCell _ _ _ _ hk]
theorem zMC {w:World} {B q R:Nat} (n:Nat) {cs:Array Value} (hq:w.heap[q]?=some (.cells cs 162 (0,0))) (hne:q≠R) (hB:B≤q) (a b c:Value) (hn:cs.size=n*5) (h1:n≤1000):(W3 w R a b c).ownsRow B 162 5 (.slice (some ⟨q,0,none⟩) n n) n cs.toList:=by
 refine⟨by simp[hn],Or.inr ⟨q,n,cs,rfl,hB,by rw[zFw _ _ _ _ _ _ hne];exact hq,Nat.le_refl _,by unfold maxLen;omega,hn,?_⟩⟩
 exact List.take_of_length_le (by simp[hn])
theorem zMs (w:World) (M B:Nat) (ty:TypeId) (tail:List Value) (S:Rt.Src) (m:Rt.Mc) (X:McX) (BB:Nat) (fm:Rt.zAU) (a1 a2 a3:Option Addr) (c1 c2 c3:Nat) (h:McS w M B ty tail S m X) (hm:Mok S m) (hf:zAd w BB (fmA fm a1 a2 a3 c1 c2 c3) fm) (hsm:Rt.Small fm) (hops:∀o∈fm.values,o.length≤900) (hk:fm.kind=8) :
  Calls Tryz.prog 145 #[.pointer (some ⟨M,0,none⟩),.agg (fmA fm a1 a2 a3 c1 c2 c3)] w (zI2 M B ty tail S X (Rt.perform S m fm) w):=by
 have hbA:=((Below.refl w.heap.size w).alloc (Nat.le_refl _) (.cells (fmA fm a1 a2 a3 c1 c2 c3) 143)).alloc (by simp) (.cells #[.int .i64 0,.int .i64 0,.slice none 0 0] 157)
 have bF:=zV (heap_alloc_new w (.cells (fmA fm a1 a2 a3 c1 c2 c3) 143)) (.cells #[.int .i64 0,.int .i64 0,.slice none 0 0] 157)
 have bR:=zAG w (.cells (fmA fm a1 a2 a3 c1 c2 c3) 143) (.cells #[.int .i64 0,.int .i64 0,.slice none 0 0] 157)
 have hA:=h.zH hbA
 have hfA:=zCO hf hbA
 have HP:=zB (show Rt.perform S m fm=if (Rt.zBR S m fm).2=0 then ⟨0,wrap64 (m.line+1),[Rt.stay m.line,Rt.stored m (Rt.zB6 S m fm.name)],Rt.zA4 m (Rt.zB6 S m fm.name) (Rt.zBR S m fm).1⟩else Rt.ended m (Rt.zBR S m fm).2 by unfold Rt.perform;simp only;rw[if_pos hk])
 have HH:=zB h
 clear h hf hk
 go_enter Tryz.func145,Tryz.ntmps145
 go_wp2_with fail
 refine(zF3 _ M B ty tail S m X BB fm a1 a2 a3 c1 c2 c3 hA hm hfA hsm hops).mono ?_
 rintro e w1 ⟨rfl,hb1⟩
 have hB1:=hbA.trans (hb1.mono (B':=w.heap.size) (by simp;omega))
 have bF1:=zK bF hb1
 have bR1:=zK bR hb1
 have k1:=zC bF1 1 (by simp)
 simp at k1
 have h1:=hA.zH hb1
 clear hA hfA hbA bF bR hb1
 generalize Rt.zBR S m fm=v at *
 obtain⟨v1,v2⟩:=v
 simp only at HP
 by_cases hv:v2=0
 ·subst hv
  replace HP:=zB ((zA HP).trans (if_pos rfl))
  go_wp2_with fail
  refine(zJ3 _ M B ty tail S m X fm.name h1 hm).mono ?_
  rintro e w2 ⟨rfl,hb2⟩
  have hB2:=hB1.trans (hb2.mono (B':=w.heap.size) hB1.size)
  have h2:=h1.zH hb2
  have bR2:=zK bR1 hb2
  clear h1 hb2 hB1 bF1 bR1 k1
  have hb3:=(Below.refl w2.heap.size w2).alloc (Nat.le_refl _) (.cells #[.int .i64 (Rt.zB6 S m fm.name).line,.int .i64 (Rt.zB6 S m fm.name).cell] 160)
  have h3:=h2.zH hb3
  have hB3:=hB2.trans (hb3.mono (B':=w.heap.size) hB2.size)
  have bR3:=zK bR2 hb3
  have bT3:=heap_alloc_new w2 (.cells #[.int .i64 (Rt.zB6 S m fm.name).line,.int .i64 (Rt.zB6 S m fm.name).cell] 160)
  clear h2 hb3 hB2 bR2
  generalize Rt.zB6 S m fm.name=sp at *
  go_wp2_with fail
  refine(zF6 _ M B ty tail S m X sp v1 h3 hm).mono ?_
  rintro e w4 ⟨rfl,hp4⟩
  have hA4:=(Aft.start (zA HH) hB3).put hp4
  have bR4:=(hp4.2.block _ (zJ bR3) (zEh h3.own bR3 (by decide))).trans bR3
  clear h3 hB3 bR3 bT3 hp4
  have HRc:=zB (show Rt.stored m sp=⟨4,0,sp,Rt.zCF m sp⟩from rfl)
  generalize Rt.zCF m sp=old at *
  have hb5:=(Below.refl w4.heap.size w4).alloc (Nat.le_refl _) (.cells #[.int .i64 4,.int .i64 0,.int .i64 sp.line,.int .i64 sp.cell,.int .i64 old] 162)
  have hA5:=hA4.below hb5
  have bR5:=zK bR4 hb5
  have bO5:=heap_alloc_new w4 (.cells #[.int .i64 4,.int .i64 0,.int .i64 sp.line,.int .i64 sp.cell,.int .i64 old] 162)
  have c6:=hA5.mc.c6
  have HL:=zB (show (Rt.zA4 m sp v1).line=m.line from zJl m sp v1)
  rw[zA HL]at c6
  have HA5:=zB (And.intro hA5 bR5)
  obtain⟨p0,p1,p2,p3,p4⟩:=zED bO5
  clear hA4 hA5 bR4 bR5 hb5 bO5
  go_wp2_with fail
  generalize w4.alloc (.cells #[.int .i64 4,.int .i64 0,.int .i64 sp.line,.int .i64 sp.cell,.int .i64 old] 162)=w5 at *
  generalize w4.heap.size=O at *
  go_region_held3 (fun w'=>w'.cell? ⟨M,6,none⟩=some (.int .i64 m.line)∧w'.cell? ⟨O,0,none⟩=some (.int .i64 4)∧w'.cell? ⟨O,1,none⟩=some (.int .i64 0)∧w'.cell? ⟨O,2,none⟩=some (.int .i64 sp.line)∧w'.cell? ⟨O,3,none⟩=some (.int .i64 sp.cell)∧w'.cell? ⟨O,4,none⟩=some (.int .i64 old)) (go_keep) (fail)
  obtain⟨hA5,bR5⟩:=zA HA5
  have hb6:=((Below.refl w5.heap.size w5).alloc (Nat.le_refl _) (.cells #[.int .i64 1,.int .i64 m.line,.int .i64 0,.int .i64 0,.int .i64 0,.int .i64 4,.int .i64 0,.int .i64 sp.line,.int .i64 sp.cell,.int .i64 old] 162)).drew
  have bQ:(w5.alloc (.cells #[.int .i64 1,.int .i64 m.line,.int .i64 0,.int .i64 0,.int .i64 0,.int .i64 4,.int .i64 0,.int .i64 sp.line,.int .i64 sp.cell,.int .i64 old] 162)).drew.heap[w5.heap.size]?=_:=heap_alloc_new w5 (.cells #[.int .i64 1,.int .i64 m.line,.int .i64 0,.int .i64 0,.int .i64 0,.int .i64 4,.int .i64 0,.int .i64 sp.line,.int .i64 sp.cell,.int .i64 old] 162)
  have hA6:=hA5.below hb6
  have bR6:=zK bR5 hb6
  have c6':=hA6.mc.c6
  rw[zA HL]at c6'
  have hQ:=hA5.frm.size
  have hQlt:=zJ bQ
  have hRlt:=zJ bR5
  clear hA5 bR5 hb6 HA5 c6 p0 p1 p2 p3 p4
  generalize (w5.alloc (.cells #[.int .i64 1,.int .i64 m.line,.int .i64 0,.int .i64 0,.int .i64 0,.int .i64 4,.int .i64 0,.int .i64 sp.line,.int .i64 sp.cell,.int .i64 old] 162)).drew=w6 at *
  generalize w5.heap.size=q at *
  obtain⟨r0,r1,r2⟩:=zY bR6
  have z:=zI bR6
  have HF:=zB (fun a b c=>And.intro (hA6.three bR6 (by omega) (by unfold PTy;decide) a b c) (zMC 2 bQ (show q≠w.heap.size+1 by omega) hQ a b c rfl (by omega)))
  clear hA6 bR6 bQ
  go_wp2_with fail
  refine bodyPost_ret (v:=.agg #[.int .i64 0,.int .i64 (wrap64 (m.line+1)),.slice (some ⟨q,0,none⟩) 2 2]) ?_ rfl ⟨_,_,by rw[zA HP],by rw[zA HP];exact(zA HF _ _ _).1,by rw[zA HP,zA HRc];exact(zA HF _ _ _).2⟩
  simp[results,Tryz.results145,go_sem,r0,r1,r2]
 ·replace HP:=zB ((zA HP).trans (if_neg hv))
  have bv:(v2 != 0)=true:=by simpa using hv
  obtain⟨r0,r1,r2⟩:=zY bR1
  have z:=zI bR1
  have HF:=zB (fun a b c=>(Aft.start (zA HH) hB1).three bR1 (by omega) (by unfold PTy;decide) a b c)
  clear h1 hB1 bF1 bR1 k1 hv hm hops hsm
  go_wp2_with fail
  refine bodyPost_ret (v:=.agg #[.int .i64 v2,.int .i64 0,.slice none 0 0]) ?_ rfl ⟨_,_,by rw[zA HP];rfl,by rw[zA HP];exact zA HF _ _ _,by rw[zA HP];exact World.ownsRow_nil _ _ _ _⟩
  simp[results,Tryz.results145,go_sem,r0,r1,r2]
end Go.Proofs.YthleadfkfnnadaaGreat
namespace Go.Proofs.YthleadfkfnnadaaGreat
open Go.RowKit
structure zG5 where
 fin:Int
 steps:Int
 out:List Int
 err:Int
 at_:Int
def zGc (r:zG5) (w:World) (e:Ending) (w':World):Prop:=Below w.heap.size w w'∧∃v,e=.returned (.tuple #[.agg #[.int .i64 r.fin,.int .i64 r.steps,v],.int .i64 r.err,.int .i64 r.at_])∧w'.ownsRow w.heap.size 3 1 v r.out.length (ints r.out)
def zFz (r:zG5) (w:World) (e:Ending) (w':World):Prop:=Below w.heap.size w w'∧∃v,e=.returned (.tuple #[.int .i64 r.fin,.int .i64 r.steps,v,.int .i64 r.err,.int .i64 r.at_])∧zBP w' v r.out
def StepG (S:Nat) (pv:Value) (vs:List Value) (w:World) (e:Ending) (w':World):Prop:=e=.returned (.bool true)∧Below S w w'∧∃lv' vs',LG w' S pv lv' vs'∧vs'.length≤vs.length+2
theorem zP1 {w:World} {B:Nat} {v:Value} {l:List Int} (h:w.ownsRow B 3 1 v l.length (ints l)):zBP w v l:=by
 obtain⟨ad,cap,rfl⟩:=zE h
 by_cases e:l=[]
 ·exact⟨ad,cap,rfl,Or.inl e⟩
 ·have hp:0 < l.length:=List.length_pos_iff.mpr e
  obtain⟨g,c,hv,_⟩:=zNc h hp
  injection hv with h1 h2 h3
  subst h1 h3
  refine⟨some ⟨g,0,none⟩,cap,rfl,Or.inr ⟨g,0,rfl,fun j hj=>?_⟩⟩
  obtain⟨g',c',hv',hc⟩:=zNc h hj
  injection hv' with h1 _ _
  injection h1 with h1
  injection h1 with h1
  subst h1
  rw[Nat.zero_add]
  exact hc
theorem ran_ref (r:zG5) (s:ByteArray) (l:List Int) (fuel:Int) (hro:r.out.length≤1000) (HP:∀(w:World) (v:Value),zBP w v l→Calls Tryz.prog 25 #[.string s,v,.int .i64 fuel] w (zGc r w)) (HR:∀(w:World) (v:Value),zBP w v l→Calls Tryz.prog 27 #[.string s,v,.int .i64 fuel] w (zFz r w))
  (w:World) (S:Nat) (pv lv:Value) (vs:List Value) (k b c:Value) (v:Value) (h:LG w S pv lv vs) (hi:zBP w v l) (hl:l.length≤17592186044416) (hlen:(vs.length+2)*24≤140737488355328) :
  Calls Tryz.prog 14 #[.pointer (some ⟨S,0,none⟩),.agg #[k,.int .i64 fuel,b,c,.string s,v]] w (StepG S pv vs w):=by
 have HH:=zB h
 have HI:=zB hi
 have hSlt:=zJ h.block
 have HPP:=zB HP
 have HRR:=zB HR
 obtain⟨ad,ca,rfl⟩:=hi.form
 have hb0:=(Below.refl w.heap.size w).alloc (Nat.le_refl _) (.cells #[k,.int .i64 fuel,b,c,.string s,.slice ad l.length ca] 32)
 have hn0:=heap_alloc_new w (.cells #[k,.int .i64 fuel,b,c,.string s,.slice ad l.length ca] 32)
 have HB0:=zB (And.intro hb0 hn0)
 clear h hi HP HR hb0 hn0
 have HC:Hid (∀w',Below (w.alloc (.cells #[k,.int .i64 fuel,b,c,.string s,.slice ad l.length ca] 32)).heap.size (w.alloc (.cells #[k,.int .i64 fuel,b,c,.string s,.slice ad l.length ca] 32)) w'→w'.cell? ⟨w.heap.size,1,none⟩=some (.int .i64 fuel)∧w'.cell? ⟨w.heap.size,4,none⟩=some (.string s)∧w'.cell? ⟨w.heap.size,5,none⟩=some (.slice ad l.length ca)):=zB (fun w' hb=>by
  have hh:=zK (zA HB0).2 hb
  exact⟨zC hh 1 (by simp),zC hh 4 (by simp),zC hh 5 (by simp)⟩)
 go_enter Tryz.func14,Tryz.ntmps14
 go_wp2_with fail
 refine(zO1 _ _ l ((zA HI).zH (zA HB0).1) hl).mono ?_
 generalize w.alloc (.cells #[k,.int .i64 fuel,b,c,.string s,.slice ad l.length ca] 32)=wa at *
 rintro e w1 ⟨hb1,g,hgl,rfl,hg1⟩
 obtain⟨c1,c4,c5⟩:=zA HC _ hb1
 have hglt:=zJ hg1
 have HB1:=zB (And.intro hb1 hg1)
 clear hb1 hg1
 go_wp2_with fail
 refine(zA HPP _ _ (zKE (zA HB1).2 _)).mono ?_
 rintro e w2 ⟨hb2,v2,rfl,ho2⟩
 obtain⟨a2,d2,rfl⟩:=zE ho2
 have HB2:=zB (And.intro ((zA HB1).1.trans (hb2.mono (B':=wa.heap.size) (zA HB1).1.size)) (And.intro (zK (zA HB1).2 hb2) ho2))
 have hsz2:=hb2.size
 have hwa:=zJ (zA HB0).2
 have hwa2:=(zA HB1).1.size
 have hbr:=(Below.refl w2.heap.size w2).alloc (Nat.le_refl _) (.cells #[.int .i64 r.fin,.int .i64 r.steps,.slice a2 r.out.length d2] 52)
 have hnr:=heap_alloc_new w2 (.cells #[.int .i64 r.fin,.int .i64 r.steps,.slice a2 r.out.length d2] 52)
 obtain⟨e1,e4,e5⟩:=zA HC _ ((zA HB2).1.trans (hbr.mono (B':=wa.heap.size) (by omega)))
 have HB3:=zB (And.intro ((zA HB2).1.trans (hbr.mono (B':=wa.heap.size) (by omega))) (And.intro (zK (zA HB2).2.1 hbr) (And.intro (zZ (zA HB2).2.2 hbr) hnr)))
 clear hb2 ho2 c1 c4 c5 hbr hnr
 go_wp2_with fail
 refine(zPr _ _ g l (zA HB3).2.1 ((zA HI).zH ((zA HB0).1.trans ((zA HB3).1.mono (B':=w.heap.size) (by omega)))) hl).mono ?_
 generalize w2.alloc (.cells #[.int .i64 r.fin,.int .i64 r.steps,.slice a2 r.out.length d2] 52)=wb at *
 rintro e w4 ⟨rfl,hb4⟩
 have hbw4:=(zA HB3).1.trans (hb4.mono (B':=wa.heap.size) (zA HB3).1.size)
 clear e1 e4 e5
 obtain⟨e1,e4,e5⟩:=zA HC _ hbw4
 have HB4:=zB (And.intro hbw4 (And.intro (zK (zA HB3).2.1 hb4) (And.intro (zZ (zA HB3).2.2.1 hb4) (zK (zA HB3).2.2.2 hb4))))
 clear hb4 hbw4
 go_wp2_with fail
 refine(zA HRR _ _ ((zA HI).zH ((zA HB0).1.trans ((zA HB4).1.mono (B':=w.heap.size) (by omega))))).mono ?_
 rintro e w5 ⟨hb5,v5,rfl,hi5⟩
 obtain⟨a5,d5,rfl⟩:=hi5.form
 have hbw5:=(zA HB4).1.trans (hb5.mono (B':=wa.heap.size) (zA HB4).1.size)
 have hR5:=zK (zA HB4).2.2.2 hb5
 obtain⟨r0,r1,r2⟩:=zY hR5
 have HB5:=zB (And.intro hbw5 (And.intro (zK (zA HB4).2.1 hb5) (And.intro (zZ (zA HB4).2.2.1 hb5) (And.intro hR5 hi5))))
 clear hb5 hbw5 e1 e4 e5 hR5 hi5
 go_wp2_with fail
 refine(zIa _ _ _ r.out (zP1 (zA HB5).2.2.1) (zA HB5).2.2.2.2 (by omega)).mono ?_
 rintro e w6 ⟨rfl,hb6⟩
 have hbw6:=(zA HB5).1.trans (hb6.mono (B':=wa.heap.size) (zA HB5).1.size)
 have hg6:=zK (zA HB5).2.1 hb6
 have ho6:=zZ (zA HB5).2.2.1 hb6
 have hR6:=zK (zA HB5).2.2.2.1 hb6
 have hL6:=(zA HH).zH ((zA HB0).1.trans (hbw6.mono (B':=w.heap.size) (by omega)))
 clear r0 r1 r2 hb6
 have hlv6:∀q,lv.ownBlock=some q→q < w.heap.size:=fun q hq=>((zA HH).own.lt q hq).2
 have hvs6:∀k (hk:k < vs.length) q,vs[k].ownBlock=some q→q < w.heap.size:=fun k hk q hq=>((zA HH).lt k hk q hq).2
 have HX6:=zB (And.intro hbw6 (And.intro hg6 (And.intro ho6 (And.intro hR6 (And.intro hL6 (And.intro hlv6 hvs6))))))
 clear hbw6 hg6 ho6 hR6 hL6 hlv6 hvs6
 go_wp2_with fail
 refine(zM8 _ S pv lv vs _ _ _ (zA HX6).2.2.2.2.1 (zQl (zA HX6).2.1 (by omega) (by unfold maxLen;omega)) (fun k hk q hq e=>by
  have:=(zA HX6).2.2.2.2.2.2 k hk q hq
  simp[Value.ownBlock]at e
  omega) (by omega)).mono ?_
 rintro e w7 ⟨rfl,hb7,hfr7,lv7,v7,hL7,hv7,hlv7⟩
 have hg6:=zJ (zA HX6).2.1
 have hkeep7:∀q,w1.heap.size≤q→q < w6.heap.size→w7.heap[q]?=w6.heap[q]?:=fun q hq1 hq2=>hfr7 q hq2 (by omega) (fun e=>by have:=(zA HX6).2.2.2.2.2.1 q e;omega) (fun e=>by simp[Value.ownBlock]at e;omega)
 have ho7:w7.ownsRow w1.heap.size 3 1 (.slice a2 r.out.length d2) r.out.length (ints r.out):=by
  obtain⟨q1,q2⟩:=(zA HX6).2.2.1
  refine⟨q1,?_⟩
  rcases q2 with q2 | ⟨gq,cap,cur,hv',hgB,hh,rr⟩
  ·exact Or.inl q2
  ·exact Or.inr ⟨gq,cap,cur,hv',hgB,by rw[hkeep7 gq hgB (zJ hh)];exact hh,rr⟩
 have hR7:w7.heap[w2.heap.size]?=some (.cells #[.int .i64 r.fin,.int .i64 r.steps,.slice a2 r.out.length d2] 52 (0,0)):=by rw[hkeep7 _ hsz2 (zJ (zA HX6).2.2.2.1)];exact(zA HX6).2.2.2.1
 obtain⟨r0,r1,r2⟩:=zY hR7
 have HB7:=zB (And.intro hb7 (And.intro hL7 (And.intro hv7 (And.intro ho7 (And.intro hR7 (And.intro hlv7 hg6))))))
 clear hb7 hfr7 hL7 hv7 hlv7 hkeep7 ho7 hR7 hg6
 go_wp2_with fail
 refine(zM8 _ S pv lv7 (vs++[v7]) _ _ _ (zA HB7).2.1 (zh (zA HB7).2.2.2.1 (by omega)) (fun k hk q hq e=>by
  have h1:=((zA HB7).2.2.2.1.lt q e).1
  by_cases hkv:k < vs.length
  ·rw[List.getElem_append_left hkv]at hq
   have:=(zA HX6).2.2.2.2.2.2 k hkv q hq
   omega
  ·have:k=vs.length:=by simp at hk;omega
   subst this
   rw[List.getElem_append_right (Nat.le_refl _)]at hq
   simp only[Nat.sub_self,List.getElem_cons_zero]at hq
   rw[(zA HB7).2.2.1]at hq
   simp[Value.ownBlock]at hq
   omega) (by simp;omega)).mono ?_
 rintro e w8 ⟨rfl,hb8,hfr8,lv8,v8,hL8,hv8,hlv8⟩
 have hR8:w8.heap[w2.heap.size]?=some (.cells #[.int .i64 r.fin,.int .i64 r.steps,.slice a2 r.out.length d2] 52 (0,0)):=by
  have hR7:=(zA HB7).2.2.2.2.1
  rw[hfr8 _ (zJ hR7) (by omega) (fun e=>by
   rcases (zA HB7).2.2.2.2.2.1 _ e with h | h
   ·have:=(zA HX6).2.2.2.2.2.1 _ h;omega
   ·have:=zJ (zA HX6).2.2.2.1;omega) (fun e=>by
   obtain⟨c,hc⟩:=zAj (zA HB7).2.2.2.1 e
   rw[hR7]at hc
   injection hc with hc
   injection hc with _ hc
   exact absurd hc (by decide))]
  exact hR7
 obtain⟨r0',r1',r2'⟩:=zY hR8
 have HF:=zB (And.intro ((((zA HB0).1.trans ((zA HX6).1.mono (B':=w.heap.size) (by omega))).mono (B':=S) (by omega)).trans ((zA HB7).1.trans hb8)) hL8)
 clear r0 r1 r2 hb8 hfr8 hL8 hv8 hlv8 hR8
 generalize r.fin=rf at *
 generalize r.steps=rs at *
 generalize r.err=re at *
 generalize r.at_=ra at *
 go_wp2_with (go_at_call 20;refine(num_ref re _).mono ?_;rintro e w' ⟨rfl,rfl⟩)
 all_goals
  go_ret
  exact⟨by first | rfl | simp,(zA HF).1,_,_,(zA HF).2,by simp⟩
structure OpE where
 kind:Int
 a:Int
 b:Int
 c:Int
 s:ByteArray
 v:Value
 l:List Int
def opV (o:OpE):Value:=.agg #[.int .i64 o.kind,.int .i64 o.a,.int .i64 o.b,.int .i64 o.c,.string o.s,o.v]
structure ScrE (w:World) (v:Value) (ops:List OpE):Prop where
 cells:∃ad cap,v=.slice ad ops.length cap∧(ops=[]∨∃g o,ad=some ⟨g,o,none⟩∧∀j (h:j < ops.length),w.cell? ⟨g,o+j*6,none⟩=some (.int .i64 ops[j].kind)∧w.cell? ⟨g,o+j*6+1,none⟩=some (.int .i64 ops[j].a)∧w.cell? ⟨g,o+j*6+2,none⟩=some (.int .i64 ops[j].b)∧
  w.cell? ⟨g,o+j*6+3,none⟩=some (.int .i64 ops[j].c)∧w.cell? ⟨g,o+j*6+4,none⟩=some (.string ops[j].s)∧w.cell? ⟨g,o+j*6+5,none⟩=some ops[j].v)
 str:∀op∈ops,op.s.size≤maxLen
 lst:∀op∈ops,zBP w op.v op.l∧op.l.length≤17592186044416
 rng:∀op∈ops,(-9223372036854775808≤op.a∧op.a≤9223372036854775807)∧(-9223372036854775808≤op.b∧op.b≤9223372036854775807)∧(-9223372036854775808≤op.c∧op.c≤9223372036854775807)
def KindsR (w:World) (kg:Nat) (ks:List Int):Prop:=∀j (h:j < ks.length),w.cell? ⟨kg,j,none⟩=some (.int .i64 ks[j])
structure Plays (w0:World) (S:Nat) (ops:List OpE) (ks:List Int) (I:World→Nat→Prop):Prop where
 zH:∀w w' k,I w k→Below w.heap.size w w'→I w' k
 skip:∀w k,k < ops.length→I w k→I w (k+1)
 lt:∀w k,I w k→S < w.heap.size
 step:∀w k (hk:k < ops.length),ops[k].kind∈ks→I w k→Below S w0 w→Calls Tryz.prog 10 #[.pointer (some ⟨S,0,none⟩),opV ops[k]] w fun e w'=>e=.returned (.bool true)∧Below S w w'∧I w' (k+1)
 looks:∀w k,k≤ops.length→I w k→Calls Tryz.prog 11 #[.pointer (some ⟨S,0,none⟩)] w fun e w'=>e=.returned (.bool true)∧Below w.heap.size w w'
theorem zP8 (w:World) (v:Value) (ops:List OpE) (ks:List Int) (kg:Nat) (I:World→Nat→Prop) (h:ScrE w v ops) (hk:KindsR w kg ks) (hkl:ks.length≤100) (hlen:ops.length≤140737488355328)
  (h0:∀w',w'.heap[w.heap.size]?=some (.cells #[.slice none 0 0,.slice none 0 0] 30 (0,0))→w'.heap.size=w.heap.size+1→I w' 0) (hP:Plays w w.heap.size ops ks I) :
  Calls Tryz.prog 9 #[v,.slice (some ⟨kg,0,none⟩) ks.length ks.length] w fun e w'=>e=.returned (.bool true)∧Below w.heap.size w w':=by
 have HH:=zB h
 have HK:=zB hk
 have HPP:=zB hP
 obtain⟨ad,cap,rfl,_⟩:=h.cells
 have HA:=zB (h0 _ (heap_alloc_new w (.cells #[.slice none 0 0,.slice none 0 0] 30)) (by simp))
 clear h hk hP h0
 go_enter Tryz.func9,Tryz.ntmps9
 go_wp2
 go_loopw [6] (fun i wr=>∃(k:Nat),k≤ops.length∧i=.int .i64 k∧I wr k∧Below w.heap.size w wr) (fun i _=>ops.length-(intOf i).toNat)
 case atStart=>exact⟨0,Nat.zero_le _,rfl,zA HA,(Below.refl _ _).alloc (Nat.le_refl _) _⟩
 case round=>
  obtain⟨k,hkl2,rfl,hL,hbe⟩:=hrel
  have HL:=zB (And.intro hL hbe)
  clear hL hbe
  by_cases hlt:k < ops.length
  ·have hlt':(k:Int) < (ops.length:Int):=by omega
   have hk0:(0:Int)≤(k:Int):=by omega
   obtain⟨ad',cap',he,hcells⟩:=(zA HH).cells
   simp at he
   obtain⟨rfl,rfl⟩:=he
   rcases hcells with hnil | ⟨g,o,hado,hcells⟩
   ·rw[hnil]at hlt;simp at hlt
   subst hado
   have HC:Hid (∀w',Below w.heap.size w w'→w'.cell? ⟨g,o+k*6,none⟩=some (.int .i64 ops[k].kind)∧w'.cell? ⟨g,o+k*6+1,none⟩=some (.int .i64 ops[k].a)∧w'.cell? ⟨g,o+k*6+2,none⟩=some (.int .i64 ops[k].b)∧w'.cell? ⟨g,o+k*6+3,none⟩=some (.int .i64 ops[k].c)∧w'.cell? ⟨g,o+k*6+4,none⟩=some (.string ops[k].s)∧w'.cell? ⟨g,o+k*6+5,none⟩=some ops[k].v):=zB (fun w' hb=>
    let ⟨h0,h1,h2,h3,h4,h5⟩:=hcells k hlt;⟨cell_later hb h0,cell_later hb h1,cell_later hb h2,cell_later hb h3,cell_later hb h4,cell_later hb h5⟩)
   have HST:=zB (show ∀w',ops[k].kind∈ks→I w' k→Below w.heap.size w w'→_ from fun w' h1 h2 h3=>(zA HPP).step w' k hlt h1 h2 h3)
   have hov:opV ops[k]=.agg #[.int .i64 ops[k].kind,.int .i64 ops[k].a,.int .i64 ops[k].b,.int .i64 ops[k].c,.string ops[k].s,ops[k].v]:=rfl
   rw[hov]at HST
   clear hcells hov
   generalize ops[k].kind=kd at *
   generalize ops[k].a=oa at *
   generalize ops[k].b=ob at *
   generalize ops[k].c=oc at *
   generalize ops[k].s=os at *
   generalize ops[k].v=ol at *
   go_wp2_with fail
   go_loopw [7,8] (fun inb j wr2=>∃q:Nat,q≤ks.length∧j=.int .i64 q∧inb=.bool ((ks.take q).any (fun x=>kd==x))∧I wr2 k∧Below w.heap.size w wr2) (fun _ j _=>ks.length-(intOf j).toNat)
   case atStart=>exact⟨0,Nat.zero_le _,rfl,by simp,(zA HL).1,(zA HL).2⟩
   case round=>
    obtain⟨q,hq,rfl,rfl,hL2,hbe2⟩:=hrel
    obtain⟨c0,c1,c2,c3,c4,c5⟩:=zA HC _ hbe2
    have HL2:=zB (And.intro hL2 hbe2)
    by_cases hql:q < ks.length
    ·have hql':(q:Int) < (ks.length:Int):=by omega
     have hq0:(0:Int)≤(q:Int):=by omega
     have cK:=cell_later hbe2 (zA HK q hql)
     have HT:=zB (show ((ks.take (q+1)).any (fun x=>kd==x))=(((ks.take q).any (fun x=>kd==x))|| (kd==ks[q])) by rw[List.take_add_one,List.getElem?_eq_getElem hql,List.any_append,Option.toList_some,List.any_cons,List.any_nil,Bool.or_false])
     clear hL2 hbe2 c1 c2 c3 c4 c5
     generalize ks[q]=kx at *
     generalize (ks.take q).any (fun x=>kd==x)=ib at *
     cases ib with
     | true=>
      go_wp2_with fail
      go_region
      go_wp2_with fail
      go_roundw
      case rel=>exact⟨q+1,by omega,by go_num,by rw[zA HT];first | rfl | simp,(zA HPP).zH _ _ _ (zA HL2).1 (zS _),(zA HL2).2.trans ((zS _).mono (zA HL2).2.size)⟩
      case measure=>simp[intOf];omega
     | false=>
      go_wp2_with fail
      go_region_held3 (fun w'=>w'.cell? ⟨kg,q,none⟩=some (.int .i64 kx)∧w'.cell? ⟨g,o+k*6,none⟩=some (.int .i64 kd)) (go_keep) (fail)
      go_wp2_with fail
      go_roundw
      case rel=>exact⟨q+1,by omega,by go_num,by rw[zA HT];first | rfl | simp,(zA HPP).zH _ _ _ (zA HL2).1 (zS _),(zA HL2).2.trans ((zS _).mono (zA HL2).2.size)⟩
      case measure=>simp[intOf];omega
    ·have hql':¬(q:Int) < (ks.length:Int):=by omega
     have hqe:ks.take q=ks:=List.take_of_length_le (by omega)
     rw[hqe]
     cases hz:ks.any (fun x=>kd==x)with
     | false=>
      clear hL2 hbe2 c0 c1 c2 c3 c4 c5 hqe
      go_wp2_with fail
      go_roundw
      case rel=>exact⟨k+1,by omega,by go_num,(zA HPP).skip _ k hlt (zA HL2).1,(zA HL2).2⟩
      case measure=>simp[intOf];omega
     | true=>
      have HM:=zB (show kd∈ks by simpa using hz)
      clear hL2 hbe2 hz hqe
      go_wp2_with fail
      refine(zA HST _ (zA HM) (zA HL2).1 (zA HL2).2).mono ?_
      rintro e w3 ⟨rfl,hb3,hI3⟩
      have HL3:=zB (And.intro hI3 ((zA HL2).2.trans hb3))
      clear hI3 hb3 c0 c1 c2 c3 c4 c5
      go_wp2_with fail
      refine((zA HPP).looks _ (k+1) (by omega) (zA HL3).1).mono ?_
      rintro e w4 ⟨rfl,hb4⟩
      have HL4:=zB (And.intro ((zA HPP).zH _ _ _ (zA HL3).1 hb4) ((zA HL3).2.trans (hb4.mono (zA HL3).2.size)))
      clear hb4
      go_wp2_with fail
      go_roundw
      case rel=>exact⟨k+1,by omega,by go_num,(zA HL4).1,(zA HL4).2⟩
      case measure=>simp[intOf];omega
  ·have hlt':¬(k:Int) < (ops.length:Int):=by omega
   go_wp2_with fail
   go_ret
   exact⟨rfl,(zA HL).2⟩
theorem ScrE.zH {w w':World} {v:Value} {ops:List OpE} (h:ScrE w v ops) (hb:Below w.heap.size w w'):ScrE w' v ops:=by
 obtain⟨⟨ad,cap,rfl,h⟩,h2,h3,h4⟩:=h
 refine⟨⟨ad,cap,rfl,?_⟩,h2,fun op ho=>⟨(h3 op ho).1.zH hb,(h3 op ho).2⟩,h4⟩
 rcases h with h | ⟨g,o,rfl,h⟩
 ·exact Or.inl h
 ·exact Or.inr ⟨g,o,rfl,fun j hj=>let ⟨h0,h1,h2,h3,h4,h5⟩:=h j hj;⟨cell_later hb h0,cell_later hb h1,cell_later hb h2,cell_later hb h3,cell_later hb h4,cell_later hb h5⟩⟩
structure zKp (r:ByteArray→List Int→Int→zG5):Prop where
 few:∀s l fuel,(r s l fuel).out.length≤1000
 prog:∀(s:ByteArray) (l:List Int) (fuel:Int) (w:World) (v:Value),s.size≤maxLen→zBP w v l→Calls Tryz.prog 25 #[.string s,v,.int .i64 fuel] w (zGc (r s l fuel) w)
 doc:∀(s:ByteArray) (l:List Int) (fuel:Int) (w:World) (v:Value),s.size≤maxLen→zBP w v l→Calls Tryz.prog 27 #[.string s,v,.int .i64 fuel] w (zFz (r s l fuel) w)
theorem step_run {r:ByteArray→List Int→Int→zG5} (hr:zKp r) (w:World) (S:Nat) (pv lv:Value) (vs:List Value) (op:OpE) (hk:op.kind=3) (h:LG w S pv lv vs) (hi:zBP w op.v op.l) (hl:op.l.length≤17592186044416) (hs:op.s.size≤maxLen) (hlen:(vs.length+2)*24≤140737488355328) :
  Calls Tryz.prog 10 #[.pointer (some ⟨S,0,none⟩),opV op] w (StepG S pv vs w):=by
 obtain⟨kd,oa,ob,oc,os,ov,ol⟩:=op
 simp only at hk hi hl hs
 subst hk
 unfold opV
 simp only
 have HH:=zB h
 have hSlt:=zJ h.block
 have HI:=zB hi
 have HR:=zB hr
 obtain⟨ad,ca,rfl⟩:=hi.form
 have HB0:=zB ((Below.refl w.heap.size w).alloc (Nat.le_refl _) (.cells #[.int .i64 3,.int .i64 oa,.int .i64 ob,.int .i64 oc,.string os,.slice ad ol.length ca] 32))
 clear h hi hr
 go_enter Tryz.func10,Tryz.ntmps10
 go_wp2_with fail
 refine(ran_ref (r os ol oa) os ol oa ((zA HR).few _ _ _) (fun w v h=>(zA HR).prog os ol oa w v hs h) (fun w v h=>(zA HR).doc os ol oa w v hs h) _ S pv lv vs _ _ _ _ ((zA HH).zH (zA HB0)) ((zA HI).zH (zA HB0)) hl hlen).mono ?_
 rintro e w1 ⟨rfl,hb1,hrest⟩
 have HF:=zB (And.intro (((zA HB0).mono (B':=S) (by omega)).trans hb1) hrest)
 clear hb1 hrest
 go_wp2_with fail
 go_ret
 exact⟨rfl,(zA HF).1,(zA HF).2⟩
def NoSes (S:Nat) (w:World) (k:Nat):Prop:=∃pv lv vs,LG w S pv lv vs∧vs.length≤2*k
theorem zPz {r:ByteArray→List Int→Int→zG5} (hr:zKp r) (w:World) (v:Value) (ops:List OpE) (h:ScrE w v ops) (hlen:ops.length*48+48≤140737488355328):Plays w w.heap.size ops [3] (NoSes w.heap.size):=by
 refine⟨?_,?_,?_,?_,?_⟩
 ·rintro w1 w2 k ⟨pv,lv,vs,h1,h2⟩ hb
  exact⟨pv,lv,vs,h1.zH hb,h2⟩
 ·rintro w1 k _ ⟨pv,lv,vs,h1,h2⟩
  exact⟨pv,lv,vs,h1,by omega⟩
 ·rintro w1 k ⟨pv,lv,vs,h1,_⟩
  exact zJ h1.block
 ·rintro w1 k hk hm ⟨pv,lv,vs,h1,h2⟩ hb
  have ho:=h.lst _ (List.getElem_mem hk)
  refine(step_run hr w1 _ pv lv vs ops[k] (by simpa using hm) h1 (ho.1.zH hb) ho.2 (h.str _ (List.getElem_mem hk)) (by omega)).mono ?_
  rintro e w2 ⟨rfl,hb2,lv',vs',h3,h4⟩
  exact⟨rfl,hb2,pv,lv',vs',h3,by omega⟩
 ·rintro w1 k hk ⟨pv,lv,vs,h1,h2⟩
  exact zOm w1 _ pv lv vs h1 (by omega)
theorem Runs_ref {r:ByteArray→List Int→Int→zG5} (hr:zKp r) (w:World) (v:Value) (ops:List OpE) (h:ScrE w v ops) (hlen:ops.length*48+48≤140737488355328) :
  Calls Tryz.prog 3 #[v] w fun e w'=>e=.returned (.bool true)∧Below w.heap.size w w':=by
 have HH:=zB h
 have HR:=zB hr
 obtain⟨ad,cap,rfl,_⟩:=h.cells
 have hb0:=(Below.refl w.heap.size w).alloc (Nat.le_refl _) (.cells #[.int .i64 3] 3)
 have hn0:=heap_alloc_new w (.cells #[.int .i64 3] 3)
 have HB0:=zB (And.intro hb0 hn0)
 clear hb0 hn0 h hr
 go_enter Tryz.func3,Tryz.ntmps3
 go_wp2_with fail
 refine(zP8 _ _ ops [3] _ _ ((zA HH).zH (zA HB0).1) (fun j hj=>by
  have:j=0:=by simp at hj;omega
  subst this
  exact zC (zA HB0).2 0 (by simp)) (by simp) (by omega) (fun w' h1 h2=>⟨_,_,[],⟨h1,World.ownsRow_nil _ _ _ _,fun k hk=>by simp at hk⟩,by simp⟩) (zPz (zA HR) _ _ ops ((zA HH).zH (zA HB0).1) hlen)).mono ?_
 rintro e w1 ⟨rfl,hb1⟩
 have HF:=zB ((zA HB0).1.trans (hb1.mono (zA HB0).1.size))
 clear hb1
 go_wp2_with fail
 go_ret
 exact⟨rfl,zA HF⟩
end Go.Proofs.YthleadfkfnnadaaGreat
