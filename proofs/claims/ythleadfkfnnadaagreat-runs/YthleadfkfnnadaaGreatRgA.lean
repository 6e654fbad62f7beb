/- The document's answer: a place is copied. -/
import Derived.Test.YthleadfkfnnadaaGreatRefZ
set_option maxHeartbeats 4000000
set_option maxRecDepth 100000
namespace Go.Proofs.YthleadfkfnnadaaGreat
open Go.RowKit
structure PlQ (w:World) (B:Nat) (p:Rf.Pl) (X:PlX):Prop where
 own:Own w (zb X p)
 fl:X.fps.length=p.zD.length
 cl:X.cps.length=p.cells.length
 new:∀k∈zAJ (zb X p),B≤k
theorem PlQ.at {w:World} {B:Nat} {p:Rf.Pl} {X:PlX} (h:PlQ w B p X) {w':World} {P:Nat} (hb:Below w.heap.size w w') (hP:w'.heap[P]?=some (.cells (plA X.fv X.vv X.cv X.ov p) 72 (0,0))) (hB:B≤P):PlO w' B P p X:=
 ⟨hP,h.own.zH hb,h.fl,h.cl,h.new,hB⟩
theorem PlO.rows {w:World} {B P:Nat} {p:Rf.Pl} {X:PlX} (h:PlO w B P p X):PlQ w B p X:=⟨h.own,h.fl,h.cl,h.new⟩
theorem PlQ.aside {w w0:World} {B:Nat} {p:Rf.Pl} {X:PlX} {N:Nat} {c:Array Value} (h:PlQ w B p X∧w.heap[N]?=some (.cells c 72 (0,0))∧Below B w0 w) (hB:B≤N) (i:Nat) (v:Value):PlQ (w.setCell ⟨N,i,none⟩ v) B p X∧(w.setCell ⟨N,i,none⟩ v).heap[N]?=some (.cells (c.setIfInBounds i v) 72 (0,0))∧Below B w0 (w.setCell ⟨N,i,none⟩ v):=by
 obtain⟨h,hN,hb⟩:=h
 refine⟨⟨⟨fun r hr=>zAZ (h.own.rows r hr) (fun g hg=>Below.heap_setCell w ⟨N,i,none⟩ _ g ?_),h.own.apart⟩,h.fl,h.cl,h.new⟩,zO hN i v,zt hb hB i v⟩
 rintro rfl
 obtain⟨c',hc'⟩:=zAj (h.own.rows r hr) hg
 rw[hN]at hc'
 injection hc' with hc'
 injection hc' with _ hc'
 rcases zLK hr with e | e | e <;> rw[e]at hc' <;> exact absurd hc' (by decide)
structure PlB (p:Rf.Pl):Prop where
 zD:p.zD.length≤1000
 args:∀f∈p.zD,f.args.length≤1000
 vars:p.vars.length≤1000
 cells:p.cells.length≤1000
 each:∀c∈p.cells,c.length≤1000
 out:p.out.length≤1000
def CopyP (p:Rf.Pl) (w:World) (e:Ending) (w':World):Prop:=Below w.heap.size w w'∧∃X,e=.returned (.agg (plA X.fv X.vv X.cv X.ov p))∧PlQ w' w.heap.size p X
def zHN (p:Rf.Pl) (k:Nat):Rf.Pl:=⟨p.zD.take k,[],[],p.read,[],p.line,p.fin⟩
def zFb (p:Rf.Pl) (k:Nat):Rf.Pl:=⟨p.zD,p.vars,p.cells.take k,p.read,[],p.line,p.fin⟩
theorem zMi (w:World) (a b c:Obj):(((w.alloc a).alloc b).alloc c).heap[w.heap.size+2]?=some c:=by
 have:=heap_alloc_new ((w.alloc a).alloc b) c
 rw[show ((w.alloc a).alloc b).heap.size=w.heap.size+2 by simp]at this
 exact this
def nilX:PlX:=⟨.slice none 0 0,.slice none 0 0,.slice none 0 0,.slice none 0 0,[],[]⟩
theorem PlO.start {w:World} {B Q:Nat} {p:Rf.Pl} (hf:p.zD=[]) (hv:p.vars=[]) (hc:p.cells=[]) (ho:p.out=[]) (hb:w.heap[Q]?=some (.cells #[.slice none 0 0,.slice none 0 0,.slice none 0 0,.int .i64 p.read,.slice none 0 0,.int .i64 p.line,.int .i64 p.fin] 72 (0,0))) (hB:B≤Q):PlO w B Q p nilX:=by
 have hr:zb nilX p=[⟨130,3,.slice none 0 0,0,[]⟩,⟨3,1,.slice none 0 0,0,[]⟩,⟨24,1,.slice none 0 0,0,[]⟩,⟨3,1,.slice none 0 0,0,[]⟩]:=by
  unfold zb
  rw[hf,hv,hc,ho]
  rfl
 have hbl:zAJ (zb nilX p)=[]:=by rw[hr];rfl
 refine⟨hb,⟨fun r hm=>?_,by rw[hbl];exact List.nodup_nil⟩,by rw[hf];rfl,by rw[hc];rfl,fun k hk=>by rw[hbl]at hk;simp at hk,hB⟩
 rw[hr]at hm
 simp only[List.mem_cons,List.not_mem_nil,or_false]at hm
 rcases hm with rfl | rfl | rfl | rfl <;> exact World.ownsRow_nil _ _ _ _
theorem Tryz.zGx:(Tryz.prog.info? 130).map (fun i=>(i.zero,i.size,i.bytes))=some (some (.agg #[.int .i64 0,.slice none 0 0,.int .i64 0]),3,40):=by kernel_rfl
theorem zAz (w:World) (fv vv cv ov:Value) (p:Rf.Pl) (h:PlV w fv vv cv ov p) (hp:PlB p) :
  Calls Tryz.prog 95 #[.agg (plA fv vv cv ov p)] w (CopyP p w):=by
 obtain⟨i0,hi0,hz0,hz1,hz2⟩:=info_parts Tryz.zII
 obtain⟨j0,hj0,hy0,hy1,hy2⟩:=info_parts Tryz.zGx
 have HV:=zB h
 have HP:=zB hp
 obtain⟨fb,fo,fcap,rfl,hfc⟩:=h.zD
 obtain⟨cb,co,ccap,rfl,hcc⟩:=h.cells
 obtain⟨vad,vcap,rfl,_⟩:=h.vars
 obtain⟨oad,ocap,rfl,_⟩:=h.out
 have HFC:=zB hfc
 have HCC:=zB hcc
 clear h hp hfc hcc
 unfold plA
 go_enter Tryz.func95,Tryz.ntmps95
 go_wp2_with fail
 go_loopw [4,5] (fun i _ wr=>∃(k:Nat) (X:PlX),k≤p.zD.length∧i=.int .i64 k∧X.vv=.slice none 0 0∧X.cv=.slice none 0 0∧X.ov=.slice none 0 0∧X.cps=[]∧PlO wr w.heap.size (w.heap.size+1+1) (zHN p k) X∧Below w.heap.size w wr∧w.heap.size+3≤wr.heap.size∧
   wr.heap[w.heap.size]?=some (.cells #[.slice (some ⟨fb,fo,none⟩) p.zD.length fcap,.slice vad p.vars.length vcap,.slice (some ⟨cb,co,none⟩) p.cells.length ccap,.int .i64 p.read,.slice oad p.out.length ocap,.int .i64 p.line,.int .i64 p.fin] 72 (0,0))∧
   wr.heap[w.heap.size+1]?=some (.cells #[.slice none 0 0,.slice none 0 0,.slice none 0 0,.int .i64 0,.slice none 0 0,.int .i64 0,.int .i64 0] 72 (0,0)))
  (fun i _ _=>p.zD.length+1-(intOf i).toNat)
 case atStart=>
  refine⟨0,nilX,Nat.zero_le _,rfl,rfl,rfl,rfl,rfl,?_,?_,?_,?_,?_⟩
  ·exact PlO.start rfl rfl rfl rfl (zMi w _ _ _) (by omega)
  ·exact(((Below.refl w.heap.size w).alloc (Nat.le_refl _) _).alloc (by simp) _).alloc (by simp;omega) _
  ·simp
  ·exact zV (zV (heap_alloc_new w _) _) _
  ·exact zV (zAG w _ _) _
 case round=>
  obtain⟨k,X,hk,rfl,hx1,hx2,hx3,hx4,hO,hbe,hsz,hN0,hN1⟩:=hrel
  obtain⟨xad,xcap,hxf⟩:=zE hO.zDV
  have hpk:(zHN p k).zD.length=k:=by simp[zHN];omega
  rw[hpk]at hxf
  have HXF:=zB (And.intro hxf hpk)
  clear hxf hpk
  have c0:=zC hN0 0 (by simp)
  simp only[List.getElem_toArray,List.getElem_cons_zero]at c0
  have HI:=zB (And.intro hx1 (And.intro hx2 (And.intro hx3 (And.intro hx4 (And.intro hO (And.intro hbe (And.intro hN0 hN1)))))))
  by_cases hlt:k < p.zD.length
  ·have hlt':(k:Int) < (p.zD.length:Int):=by omega
   have hk0:(0:Int)≤(k:Int):=by omega
   obtain⟨av,f0,f1,f2,fi⟩:=zA HFC k hlt
   have f0':=cell_later hbe f0
   have f1':=cell_later hbe f1
   have f2':=cell_later hbe f2
   have HFI:=zB fi
   obtain⟨aad,acap,rfl,_⟩:=fi
   have hal:=(zA HP).args _ (List.getElem_mem hlt)
   have hpl:=(zA HP).zD
   clear f0 f1 f2 hx1 hx2 hx3 hx4 hO hbe hN0 hN1
   obtain⟨f,hf⟩:∃f,f=p.zD[k]:=⟨_,rfl⟩
   have HFE:=zB hf
   rw[←hf]at f0' f1' f2' hal HFI
   clear hf
   go_wp2_with fail
   have hbA:=(Below.refl wr.heap.size wr).alloc (Nat.le_refl _) (.cells #[.int .i64 f.proc,.slice aad f.args.length acap,.int .i64 f.call] 130)
   have hnA:=heap_alloc_new wr (.cells #[.int .i64 f.proc,.slice aad f.args.length acap,.int .i64 f.call] 130)
   refine(zHZ _ _ f.args ((zA HFI).zH ((zA HI).2.2.2.2.2.1.trans (hbA.mono (B':=w.heap.size) (by omega)))) (by omega)).mono ?_
   have hszA:(wr.alloc (.cells #[.int .i64 f.proc,.slice aad f.args.length acap,.int .i64 f.call] 130)).heap.size=wr.heap.size+1:=by simp
   generalize wr.alloc (.cells #[.int .i64 f.proc,.slice aad f.args.length acap,.int .i64 f.call] 130)=wa at *
   rintro e w1 ⟨hb1,av,rfl,hown1⟩
   obtain⟨vad1,vcap1,hav⟩:=zE hown1
   have hF1:=zK hnA hb1
   have hsz1:=hb1.size
   have hbw:=hbA.trans (hb1.mono (B':=wr.heap.size) (by omega))
   obtain⟨k0,k1,k2⟩:=zY hF1
   have z:=zI hF1
   rw[hav]
   have hq1:=zK (zA HI).2.2.2.2.1.block hbw
   have q0:w1.cell? ⟨w.heap.size+1+1,0,none⟩=some X.fv:=zC hq1 0 (by simp[plA])
   rw[(zA HXF).1]at q0
   have hoth:∀q,q≠wr.heap.size→(w1.setCell ⟨wr.heap.size,1,none⟩ (.slice vad1 f.args.length vcap1)).heap[q]?=w1.heap[q]?:=fun q hq=>Below.heap_setCell w1 ⟨wr.heap.size,1,none⟩ _ q hq
   have hbx:=zt hbw (Nat.le_refl _) 1 (.slice vad1 f.args.length vcap1)
   have hfr:=zAZ (zZ (zA HI).2.2.2.2.1.zDV hbw) (w':=w1.setCell ⟨wr.heap.size,1,none⟩ (.slice vad1 f.args.length vcap1)) (fun q hq=>hoth q (by have:=((zA HI).2.2.2.2.1.zDV.lt q hq).2;omega))
   have hn1:=zAZ (zh hown1 (show wr.heap.size≤wa.heap.size by omega)) (w':=w1.setCell ⟨wr.heap.size,1,none⟩ (.slice vad1 f.args.length vcap1)) (fun q hq=>hoth q (by have:=(hown1.lt q hq).1;omega))
   have hq2:=(hbx.block (w.heap.size+1+1) (by omega)).trans (zA HI).2.2.2.2.1.block
   have hqlt:=zJ (zA HI).2.2.2.2.1.block
   rw[(zA HXF).1,(zA HXF).2]at hfr
   have HX1:=zB (And.intro hn1 (And.intro hbx (And.intro hq2 hav)))
   have hszx:(w1.setCell ⟨wr.heap.size,1,none⟩ (.slice vad1 f.args.length vcap1)).heap.size=w1.heap.size:=by simp[World.setCell]
   clear hown1 hF1 hbw hb1 hbA hnA f0' f1' f2' c0 hq1 hoth hbx hn1 hq2
   have hne1:¬w.heap.size+1+1=wr.heap.size:=by omega
   have hne2:¬wr.heap.size=w.heap.size+1+1:=by omega
   go_wp2_with (at_builtin;refine wpList_append_lies _ rfl _ _ 70 rfl 0 130 j0 _ 3 40 Tryz.underlying70 hj0 hy0 hy1 hy2 rfl (by decide) _ k _ rfl (hfr.alloc _) ⟨w1.heap.size,0,none⟩ 1 1 [.int .i64 f.proc,.slice vad1 f.args.length vcap1,.int .i64 f.call] rfl rfl (World.news_of_block (cs:=#[.int .i64 f.proc,.slice vad1 f.args.length vcap1,.int .i64 f.call]) (t:=130) (fr:=(0,0)) (by have:=heap_alloc_new (w1.setCell ⟨wr.heap.size,1,none⟩ (.slice vad1 f.args.length vcap1)) (.cells #[.int .i64 f.proc,.slice vad1 f.args.length vcap1,.int .i64 f.call] 130);rw[hszx]at this;exact this)) (by simp[Value.oneCell']) (by omega) (by unfold maxLen;omega) (by omega) (Nat.zero_le _) (w1.heap.size+1) (by simp) ?_)
   intro g' cap' w4 hown4 hgrow hat hlt4
   rw[←(zA HXF).1]at hgrow hat
   have hO:=(zA HI).2.2.2.2.1
   have hbx:=(zA HX1).2.1
   have hszy:=hbx.size
   have hby:=(Below.refl (w1.setCell ⟨wr.heap.size,1,none⟩ (.slice vad1 f.args.length vcap1)).heap.size (w1.setCell ⟨wr.heap.size,1,none⟩ (.slice vad1 f.args.length vcap1))).alloc (Nat.le_refl _) (.cells #[.int .i64 f.proc,.slice vad1 f.args.length vcap1,.int .i64 f.call] 130)
   have hpush:=hO.zIB (by omega) hbx hby (.slice vad1 f.args.length vcap1) f (by have:=(zA HX1).1;rw[(zA HX1).2.2.2]at this;exact this) hgrow (.slice (some ⟨g',0,none⟩) (k+1) cap') (by rw[(zA HXF).2];exact hown4) (fun q hq=>by simp[Value.ownBlock]at hq;subst hq;rcases hat with h | h;exact Or.inl h;exact Or.inr (by omega))
   have hfne:∀(N:Nat) (c:Array Value),wr.heap[N]?=some (.cells c 72 (0,0))→some N≠X.fv.ownBlock:=fun N c hN e=>by
    obtain⟨c',hc'⟩:=zAj hO.zDV e.symm
    rw[hN]at hc'
    injection hc' with hc'
    injection hc' with _ hc'
    exact absurd hc' (by decide)
   have hold:∀(N:Nat) (c:Array Value),wr.heap[N]?=some (.cells c 72 (0,0))→w4.heap[N]?=some (.cells c 72 (0,0)):=fun N c hN=>by
    have hlt:=zJ hN
    rw[hgrow.block N (by simp[World.setCell];omega) (hfne N c hN),heap_alloc_old _ _ (by omega),hbx.block N hlt]
    exact hN
   have hq4:=hold _ _ hO.block
   have d0:w4.cell? ⟨w.heap.size+1+1,0,none⟩=some X.fv:=zC hq4 0 (by simp[plA])
   have z0:=zI hq4 0
   have hn0:=(Below.heap_setCell w4 ⟨w.heap.size+1+1,0,none⟩ (.slice (some ⟨g',0,none⟩) (k+1) cap') w.heap.size (by show ¬w.heap.size=w.heap.size+1+1;omega)).trans (hold _ _ (zA HI).2.2.2.2.2.2.1)
   have hn1:=(Below.heap_setCell w4 ⟨w.heap.size+1+1,0,none⟩ (.slice (some ⟨g',0,none⟩) (k+1) cap') (w.heap.size+1) (by show ¬w.heap.size+1=w.heap.size+1+1;omega)).trans (hold _ _ (zA HI).2.2.2.2.2.2.2)
   have hpp:{ zHN p k with zD:=(zHN p k).zD++[f] }=zHN p (k+1):=by
    unfold zHN
    simp only[Rf.Pl.mk.injEq,and_true]
    rw[List.take_add_one,List.getElem?_eq_getElem hlt,←zA HFE]
    rfl
   rw[hpp]at hpush
   have hs4:=hgrow.size
   have HF:=zB (And.intro hpush (And.intro hn0 (And.intro hn1 (show w.heap.size+3≤(w4.setCell ⟨w.heap.size+1+1,0,none⟩ (.slice (some ⟨g',0,none⟩) (k+1) cap')).heap.size by simp[World.setCell]at hs4 ⊢;omega))))
   clear hpush hn0 hn1 hpp hold hfne hq4 hby hbx hO hown4 hgrow hat hlt4 hfr q0 k0 k1 k2 z
   go_wp2_with fail
   go_roundw
   case rel=>
    obtain⟨⟨u1,u2⟩,u3,u4,u5⟩:=zA HF
    obtain⟨v1,v2,v3,v4,v5,v6,_⟩:=zA HI
    exact⟨k+1,{ X with fv:=.slice (some ⟨g',0,none⟩) (k+1) cap',fps:=X.fps++[.slice vad1 f.args.length vcap1] },by omega,by go_num,v1,v2,v3,v4,u1,v6.trans u2,u5,u3,u4⟩
   case measure=>simp[intOf];omega
  ·have hlt':¬(k:Int) < (p.zD.length:Int):=by omega
   have hke:k=p.zD.length:=by omega
   have hvl:=(zA HP).vars
   have hN0':=hN0
   have c1:=zC hN0 1 (by simp)
   simp only[List.getElem_toArray,List.getElem_cons_zero,List.getElem_cons_succ]at c1
   clear hx1 hx2 hx3 hx4 hO hbe hN0 hN1 hke
   go_wp2_with fail
   refine(zHZ _ _ p.vars ((zA HV).vars.zH (zA HI).2.2.2.2.2.1) (by omega)).mono ?_
   rintro e w1 ⟨hb1,av,rfl,hown1⟩
   obtain⟨wad1,wcap1,hav⟩:=zE hown1
   have hO:=(zA HI).2.2.2.2.1
   have hq1:=zK hO.block hb1
   have d1:w1.cell? ⟨w.heap.size+1+1,1,none⟩=some X.vv:=zC hq1 1 (by simp[plA])
   have z1:=zI hq1 1
   have hnew:=hO.zPU (by omega) hb1 av p.vars hown1
   have hke:k=p.zD.length:=by omega
   have hpp:{ zHN p k with vars:=p.vars }=zFb p 0:=by
    unfold zHN zFb
    rw[hke]
    simp
   rw[hpp]at hnew
   have hs1:=hb1.size
   have hset:∀N,N < w.heap.size+1+1→(w1.setCell ⟨w.heap.size+1+1,1,none⟩ av).heap[N]?=wr.heap[N]?:=fun N hN=>(Below.heap_setCell w1 ⟨w.heap.size+1+1,1,none⟩ av N (by show ¬N=w.heap.size+1+1;omega)).trans (hb1.block N (by omega))
   have HJ:=zB (And.intro (show ({ X with vv:=av }:PlX).ov=.slice none 0 0 from (zA HI).2.2.1) (And.intro (show ({ X with vv:=av }:PlX).cv=.slice none 0 0 from (zA HI).2.1) (And.intro hnew.1 (And.intro ((zA HI).2.2.2.2.2.1.trans hnew.2) (And.intro ((hset _ (by omega)).trans (zA HI).2.2.2.2.2.2.1) (And.intro ((hset _ (by omega)).trans (zA HI).2.2.2.2.2.2.2) (show w.heap.size+3≤(w1.setCell ⟨w.heap.size+1+1,1,none⟩ av).heap.size by simp[World.setCell];omega)))))))
   rw[hav]at HJ ⊢
   clear hnew hpp hke hq1 hO hb1 hown1 hset c1 c0 hav
   generalize hX1:({ X with vv:=.slice wad1 p.vars.length wcap1 }:PlX)=X1 at HJ
   clear hX1
   go_wp2_with fail
   go_loopw [6,7] (fun i _ wr2=>∃(j:Nat) (Y:PlX),j≤p.cells.length∧i=.int .i64 j∧Y.ov=.slice none 0 0∧PlO wr2 w.heap.size (w.heap.size+1+1) (zFb p j) Y∧Below w.heap.size w wr2∧w.heap.size+3≤wr2.heap.size∧
     wr2.heap[w.heap.size]?=some (.cells #[.slice (some ⟨fb,fo,none⟩) p.zD.length fcap,.slice vad p.vars.length vcap,.slice (some ⟨cb,co,none⟩) p.cells.length ccap,.int .i64 p.read,.slice oad p.out.length ocap,.int .i64 p.line,.int .i64 p.fin] 72 (0,0))∧
     wr2.heap[w.heap.size+1]?=some (.cells #[.slice none 0 0,.slice none 0 0,.slice none 0 0,.int .i64 0,.slice none 0 0,.int .i64 0,.int .i64 0] 72 (0,0)))
    (fun i _ _=>p.cells.length+1-(intOf i).toNat)
   case atStart=>
    obtain⟨t1,t2,t3,t4,t5,t6,t7⟩:=zA HJ
    exact⟨0,X1,Nat.zero_le _,rfl,t1,t3,t4,t7,t5,t6⟩
   case round=>
    clear HI HXF HJ
    obtain⟨j,Y,hj,rfl,hy1',hO,hbe,hsz2,hN0,hN1⟩:=hrel
    obtain⟨yad,ycap,hyf⟩:=zE hO.zFL
    have hpk:(zFb p j).cells.length=j:=by simp[zFb];omega
    rw[hpk]at hyf
    have HXF:=zB (And.intro hyf hpk)
    have c2:=zC hN0 2 (by simp)
    simp only[List.getElem_toArray,List.getElem_cons_zero,List.getElem_cons_succ]at c2
    have HI:=zB (And.intro hy1' (And.intro hO (And.intro hbe (And.intro hN0 hN1))))
    clear hyf hpk
    by_cases hlt2:j < p.cells.length
    ·have hlt2':(j:Int) < (p.cells.length:Int):=by omega
     have hj0:(0:Int)≤(j:Int):=by omega
     obtain⟨x,e0,ei⟩:=zA HCC j hlt2
     have e0':=cell_later hbe e0
     have HEI:=zB ei
     obtain⟨ead,ecap,rfl,_⟩:=ei
     have hel:=(zA HP).each _ (List.getElem_mem hlt2)
     have hcl:=(zA HP).cells
     obtain⟨c,hc⟩:∃c,c=p.cells[j]:=⟨_,rfl⟩
     have HCE:=zB hc
     rw[←hc]at e0' hel HEI
     clear hc e0 hy1' hO hbe hN0 hN1
     go_wp2_with fail
     refine(zHZ _ _ c ((zA HEI).zH (zA HI).2.2.1) (by omega)).mono ?_
     rintro e w1 ⟨hb1,av,rfl,hown1⟩
     obtain⟨bad1,bcap1,hav⟩:=zE hown1
     have hO:=(zA HI).2.1
     have hq1:=zK hO.block hb1
     have d2:w1.cell? ⟨w.heap.size+1+1,2,none⟩=some Y.cv:=zC hq1 2 (by simp[plA])
     rw[(zA HXF).1]at d2
     have hfr:=zZ hO.zFL hb1
     rw[(zA HXF).1,(zA HXF).2]at hfr
     have hs1:=hb1.size
     have HX1:=zB (And.intro hown1 (And.intro hb1 hav))
     rw[hav]
     clear hown1 hb1 hav hO hq1 c2 e0'
     go_wp2_with (at_builtin;refine wpList_append_lies _ rfl _ _ 28 rfl 0 24 i0 _ 1 24 Tryz.underlying28 hi0 hz0 hz1 hz2 rfl (by decide) _ _ _ rfl (hfr.alloc _) ⟨w1.heap.size,0,none⟩ 1 1 [.slice bad1 c.length bcap1] rfl rfl (cell_one_new _ _ _) (by simp[Value.oneCell']) (by omega) (by unfold maxLen;omega) (by omega) (Nat.zero_le _) (w1.heap.size+1) (by simp) ?_)
     intro g' cap' w4 hown4 hgrow hat hlt4
     rw[←(zA HXF).1]at hgrow hat
     have hO:=(zA HI).2.1
     have hb1:=(zA HX1).2.1
     have hby:=(Below.refl w1.heap.size w1).alloc (Nat.le_refl _) (.cells #[.slice bad1 c.length bcap1] 24)
     have hpush:=hO.pushCel (by omega) hb1 hby (.slice bad1 c.length bcap1) c (by have:=(zA HX1).1;rw[(zA HX1).2.2]at this;exact this) hgrow (.slice (some ⟨g',0,none⟩) (j+1) cap') (by rw[(zA HXF).2];exact hown4) (fun q hq=>by simp[Value.ownBlock]at hq;subst hq;rcases hat with h | h;exact Or.inl h;exact Or.inr (by omega))
     have hfne:∀(N:Nat) (cc:Array Value),wr.heap[N]?=some (.cells cc 72 (0,0))→some N≠Y.cv.ownBlock:=fun N cc hN e=>by
      obtain⟨c',hc'⟩:=zAj hO.zFL e.symm
      rw[hN]at hc'
      injection hc' with hc'
      injection hc' with _ hc'
      exact absurd hc' (by decide)
     have hold:∀(N:Nat) (cc:Array Value),wr.heap[N]?=some (.cells cc 72 (0,0))→w4.heap[N]?=some (.cells cc 72 (0,0)):=fun N cc hN=>by
      have hlt:=zJ hN
      rw[hgrow.block N (by simp;omega) (hfne N cc hN),heap_alloc_old _ _ (by omega),hb1.block N hlt]
      exact hN
     have hq4:=hold _ _ hO.block
     have d2':w4.cell? ⟨w.heap.size+1+1,2,none⟩=some Y.cv:=zC hq4 2 (by simp[plA])
     have z2:=zI hq4 2
     have hn0:=(Below.heap_setCell w4 ⟨w.heap.size+1+1,2,none⟩ (.slice (some ⟨g',0,none⟩) (j+1) cap') w.heap.size (by show ¬w.heap.size=w.heap.size+1+1;omega)).trans (hold _ _ (zA HI).2.2.2.1)
     have hn1:=(Below.heap_setCell w4 ⟨w.heap.size+1+1,2,none⟩ (.slice (some ⟨g',0,none⟩) (j+1) cap') (w.heap.size+1) (by show ¬w.heap.size+1=w.heap.size+1+1;omega)).trans (hold _ _ (zA HI).2.2.2.2)
     have hpp:{ zFb p j with cells:=(zFb p j).cells++[c] }=zFb p (j+1):=by
      unfold zFb
      simp only[Rf.Pl.mk.injEq,and_true,true_and]
      rw[List.take_add_one,List.getElem?_eq_getElem hlt2,←zA HCE]
      rfl
     rw[hpp]at hpush
     have hs4:=hgrow.size
     have HF:=zB (And.intro hpush (And.intro hn0 (And.intro hn1 (show w.heap.size+3≤(w4.setCell ⟨w.heap.size+1+1,2,none⟩ (.slice (some ⟨g',0,none⟩) (j+1) cap')).heap.size by simp[World.setCell]at hs4 ⊢;omega))))
     clear hpush hn0 hn1 hpp hold hfne hq4 hby hb1 hO hown4 hgrow hat hlt4 hfr d2
     go_wp2_with fail
     go_roundw
     case rel=>
      obtain⟨⟨u1,u2⟩,u3,u4,u5⟩:=zA HF
      obtain⟨v1,v2,v3,_⟩:=zA HI
      exact⟨j+1,{ Y with cv:=.slice (some ⟨g',0,none⟩) (j+1) cap',cps:=Y.cps++[.slice bad1 c.length bcap1] },by omega,by go_num,v1,u1,v3.trans u2,u5,u3,u4⟩
     case measure=>simp[intOf];omega
    ·have hlt2':¬(j:Int) < (p.cells.length:Int):=by omega
     have hol:=(zA HP).out
     have c4:=zC hN0 4 (by simp)
     simp only[List.getElem_toArray,List.getElem_cons_zero,List.getElem_cons_succ]at c4
     clear hy1' hO hbe hN0 hN1
     go_wp2_with fail
     refine(zHZ _ _ p.out ((zA HV).out.zH (zA HI).2.2.1) (by omega)).mono ?_
     rintro e w1 ⟨hb1,av,rfl,hown1⟩
     obtain⟨bad1,bcap1,hav⟩:=zE hown1
     have hO:=(zA HI).2.1
     have hs1:=hb1.size
     have hq1:=zK hO.block hb1
     have d4:w1.cell? ⟨w.heap.size+1+1,4,none⟩=some Y.ov:=zC hq1 4 (by simp[plA])
     have z4:=zI hq1 4
     have hnew:=hO.newOut (by omega) hb1 av p.out hown1
     have hje:j=p.cells.length:=by omega
     have hpp:{ zFb p j with out:=p.out }=p:=by
      unfold zFb
      rw[hje]
      simp
     rw[hpp]at hnew
     have hn1:=(Below.heap_setCell w1 ⟨w.heap.size+1+1,4,none⟩ av (w.heap.size+1) (by show ¬w.heap.size+1=w.heap.size+1+1;omega)).trans ((hb1.block (w.heap.size+1) (by omega)).trans (zA HI).2.2.2.2)
     obtain⟨xa,xc,hxf⟩:=zE hnew.1.zDV
     obtain⟨ya,yc,hyf⟩:=zE hnew.1.zIx
     obtain⟨za,zc,hzf⟩:=zE hnew.1.zFL
     have hblk:=hnew.1.block
     have hx':Y.fv=.slice xa p.zD.length xc:=hxf
     have hy':Y.vv=.slice ya p.vars.length yc:=hyf
     have hz':Y.cv=.slice za p.cells.length zc:=hzf
     have hcl:(plA ({ Y with ov:=av }:PlX).fv ({ Y with ov:=av }:PlX).vv ({ Y with ov:=av }:PlX).cv ({ Y with ov:=av }:PlX).ov p)=#[.slice xa p.zD.length xc,.slice ya p.vars.length yc,.slice za p.cells.length zc,.int .i64 p.read,.slice bad1 p.out.length bcap1,.int .i64 p.line,.int .i64 p.fin]:=by
      show plA Y.fv Y.vv Y.cv av p=_
      rw[hx',hy',hz',hav]
      rfl
     have HF:=zB (And.intro hnew (And.intro hn1 hcl))
     rw[hcl]at hblk
     have HAV:=zB hav
     rw[hav]at hblk hn1 ⊢
     clear hav hnew hpp hje hb1 hown1 hO hq1 c2 c4 hcl hx' hy' hz' hxf hyf hzf
     have hsz4:(w1.setCell ⟨w.heap.size+1+1,4,none⟩ (.slice bad1 p.out.length bcap1)).heap.size=w1.heap.size:=by simp[World.setCell]
     have hq:∀i (hi:i < 7),(w1.setCell ⟨w.heap.size+1+1,4,none⟩ (.slice bad1 p.out.length bcap1)).cell? ⟨w.heap.size+1+1,i,none⟩=some (#[.slice xa p.zD.length xc,.slice ya p.vars.length yc,.slice za p.cells.length zc,.int .i64 p.read,.slice bad1 p.out.length bcap1,.int .i64 p.line,.int .i64 p.fin][i]'(by simpa using hi)):=fun i hi=>zC hblk i (by simpa using hi)
     have q0:=hq 0 (by omega)
     have q1:=hq 1 (by omega)
     have q2:=hq 2 (by omega)
     have q3:=hq 3 (by omega)
     have q4:=hq 4 (by omega)
     have q5:=hq 5 (by omega)
     have q6:=hq 6 (by omega)
     simp only[List.getElem_toArray,List.getElem_cons_zero,List.getElem_cons_succ]at q0 q1 q2 q3 q4 q5 q6
     have hz:∀i (hi:i < 7),(w1.setCell ⟨w.heap.size+1+1,4,none⟩ (.slice bad1 p.out.length bcap1)).cell? ⟨w.heap.size+1,i,none⟩=some (#[.slice none 0 0,.slice none 0 0,.slice none 0 0,.int .i64 0,.slice none 0 0,.int .i64 0,.int .i64 0][i]'(by simpa using hi)):=fun i hi=>zC hn1 i (by simpa using hi)
     have n0:=hz 0 (by omega)
     have n1:=hz 1 (by omega)
     have n2:=hz 2 (by omega)
     have n3:=hz 3 (by omega)
     have n4:=hz 4 (by omega)
     have n5:=hz 5 (by omega)
     have n6:=hz 6 (by omega)
     simp only[List.getElem_toArray,List.getElem_cons_zero,List.getElem_cons_succ]at n0 n1 n2 n3 n4 n5 n6
     have zn:=zI hn1
     clear hq hz
     go_wp2_with fail
     refine bodyPost_ret (v:=.agg #[.slice xa p.zD.length xc,.slice ya p.vars.length yc,.slice za p.cells.length zc,.int .i64 p.read,.slice bad1 p.out.length bcap1,.int .i64 p.line,.int .i64 p.fin]) ?_ rfl ?_
     ·simp[results,Tryz.results95,go_sem,n0,n1,n2,n3,n4,n5,n6]
     ·obtain⟨⟨f1,f2⟩,f3,f4⟩:=zA HF
      rw[zA HAV]at f1 f2 f3 f4
      have h0:=PlQ.aside ⟨f1.rows,f3,(zA HI).2.2.1.trans f2⟩ (by omega) 0 (.slice xa p.zD.length xc)
      have h1:=PlQ.aside h0 (by omega) 1 (.slice ya p.vars.length yc)
      have h2:=PlQ.aside h1 (by omega) 2 (.slice za p.cells.length zc)
      have h3:=PlQ.aside h2 (by omega) 3 (.int .i64 p.read)
      have h4:=PlQ.aside h3 (by omega) 4 (.slice bad1 p.out.length bcap1)
      have h5:=PlQ.aside h4 (by omega) 5 (.int .i64 p.line)
      have h6:=PlQ.aside h5 (by omega) 6 (.int .i64 p.fin)
      exact⟨h6.2.2,_,congrArg (fun a=>Ending.returned (Value.agg a)) f4.symm,h6.1⟩
end Go.Proofs.YthleadfkfnnadaaGreat
