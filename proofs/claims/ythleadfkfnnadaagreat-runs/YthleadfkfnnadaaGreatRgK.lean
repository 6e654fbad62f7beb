/- The document's answer: a step of a print, a read, an if or a while. -/
import Derived.Test.YthleadfkfnnadaaGreatPlG
set_option maxHeartbeats 4000000
set_option maxRecDepth 100000
namespace Go.Proofs.YthleadfkfnnadaaGreat
open Go.RowKit
theorem zKu (w:World) (S g cap L:Nat) (ls:List (List ByteArray)) (p:Rf.Pl) (fv vv cv ov iv:Value) (t:List ByteArray) (hG:zAg w S g cap ls) (hv:PlV w fv vv cv ov p) (hB:PlB p) (hok:Rf.zEb ls p) (hL:Lawful ls) (hnest:Rf.nested ls=0) (hln:p.line=(L:Int)+1) (hLl:L < ls.length) (ht:ls[L]=t) (hl1:0 < t.length) (hiv:∃a n c,iv=.slice a n c)
  (h0:(t[0].toList==[115,101,116])=false) (h1:(t[0].toList==[99,97,108,108])=false) (h2:(t[0].toList==[114,101,116,117,114,110])=false) (h3:(t[0].toList==[101,110,100])=false) (h4:(t[0].toList==[112,114,105,110,116])=true) (h5:(t[0].toList==[114,101,97,100])=false) (te:Int) (p1:Rf.Pl) (hp1:te=0→0 < p1.zD.length∧0 < p1.cells.length)
  (hin:∀(w0 w':World) (P:Nat) (X:PlX) (tv:Value),InS w0 w' S g cap ls P p X→zu w0 tv t→Calls Tryz.prog 99 #[.pointer (some ⟨S,0,none⟩),.pointer (some ⟨P,0,none⟩),tv,iv] w' fun e w''=>e=.returned (.int .i64 te)∧∃X',InS w0 w'' S g cap ls P (if te=0 then p1 else p) X') :
  Calls Tryz.prog 55 #[.pointer (some ⟨S,0,none⟩),.agg (plA fv vv cv ov p),iv] w (zCA (if te=0 then p1 else { p with fin:=te }) (if te=0 then 2 else 1) w):=by
 have HG:=zB hG
 have HV:=zB hv
 have HBB:=zB hB
 have HOK:=zB hok
 have hlen:=hL.len
 have _:=hnest
 have HIN:=zB hin
 obtain⟨fb,fo,fcap,rfl,hx1⟩:=hv.zD
 obtain⟨cb,co,ccap,rfl,hx2⟩:=hv.cells
 obtain⟨vad,vcap,rfl,hx3⟩:=hv.vars
 obtain⟨oad,ocap,rfl,hx4⟩:=hv.out
 obtain⟨iad,iln,icap,rfl⟩:=hiv
 have HLN:=zB hln
 have HP1:=zB hp1
 have HT:=zB ht
 obtain⟨q,hq⟩:∃q,q=(if te=0 then p1 else ({ p with fin:=te }:Rf.Pl)):=⟨_,rfl⟩
 obtain⟨nn,hnn⟩:∃nn,nn=(if te=0 then (2:Int)else 1):=⟨_,rfl⟩
 rw[←hq,←hnn]
 have HQ:=zB (And.intro hq hnn)
 have hbA:=((Below.refl w.heap.size w).alloc (Nat.le_refl _) (.cells (plA (.slice (some ⟨fb,fo,none⟩) p.zD.length fcap) (.slice vad p.vars.length vcap) (.slice (some ⟨cb,co,none⟩) p.cells.length ccap) (.slice oad p.out.length ocap) p) 72)).alloc (by simp) (.cells #[.slice none 0 0,.slice none 0 0,.slice none 0 0,.int .i64 0,.slice none 0 0,.int .i64 0,.int .i64 0] 72)
 have bB:=zV (heap_alloc_new w (.cells (plA (.slice (some ⟨fb,fo,none⟩) p.zD.length fcap) (.slice vad p.vars.length vcap) (.slice (some ⟨cb,co,none⟩) p.cells.length ccap) (.slice oad p.out.length ocap) p) 72)) (.cells #[.slice none 0 0,.slice none 0 0,.slice none 0 0,.int .i64 0,.slice none 0 0,.int .i64 0,.int .i64 0] 72)
 have bR:=zAG w (.cells (plA (.slice (some ⟨fb,fo,none⟩) p.zD.length fcap) (.slice vad p.vars.length vcap) (.slice (some ⟨cb,co,none⟩) p.cells.length ccap) (.slice oad p.out.length ocap) p) 72) (.cells #[.slice none 0 0,.slice none 0 0,.slice none 0 0,.int .i64 0,.slice none 0 0,.int .i64 0,.int .i64 0] 72)
 have hsA:((w.alloc (.cells (plA (.slice (some ⟨fb,fo,none⟩) p.zD.length fcap) (.slice vad p.vars.length vcap) (.slice (some ⟨cb,co,none⟩) p.cells.length ccap) (.slice oad p.out.length ocap) p) 72)).alloc (.cells #[.slice none 0 0,.slice none 0 0,.slice none 0 0,.int .i64 0,.slice none 0 0,.int .i64 0,.int .i64 0] 72)).heap.size=w.heap.size+2:=by simp
 clear hG hv hB hok hL hin hx1 hx2 hx3 hx4 hln hp1 hq hnn ht
 unfold plA at *
 go_enter Tryz.func55,Tryz.ntmps55
 go_wp2_with fail
 generalize (w.alloc _).alloc _=wA at *
 have HV1:=zB ((zA HV).zH hbA)
 refine(zAz _ _ _ _ _ p (zA HV1) (zA HBB)).mono ?_
 rintro e w1 ⟨hb1,X,rfl,hQ⟩
 have hs1:=hb1.size
 have hbP:=(Below.refl w1.heap.size w1).alloc (Nat.le_refl _) (.cells (plA X.fv X.vv X.cv X.ov p) 72)
 have hO:=hQ.at hbP (heap_alloc_new w1 (.cells (plA X.fv X.vv X.cv X.ov p) 72)) (by omega)
 have hI:InS wA (w1.alloc (.cells (plA X.fv X.vv X.cv X.ov p) 72)) S g cap ls w1.heap.size p X:=⟨(zA HG).zH hbA,hb1.trans (hbP.mono (B':=wA.heap.size) (by omega)),hO⟩
 obtain⟨xa,xc,hxf⟩:=zE hO.zDV
 obtain⟨ya,yc,hyf⟩:=zE hO.zIx
 obtain⟨za,zc,hzf⟩:=zE hO.zFL
 obtain⟨oa,oc,hof⟩:=zE hO.zJs
 have hpa:plA X.fv X.vv X.cv X.ov p=#[.slice xa p.zD.length xc,.slice ya p.vars.length yc,.slice za p.cells.length zc,.int .i64 p.read,.slice oa p.out.length oc,.int .i64 p.line,.int .i64 p.fin]:=by rw[hxf,hyf,hzf,hof];rfl
 rw[hpa]at hI ⊢
 have hsP:(w1.alloc (.cells #[.slice xa p.zD.length xc,.slice ya p.vars.length yc,.slice za p.cells.length zc,.int .i64 p.read,.slice oa p.out.length oc,.int .i64 p.line,.int .i64 p.fin] 72)).heap.size=w1.heap.size+1:=by simp
 have c5:(w1.alloc (.cells #[.slice xa p.zD.length xc,.slice ya p.vars.length yc,.slice za p.cells.length zc,.int .i64 p.read,.slice oa p.out.length oc,.int .i64 p.line,.int .i64 p.fin] 72)).cell? ⟨w1.heap.size,5,none⟩=some (.int .i64 ((L:Int)+1)):=by
  have:=zC (heap_alloc_new w1 (.cells #[.slice xa p.zD.length xc,.slice ya p.vars.length yc,.slice za p.cells.length zc,.int .i64 p.read,.slice oa p.out.length oc,.int .i64 p.line,.int .i64 p.fin] 72)) 5 (by simp)
  rw[this]
  exact congrArg (fun x=>some (Value.int .i64 x)) (zA HLN)
 have hT:=hI.zDR.top
 obtain⟨tad,tc,c7,hst⟩:=(zA HG).row L hLl
 have c7':=cell_later hbA c7
 have c8:=cell_later hI.bel c7'
 have HST:=zB (hst.zH hbA)
 rw[zA HT]at c8 HST
 have HI:=zB hI
 have hw1:IntKind.i64.wrap ((L:Int)+1-1)=L:=by rw[show (L:Int)+1-1=(L:Int) by omega];exact IntWalk.i64_in _ ⟨by omega,by omega⟩
 have hw2:IntKind.i64.wrap (L:Int)=L:=IntWalk.i64_in _ ⟨by omega,by omega⟩
 have hm0:(0:Int)≤(L:Int):=by omega
 have hm1:(L:Int) < (ls.length:Int):=by omega
 have hPs:w1.heap.size+1≤(w1.alloc (.cells #[.slice xa p.zD.length xc,.slice ya p.vars.length yc,.slice za p.cells.length zc,.int .i64 p.read,.slice oa p.out.length oc,.int .i64 p.line,.int .i64 p.fin] 72)).heap.size:=by simp
 clear hO hbP hQ hI hxf hyf hzf hof hpa c7 c7' hst hsP
 go_wp2_with fail
 generalize hw2e:w1.alloc (.cells #[.slice xa p.zD.length xc,.slice ya p.vars.length yc,.slice za p.cells.length zc,.int .i64 p.read,.slice oa p.out.length oc,.int .i64 p.line,.int .i64 p.fin] 72)=w2 at *
 clear hw2e
 obtain⟨tb,to,rfl⟩:∃tb to,tad=some ⟨tb,to,none⟩:=(zA HST).zAM (by intro e;rw[e]at hl1;simp at hl1)
 have hl0':(0:Int) < (t.length:Int):=by omega
 have HTok:=zB (show ∀w',Below wA.heap.size wA w'→w'.cell? ⟨tb,to,none⟩=some (.string t[0])from fun w' hb=>by have:=zB1 ((zA HST).zH hb) hl1;rw[Nat.add_zero]at this;exact this)
 go_region_held3 (fun w'=>w'.cell? ⟨S,0,none⟩=some (.slice (some ⟨g,0,none⟩) ls.length cap)∧w'.cell? ⟨w1.heap.size,5,none⟩=some (.int .i64 ((L:Int)+1))∧w'.cell? ⟨g,L,none⟩=some (.slice (some ⟨tb,to,none⟩) t.length tc)) (go_keep) (fail)
 have HI2:=zB ((zA HI).zH (zS w2))
 have ct:=zA HTok _ (zA HI2).bel
 clear HI c5 hT c8
 generalize w2.drew=w3 at *
 generalize t[0]=x0 at *
 generalize w1.heap.size=P at *
 go_wp2_with fail
 refine(zA HIN wA w3 P X _ (zA HI2) (zA HST)).mono ?_
 rintro e w4 ⟨rfl,X4,hI4⟩
 have hbw4:=hI4.bel
 have hsw4:=hbw4.size
 have hB4:=(hbw4.block w.heap.size (by omega)).trans bB
 have hR4:=(hbw4.block (w.heap.size+1) (by omega)).trans bR
 by_cases hte:te=0
 ·subst hte
  rw[if_pos rfl]at hI4
  obtain⟨hp1f,hp1c⟩:=zA HP1 rfl
  have HQ2:=zB (And.intro ((zA HQ).1.trans (if_pos rfl)) ((zA HQ).2.trans (if_pos rfl)))
  obtain⟨xa,xc,ya,yc,za,zc,oa,oc,f1,f2,f3,f4⟩:=hI4.pl.zBp
  have hblk:=hI4.pl.block
  have hpa:plA X4.fv X4.vv X4.cv X4.ov p1=#[.slice xa p1.zD.length xc,.slice ya p1.vars.length yc,.slice za p1.cells.length zc,.int .i64 p1.read,.slice oa p1.out.length oc,.int .i64 p1.line,.int .i64 p1.fin]:=by rw[f1,f2,f3,f4];rfl
  rw[hpa]at hblk
  obtain⟨q0,q1,q2,q3,q4,q5,q6⟩:=seven hblk
  obtain⟨n0,n1,n2,n3,n4,n5,n6⟩:=seven hR4
  have zn:=zI hR4
  have hfin:=PlQ.w7 (w0:=w) (hI4.pl.rows.mono (B':=w.heap.size) (by omega)) hR4 (hbA.trans (hbw4.mono (B':=w.heap.size) (by omega))) (by omega) (.slice xa p1.zD.length xc) (.slice ya p1.vars.length yc) (.slice za p1.cells.length zc) (.int .i64 p1.read) (.slice oa p1.out.length oc) (.int .i64 p1.line) (.int .i64 p1.fin)
  have HF:=zB (And.intro hfin.2 (And.intro (hfin.1.whole hp1f hp1c) hpa))
  clear hI4 hbw4 hB4 hR4 HQ hblk hpa hfin f1 f2 f3 f4
  go_wp2_with fail
  refine bodyPost_ret (v:=.tuple #[.agg #[.slice xa p1.zD.length xc,.slice ya p1.vars.length yc,.slice za p1.cells.length zc,.int .i64 p1.read,.slice oa p1.out.length oc,.int .i64 p1.line,.int .i64 p1.fin],.int .i64 (2)]) ?_ rfl ?_
  ·simp[results,Tryz.results55,go_sem,n0,n1,n2,n3,n4,n5,n6]
  ·obtain⟨h1,h2,h3⟩:=zA HF
   obtain⟨e1,e2⟩:=zA HQ2
   rw[e1,e2]
   exact⟨h1,_,_,_,_,congrArg (fun a=>Ending.returned (Value.tuple #[Value.agg a,Value.int .i64 (2)])) h3.symm,h2⟩
 ·rw[if_neg hte]at hI4
  have hte':(te==0)=false:=by simpa using hte
  have HQ2:=zB (And.intro ((zA HQ).1.trans (if_neg hte)) ((zA HQ).2.trans (if_neg hte)))
  obtain⟨b0,b1,b2,b3,b4,b5,b6⟩:=seven hB4
  have HI4:=zB (And.intro hI4 (And.intro hR4 ((zA HV1).zH hbw4)))
  clear hI4 hbw4 hB4 hR4 HQ
  go_wp2_with fail
  refine(zAz _ _ _ _ _ p (zA HI4).2.2 (zA HBB)).mono ?_
  rintro e w5 ⟨hb5,X5,rfl,hQ5⟩
  have hs5:=hb5.size
  have hQ6:PlQ w5 w4.heap.size { p with fin:=te } X5:=⟨hQ5.own,hQ5.fl,hQ5.cl,hQ5.new⟩
  have hbQ:=(Below.refl w5.heap.size w5).alloc (Nat.le_refl _) (.cells (plA X5.fv X5.vv X5.cv X5.ov { p with fin:=te }) 72)
  have hO5:=hQ6.at hbQ (heap_alloc_new w5 (.cells (plA X5.fv X5.vv X5.cv X5.ov { p with fin:=te }) 72)) (by omega)
  obtain⟨xa,xc,ya,yc,za,zc,oa,oc,f1,f2,f3,f4⟩:=hO5.zBp
  have hpa:plA X5.fv X5.vv X5.cv X5.ov p=#[.slice xa p.zD.length xc,.slice ya p.vars.length yc,.slice za p.cells.length zc,.int .i64 p.read,.slice oa p.out.length oc,.int .i64 p.line,.int .i64 p.fin]:=by rw[f1,f2,f3,f4];rfl
  have hpb:plA X5.fv X5.vv X5.cv X5.ov { p with fin:=te }=#[.slice xa p.zD.length xc,.slice ya p.vars.length yc,.slice za p.cells.length zc,.int .i64 p.read,.slice oa p.out.length oc,.int .i64 p.line,.int .i64 te]:=by rw[f1,f2,f3,f4];rfl
  have hb45:Below wA.heap.size wA (w5.alloc (.cells (plA X5.fv X5.vv X5.cv X5.ov { p with fin:=te }) 72)):=((zA HI4).1.bel.trans (hb5.mono (B':=wA.heap.size) (zA HI4).1.bel.size)).trans (hbQ.mono (B':=wA.heap.size) (by omega))
  have hR6:=(hb45.block (w.heap.size+1) (by omega)).trans bR
  have hblk:=hO5.block
  have hfin:=PlQ.w7 (w0:=w) (hO5.rows.mono (B':=w.heap.size) (by omega)) hR6 (hbA.trans (hb45.mono (B':=w.heap.size) (by omega))) (by omega) (.slice xa p.zD.length xc) (.slice ya p.vars.length yc) (.slice za p.cells.length zc) (.int .i64 p.read) (.slice oa p.out.length oc) (.int .i64 p.line) (.int .i64 te)
  have hv7:=hfin.1.whole (zA HOK).some (by have:=(zA HOK).cells;show 0 < p.cells.length;omega)
  rw[hpb]at hblk hR6 hfin hv7
  rw[hpa]
  obtain⟨q0,q1,q2,q3,q4,q5,q6⟩:=seven hblk
  obtain⟨n0,n1,n2,n3,n4,n5,n6⟩:=seven hR6
  have zn:=zI hR6
  have HF:=zB (And.intro hfin.2 (And.intro hv7 hpb))
  clear hO5 hQ6 hbQ hb45 hR6 hblk hfin hv7 hpa hpb f1 f2 f3 f4 hb5 hQ5 b0 b1 b2 b3 b4 b5 b6
  go_wp2_with fail
  refine bodyPost_ret (v:=.tuple #[.agg #[.slice xa p.zD.length xc,.slice ya p.vars.length yc,.slice za p.cells.length zc,.int .i64 p.read,.slice oa p.out.length oc,.int .i64 p.line,.int .i64 te],.int .i64 1]) ?_ rfl ?_
  ·simp[results,Tryz.results55,go_sem,n0,n1,n2,n3,n4,n5,n6]
  ·obtain⟨h1,h2,h3⟩:=zA HF
   obtain⟨e1,e2⟩:=zA HQ2
   rw[e1,e2]
   exact⟨h1,_,_,_,_,congrArg (fun a=>Ending.returned (Value.tuple #[Value.agg a,Value.int .i64 1])) h3.symm,h2⟩
theorem zL4 (w:World) (S g cap L:Nat) (ls:List (List ByteArray)) (p:Rf.Pl) (fv vv cv ov iv:Value) (t:List ByteArray) (hG:zAg w S g cap ls) (hv:PlV w fv vv cv ov p) (hB:PlB p) (hok:Rf.zEb ls p) (hL:Lawful ls) (hnest:Rf.nested ls=0) (hln:p.line=(L:Int)+1) (hLl:L < ls.length) (ht:ls[L]=t) (hl1:0 < t.length) (hiv:∃a n c,iv=.slice a n c)
  (h0:(t[0].toList==[115,101,116])=false) (h1:(t[0].toList==[99,97,108,108])=false) (h2:(t[0].toList==[114,101,116,117,114,110])=false) (h3:(t[0].toList==[101,110,100])=false) (h4:(t[0].toList==[112,114,105,110,116])=false) (h5:(t[0].toList==[114,101,97,100])=true) (te:Int) (p1:Rf.Pl) (hp1:te=0→0 < p1.zD.length∧0 < p1.cells.length)
  (hin:∀(w0 w':World) (P:Nat) (X:PlX) (tv:Value),Below w.heap.size w w0→InS w0 w' S g cap ls P p X→zu w0 tv t→Calls Tryz.prog 99 #[.pointer (some ⟨S,0,none⟩),.pointer (some ⟨P,0,none⟩),tv,iv] w' fun e w''=>e=.returned (.int .i64 te)∧∃X',InS w0 w'' S g cap ls P (if te=0 then p1 else p) X') :
  Calls Tryz.prog 55 #[.pointer (some ⟨S,0,none⟩),.agg (plA fv vv cv ov p),iv] w (zCA (if te=0 then p1 else { p with fin:=te }) (if te=0 then 3 else 1) w):=by
 have HG:=zB hG
 have HV:=zB hv
 have HBB:=zB hB
 have HOK:=zB hok
 have hlen:=hL.len
 have _:=hnest
 have HIN:=zB hin
 obtain⟨fb,fo,fcap,rfl,hx1⟩:=hv.zD
 obtain⟨cb,co,ccap,rfl,hx2⟩:=hv.cells
 obtain⟨vad,vcap,rfl,hx3⟩:=hv.vars
 obtain⟨oad,ocap,rfl,hx4⟩:=hv.out
 obtain⟨iad,iln,icap,rfl⟩:=hiv
 have HLN:=zB hln
 have HP1:=zB hp1
 have HT:=zB ht
 obtain⟨q,hq⟩:∃q,q=(if te=0 then p1 else ({ p with fin:=te }:Rf.Pl)):=⟨_,rfl⟩
 obtain⟨nn,hnn⟩:∃nn,nn=(if te=0 then (3:Int)else 1):=⟨_,rfl⟩
 rw[←hq,←hnn]
 have HQ:=zB (And.intro hq hnn)
 have hbA:=((Below.refl w.heap.size w).alloc (Nat.le_refl _) (.cells (plA (.slice (some ⟨fb,fo,none⟩) p.zD.length fcap) (.slice vad p.vars.length vcap) (.slice (some ⟨cb,co,none⟩) p.cells.length ccap) (.slice oad p.out.length ocap) p) 72)).alloc (by simp) (.cells #[.slice none 0 0,.slice none 0 0,.slice none 0 0,.int .i64 0,.slice none 0 0,.int .i64 0,.int .i64 0] 72)
 have bB:=zV (heap_alloc_new w (.cells (plA (.slice (some ⟨fb,fo,none⟩) p.zD.length fcap) (.slice vad p.vars.length vcap) (.slice (some ⟨cb,co,none⟩) p.cells.length ccap) (.slice oad p.out.length ocap) p) 72)) (.cells #[.slice none 0 0,.slice none 0 0,.slice none 0 0,.int .i64 0,.slice none 0 0,.int .i64 0,.int .i64 0] 72)
 have bR:=zAG w (.cells (plA (.slice (some ⟨fb,fo,none⟩) p.zD.length fcap) (.slice vad p.vars.length vcap) (.slice (some ⟨cb,co,none⟩) p.cells.length ccap) (.slice oad p.out.length ocap) p) 72) (.cells #[.slice none 0 0,.slice none 0 0,.slice none 0 0,.int .i64 0,.slice none 0 0,.int .i64 0,.int .i64 0] 72)
 have hsA:((w.alloc (.cells (plA (.slice (some ⟨fb,fo,none⟩) p.zD.length fcap) (.slice vad p.vars.length vcap) (.slice (some ⟨cb,co,none⟩) p.cells.length ccap) (.slice oad p.out.length ocap) p) 72)).alloc (.cells #[.slice none 0 0,.slice none 0 0,.slice none 0 0,.int .i64 0,.slice none 0 0,.int .i64 0,.int .i64 0] 72)).heap.size=w.heap.size+2:=by simp
 clear hG hv hB hok hL hin hx1 hx2 hx3 hx4 hln hp1 hq hnn ht
 unfold plA at *
 go_enter Tryz.func55,Tryz.ntmps55
 go_wp2_with fail
 generalize (w.alloc _).alloc _=wA at *
 have HV1:=zB ((zA HV).zH hbA)
 refine(zAz _ _ _ _ _ p (zA HV1) (zA HBB)).mono ?_
 rintro e w1 ⟨hb1,X,rfl,hQ⟩
 have hs1:=hb1.size
 have hbP:=(Below.refl w1.heap.size w1).alloc (Nat.le_refl _) (.cells (plA X.fv X.vv X.cv X.ov p) 72)
 have hO:=hQ.at hbP (heap_alloc_new w1 (.cells (plA X.fv X.vv X.cv X.ov p) 72)) (by omega)
 have hI:InS wA (w1.alloc (.cells (plA X.fv X.vv X.cv X.ov p) 72)) S g cap ls w1.heap.size p X:=⟨(zA HG).zH hbA,hb1.trans (hbP.mono (B':=wA.heap.size) (by omega)),hO⟩
 obtain⟨xa,xc,hxf⟩:=zE hO.zDV
 obtain⟨ya,yc,hyf⟩:=zE hO.zIx
 obtain⟨za,zc,hzf⟩:=zE hO.zFL
 obtain⟨oa,oc,hof⟩:=zE hO.zJs
 have hpa:plA X.fv X.vv X.cv X.ov p=#[.slice xa p.zD.length xc,.slice ya p.vars.length yc,.slice za p.cells.length zc,.int .i64 p.read,.slice oa p.out.length oc,.int .i64 p.line,.int .i64 p.fin]:=by rw[hxf,hyf,hzf,hof];rfl
 rw[hpa]at hI ⊢
 have hsP:(w1.alloc (.cells #[.slice xa p.zD.length xc,.slice ya p.vars.length yc,.slice za p.cells.length zc,.int .i64 p.read,.slice oa p.out.length oc,.int .i64 p.line,.int .i64 p.fin] 72)).heap.size=w1.heap.size+1:=by simp
 have c5:(w1.alloc (.cells #[.slice xa p.zD.length xc,.slice ya p.vars.length yc,.slice za p.cells.length zc,.int .i64 p.read,.slice oa p.out.length oc,.int .i64 p.line,.int .i64 p.fin] 72)).cell? ⟨w1.heap.size,5,none⟩=some (.int .i64 ((L:Int)+1)):=by
  have:=zC (heap_alloc_new w1 (.cells #[.slice xa p.zD.length xc,.slice ya p.vars.length yc,.slice za p.cells.length zc,.int .i64 p.read,.slice oa p.out.length oc,.int .i64 p.line,.int .i64 p.fin] 72)) 5 (by simp)
  rw[this]
  exact congrArg (fun x=>some (Value.int .i64 x)) (zA HLN)
 have hT:=hI.zDR.top
 obtain⟨tad,tc,c7,hst⟩:=(zA HG).row L hLl
 have c7':=cell_later hbA c7
 have c8:=cell_later hI.bel c7'
 have HST:=zB (hst.zH hbA)
 rw[zA HT]at c8 HST
 have HI:=zB hI
 have hw1:IntKind.i64.wrap ((L:Int)+1-1)=L:=by rw[show (L:Int)+1-1=(L:Int) by omega];exact IntWalk.i64_in _ ⟨by omega,by omega⟩
 have hw2:IntKind.i64.wrap (L:Int)=L:=IntWalk.i64_in _ ⟨by omega,by omega⟩
 have hm0:(0:Int)≤(L:Int):=by omega
 have hm1:(L:Int) < (ls.length:Int):=by omega
 have hPs:w1.heap.size+1≤(w1.alloc (.cells #[.slice xa p.zD.length xc,.slice ya p.vars.length yc,.slice za p.cells.length zc,.int .i64 p.read,.slice oa p.out.length oc,.int .i64 p.line,.int .i64 p.fin] 72)).heap.size:=by simp
 clear hO hbP hQ hI hxf hyf hzf hof hpa c7 c7' hst hsP
 go_wp2_with fail
 generalize hw2e:w1.alloc (.cells #[.slice xa p.zD.length xc,.slice ya p.vars.length yc,.slice za p.cells.length zc,.int .i64 p.read,.slice oa p.out.length oc,.int .i64 p.line,.int .i64 p.fin] 72)=w2 at *
 clear hw2e
 obtain⟨tb,to,rfl⟩:∃tb to,tad=some ⟨tb,to,none⟩:=(zA HST).zAM (by intro e;rw[e]at hl1;simp at hl1)
 have hl0':(0:Int) < (t.length:Int):=by omega
 have HTok:=zB (show ∀w',Below wA.heap.size wA w'→w'.cell? ⟨tb,to,none⟩=some (.string t[0])from fun w' hb=>by have:=zB1 ((zA HST).zH hb) hl1;rw[Nat.add_zero]at this;exact this)
 go_region_held3 (fun w'=>w'.cell? ⟨S,0,none⟩=some (.slice (some ⟨g,0,none⟩) ls.length cap)∧w'.cell? ⟨w1.heap.size,5,none⟩=some (.int .i64 ((L:Int)+1))∧w'.cell? ⟨g,L,none⟩=some (.slice (some ⟨tb,to,none⟩) t.length tc)) (go_keep) (fail)
 have HI2:=zB ((zA HI).zH (zS w2))
 have ct:=zA HTok _ (zA HI2).bel
 clear HI c5 hT c8
 generalize w2.drew=w3 at *
 generalize t[0]=x0 at *
 generalize w1.heap.size=P at *
 go_wp2_with fail
 refine(zA HIN wA w3 P X _ hbA (zA HI2) (zA HST)).mono ?_
 rintro e w4 ⟨rfl,X4,hI4⟩
 have hbw4:=hI4.bel
 have hsw4:=hbw4.size
 have hB4:=(hbw4.block w.heap.size (by omega)).trans bB
 have hR4:=(hbw4.block (w.heap.size+1) (by omega)).trans bR
 by_cases hte:te=0
 ·subst hte
  rw[if_pos rfl]at hI4
  obtain⟨hp1f,hp1c⟩:=zA HP1 rfl
  have HQ2:=zB (And.intro ((zA HQ).1.trans (if_pos rfl)) ((zA HQ).2.trans (if_pos rfl)))
  obtain⟨xa,xc,ya,yc,za,zc,oa,oc,f1,f2,f3,f4⟩:=hI4.pl.zBp
  have hblk:=hI4.pl.block
  have hpa:plA X4.fv X4.vv X4.cv X4.ov p1=#[.slice xa p1.zD.length xc,.slice ya p1.vars.length yc,.slice za p1.cells.length zc,.int .i64 p1.read,.slice oa p1.out.length oc,.int .i64 p1.line,.int .i64 p1.fin]:=by rw[f1,f2,f3,f4];rfl
  rw[hpa]at hblk
  obtain⟨q0,q1,q2,q3,q4,q5,q6⟩:=seven hblk
  obtain⟨n0,n1,n2,n3,n4,n5,n6⟩:=seven hR4
  have zn:=zI hR4
  have hfin:=PlQ.w7 (w0:=w) (hI4.pl.rows.mono (B':=w.heap.size) (by omega)) hR4 (hbA.trans (hbw4.mono (B':=w.heap.size) (by omega))) (by omega) (.slice xa p1.zD.length xc) (.slice ya p1.vars.length yc) (.slice za p1.cells.length zc) (.int .i64 p1.read) (.slice oa p1.out.length oc) (.int .i64 p1.line) (.int .i64 p1.fin)
  have HF:=zB (And.intro hfin.2 (And.intro (hfin.1.whole hp1f hp1c) hpa))
  clear hI4 hbw4 hB4 hR4 HQ hblk hpa hfin f1 f2 f3 f4
  go_wp2_with fail
  refine bodyPost_ret (v:=.tuple #[.agg #[.slice xa p1.zD.length xc,.slice ya p1.vars.length yc,.slice za p1.cells.length zc,.int .i64 p1.read,.slice oa p1.out.length oc,.int .i64 p1.line,.int .i64 p1.fin],.int .i64 (3)]) ?_ rfl ?_
  ·simp[results,Tryz.results55,go_sem,n0,n1,n2,n3,n4,n5,n6]
  ·obtain⟨h1,h2,h3⟩:=zA HF
   obtain⟨e1,e2⟩:=zA HQ2
   rw[e1,e2]
   exact⟨h1,_,_,_,_,congrArg (fun a=>Ending.returned (Value.tuple #[Value.agg a,Value.int .i64 (3)])) h3.symm,h2⟩
 ·rw[if_neg hte]at hI4
  have hte':(te==0)=false:=by simpa using hte
  have HQ2:=zB (And.intro ((zA HQ).1.trans (if_neg hte)) ((zA HQ).2.trans (if_neg hte)))
  obtain⟨b0,b1,b2,b3,b4,b5,b6⟩:=seven hB4
  have HI4:=zB (And.intro hI4 (And.intro hR4 ((zA HV1).zH hbw4)))
  clear hI4 hbw4 hB4 hR4 HQ
  go_wp2_with fail
  refine(zAz _ _ _ _ _ p (zA HI4).2.2 (zA HBB)).mono ?_
  rintro e w5 ⟨hb5,X5,rfl,hQ5⟩
  have hs5:=hb5.size
  have hQ6:PlQ w5 w4.heap.size { p with fin:=te } X5:=⟨hQ5.own,hQ5.fl,hQ5.cl,hQ5.new⟩
  have hbQ:=(Below.refl w5.heap.size w5).alloc (Nat.le_refl _) (.cells (plA X5.fv X5.vv X5.cv X5.ov { p with fin:=te }) 72)
  have hO5:=hQ6.at hbQ (heap_alloc_new w5 (.cells (plA X5.fv X5.vv X5.cv X5.ov { p with fin:=te }) 72)) (by omega)
  obtain⟨xa,xc,ya,yc,za,zc,oa,oc,f1,f2,f3,f4⟩:=hO5.zBp
  have hpa:plA X5.fv X5.vv X5.cv X5.ov p=#[.slice xa p.zD.length xc,.slice ya p.vars.length yc,.slice za p.cells.length zc,.int .i64 p.read,.slice oa p.out.length oc,.int .i64 p.line,.int .i64 p.fin]:=by rw[f1,f2,f3,f4];rfl
  have hpb:plA X5.fv X5.vv X5.cv X5.ov { p with fin:=te }=#[.slice xa p.zD.length xc,.slice ya p.vars.length yc,.slice za p.cells.length zc,.int .i64 p.read,.slice oa p.out.length oc,.int .i64 p.line,.int .i64 te]:=by rw[f1,f2,f3,f4];rfl
  have hb45:Below wA.heap.size wA (w5.alloc (.cells (plA X5.fv X5.vv X5.cv X5.ov { p with fin:=te }) 72)):=((zA HI4).1.bel.trans (hb5.mono (B':=wA.heap.size) (zA HI4).1.bel.size)).trans (hbQ.mono (B':=wA.heap.size) (by omega))
  have hR6:=(hb45.block (w.heap.size+1) (by omega)).trans bR
  have hblk:=hO5.block
  have hfin:=PlQ.w7 (w0:=w) (hO5.rows.mono (B':=w.heap.size) (by omega)) hR6 (hbA.trans (hb45.mono (B':=w.heap.size) (by omega))) (by omega) (.slice xa p.zD.length xc) (.slice ya p.vars.length yc) (.slice za p.cells.length zc) (.int .i64 p.read) (.slice oa p.out.length oc) (.int .i64 p.line) (.int .i64 te)
  have hv7:=hfin.1.whole (zA HOK).some (by have:=(zA HOK).cells;show 0 < p.cells.length;omega)
  rw[hpb]at hblk hR6 hfin hv7
  rw[hpa]
  obtain⟨q0,q1,q2,q3,q4,q5,q6⟩:=seven hblk
  obtain⟨n0,n1,n2,n3,n4,n5,n6⟩:=seven hR6
  have zn:=zI hR6
  have HF:=zB (And.intro hfin.2 (And.intro hv7 hpb))
  clear hO5 hQ6 hbQ hb45 hR6 hblk hfin hv7 hpa hpb f1 f2 f3 f4 hb5 hQ5 b0 b1 b2 b3 b4 b5 b6
  go_wp2_with fail
  refine bodyPost_ret (v:=.tuple #[.agg #[.slice xa p.zD.length xc,.slice ya p.vars.length yc,.slice za p.cells.length zc,.int .i64 p.read,.slice oa p.out.length oc,.int .i64 p.line,.int .i64 te],.int .i64 1]) ?_ rfl ?_
  ·simp[results,Tryz.results55,go_sem,n0,n1,n2,n3,n4,n5,n6]
  ·obtain⟨h1,h2,h3⟩:=zA HF
   obtain⟨e1,e2⟩:=zA HQ2
   rw[e1,e2]
   exact⟨h1,_,_,_,_,congrArg (fun a=>Ending.returned (Value.tuple #[Value.agg a,Value.int .i64 1])) h3.symm,h2⟩
theorem zJf (w:World) (S g cap L:Nat) (ls:List (List ByteArray)) (p:Rf.Pl) (fv vv cv ov iv:Value) (t:List ByteArray) (hG:zAg w S g cap ls) (hv:PlV w fv vv cv ov p) (hB:PlB p) (hok:Rf.zEb ls p) (hL:Lawful ls) (hnest:Rf.nested ls=0) (hln:p.line=(L:Int)+1) (hLl:L < ls.length) (ht:ls[L]=t) (hl1:0 < t.length) (hiv:∃a n c,iv=.slice a n c)
  (h0:(t[0].toList==[115,101,116])=false) (h1:(t[0].toList==[99,97,108,108])=false) (h2:(t[0].toList==[114,101,116,117,114,110])=false) (h3:(t[0].toList==[101,110,100])=false) (h4:(t[0].toList==[112,114,105,110,116])=false) (h5:(t[0].toList==[114,101,97,100])=false) (te:Int) (p1:Rf.Pl) (hp1:te=0→0 < p1.zD.length∧0 < p1.cells.length)
  (hin:∀(w0 w':World) (P:Nat) (X:PlX) (tv:Value),InS w0 w' S g cap ls P p X→zu w0 tv t→Calls Tryz.prog 99 #[.pointer (some ⟨S,0,none⟩),.pointer (some ⟨P,0,none⟩),tv,iv] w' fun e w''=>e=.returned (.int .i64 te)∧∃X',InS w0 w'' S g cap ls P (if te=0 then p1 else p) X') :
  Calls Tryz.prog 55 #[.pointer (some ⟨S,0,none⟩),.agg (plA fv vv cv ov p),iv] w (zCA (if te=0 then p1 else { p with fin:=te }) (if te=0 then 1 else 1) w):=by
 have HG:=zB hG
 have HV:=zB hv
 have HBB:=zB hB
 have HOK:=zB hok
 have hlen:=hL.len
 have _:=hnest
 have HIN:=zB hin
 obtain⟨fb,fo,fcap,rfl,hx1⟩:=hv.zD
 obtain⟨cb,co,ccap,rfl,hx2⟩:=hv.cells
 obtain⟨vad,vcap,rfl,hx3⟩:=hv.vars
 obtain⟨oad,ocap,rfl,hx4⟩:=hv.out
 obtain⟨iad,iln,icap,rfl⟩:=hiv
 have HLN:=zB hln
 have HP1:=zB hp1
 have HT:=zB ht
 obtain⟨q,hq⟩:∃q,q=(if te=0 then p1 else ({ p with fin:=te }:Rf.Pl)):=⟨_,rfl⟩
 obtain⟨nn,hnn⟩:∃nn,nn=(if te=0 then (1:Int)else 1):=⟨_,rfl⟩
 rw[←hq,←hnn]
 have HQ:=zB (And.intro hq hnn)
 have hbA:=((Below.refl w.heap.size w).alloc (Nat.le_refl _) (.cells (plA (.slice (some ⟨fb,fo,none⟩) p.zD.length fcap) (.slice vad p.vars.length vcap) (.slice (some ⟨cb,co,none⟩) p.cells.length ccap) (.slice oad p.out.length ocap) p) 72)).alloc (by simp) (.cells #[.slice none 0 0,.slice none 0 0,.slice none 0 0,.int .i64 0,.slice none 0 0,.int .i64 0,.int .i64 0] 72)
 have bB:=zV (heap_alloc_new w (.cells (plA (.slice (some ⟨fb,fo,none⟩) p.zD.length fcap) (.slice vad p.vars.length vcap) (.slice (some ⟨cb,co,none⟩) p.cells.length ccap) (.slice oad p.out.length ocap) p) 72)) (.cells #[.slice none 0 0,.slice none 0 0,.slice none 0 0,.int .i64 0,.slice none 0 0,.int .i64 0,.int .i64 0] 72)
 have bR:=zAG w (.cells (plA (.slice (some ⟨fb,fo,none⟩) p.zD.length fcap) (.slice vad p.vars.length vcap) (.slice (some ⟨cb,co,none⟩) p.cells.length ccap) (.slice oad p.out.length ocap) p) 72) (.cells #[.slice none 0 0,.slice none 0 0,.slice none 0 0,.int .i64 0,.slice none 0 0,.int .i64 0,.int .i64 0] 72)
 have hsA:((w.alloc (.cells (plA (.slice (some ⟨fb,fo,none⟩) p.zD.length fcap) (.slice vad p.vars.length vcap) (.slice (some ⟨cb,co,none⟩) p.cells.length ccap) (.slice oad p.out.length ocap) p) 72)).alloc (.cells #[.slice none 0 0,.slice none 0 0,.slice none 0 0,.int .i64 0,.slice none 0 0,.int .i64 0,.int .i64 0] 72)).heap.size=w.heap.size+2:=by simp
 clear hG hv hB hok hL hin hx1 hx2 hx3 hx4 hln hp1 hq hnn ht
 unfold plA at *
 go_enter Tryz.func55,Tryz.ntmps55
 go_wp2_with fail
 generalize (w.alloc _).alloc _=wA at *
 have HV1:=zB ((zA HV).zH hbA)
 refine(zAz _ _ _ _ _ p (zA HV1) (zA HBB)).mono ?_
 rintro e w1 ⟨hb1,X,rfl,hQ⟩
 have hs1:=hb1.size
 have hbP:=(Below.refl w1.heap.size w1).alloc (Nat.le_refl _) (.cells (plA X.fv X.vv X.cv X.ov p) 72)
 have hO:=hQ.at hbP (heap_alloc_new w1 (.cells (plA X.fv X.vv X.cv X.ov p) 72)) (by omega)
 have hI:InS wA (w1.alloc (.cells (plA X.fv X.vv X.cv X.ov p) 72)) S g cap ls w1.heap.size p X:=⟨(zA HG).zH hbA,hb1.trans (hbP.mono (B':=wA.heap.size) (by omega)),hO⟩
 obtain⟨xa,xc,hxf⟩:=zE hO.zDV
 obtain⟨ya,yc,hyf⟩:=zE hO.zIx
 obtain⟨za,zc,hzf⟩:=zE hO.zFL
 obtain⟨oa,oc,hof⟩:=zE hO.zJs
 have hpa:plA X.fv X.vv X.cv X.ov p=#[.slice xa p.zD.length xc,.slice ya p.vars.length yc,.slice za p.cells.length zc,.int .i64 p.read,.slice oa p.out.length oc,.int .i64 p.line,.int .i64 p.fin]:=by rw[hxf,hyf,hzf,hof];rfl
 rw[hpa]at hI ⊢
 have hsP:(w1.alloc (.cells #[.slice xa p.zD.length xc,.slice ya p.vars.length yc,.slice za p.cells.length zc,.int .i64 p.read,.slice oa p.out.length oc,.int .i64 p.line,.int .i64 p.fin] 72)).heap.size=w1.heap.size+1:=by simp
 have c5:(w1.alloc (.cells #[.slice xa p.zD.length xc,.slice ya p.vars.length yc,.slice za p.cells.length zc,.int .i64 p.read,.slice oa p.out.length oc,.int .i64 p.line,.int .i64 p.fin] 72)).cell? ⟨w1.heap.size,5,none⟩=some (.int .i64 ((L:Int)+1)):=by
  have:=zC (heap_alloc_new w1 (.cells #[.slice xa p.zD.length xc,.slice ya p.vars.length yc,.slice za p.cells.length zc,.int .i64 p.read,.slice oa p.out.length oc,.int .i64 p.line,.int .i64 p.fin] 72)) 5 (by simp)
  rw[this]
  exact congrArg (fun x=>some (Value.int .i64 x)) (zA HLN)
 have hT:=hI.zDR.top
 obtain⟨tad,tc,c7,hst⟩:=(zA HG).row L hLl
 have c7':=cell_later hbA c7
 have c8:=cell_later hI.bel c7'
 have HST:=zB (hst.zH hbA)
 rw[zA HT]at c8 HST
 have HI:=zB hI
 have hw1:IntKind.i64.wrap ((L:Int)+1-1)=L:=by rw[show (L:Int)+1-1=(L:Int) by omega];exact IntWalk.i64_in _ ⟨by omega,by omega⟩
 have hw2:IntKind.i64.wrap (L:Int)=L:=IntWalk.i64_in _ ⟨by omega,by omega⟩
 have hm0:(0:Int)≤(L:Int):=by omega
 have hm1:(L:Int) < (ls.length:Int):=by omega
 have hPs:w1.heap.size+1≤(w1.alloc (.cells #[.slice xa p.zD.length xc,.slice ya p.vars.length yc,.slice za p.cells.length zc,.int .i64 p.read,.slice oa p.out.length oc,.int .i64 p.line,.int .i64 p.fin] 72)).heap.size:=by simp
 clear hO hbP hQ hI hxf hyf hzf hof hpa c7 c7' hst hsP
 go_wp2_with fail
 generalize hw2e:w1.alloc (.cells #[.slice xa p.zD.length xc,.slice ya p.vars.length yc,.slice za p.cells.length zc,.int .i64 p.read,.slice oa p.out.length oc,.int .i64 p.line,.int .i64 p.fin] 72)=w2 at *
 clear hw2e
 obtain⟨tb,to,rfl⟩:∃tb to,tad=some ⟨tb,to,none⟩:=(zA HST).zAM (by intro e;rw[e]at hl1;simp at hl1)
 have hl0':(0:Int) < (t.length:Int):=by omega
 have HTok:=zB (show ∀w',Below wA.heap.size wA w'→w'.cell? ⟨tb,to,none⟩=some (.string t[0])from fun w' hb=>by have:=zB1 ((zA HST).zH hb) hl1;rw[Nat.add_zero]at this;exact this)
 go_region_held3 (fun w'=>w'.cell? ⟨S,0,none⟩=some (.slice (some ⟨g,0,none⟩) ls.length cap)∧w'.cell? ⟨w1.heap.size,5,none⟩=some (.int .i64 ((L:Int)+1))∧w'.cell? ⟨g,L,none⟩=some (.slice (some ⟨tb,to,none⟩) t.length tc)) (go_keep) (fail)
 have HI2:=zB ((zA HI).zH (zS w2))
 have ct:=zA HTok _ (zA HI2).bel
 clear HI c5 hT c8
 generalize w2.drew=w3 at *
 generalize t[0]=x0 at *
 generalize w1.heap.size=P at *
 go_wp2_with fail
 refine(zA HIN wA w3 P X _ (zA HI2) (zA HST)).mono ?_
 rintro e w4 ⟨rfl,X4,hI4⟩
 have hbw4:=hI4.bel
 have hsw4:=hbw4.size
 have hB4:=(hbw4.block w.heap.size (by omega)).trans bB
 have hR4:=(hbw4.block (w.heap.size+1) (by omega)).trans bR
 by_cases hte:te=0
 ·subst hte
  rw[if_pos rfl]at hI4
  obtain⟨hp1f,hp1c⟩:=zA HP1 rfl
  have HQ2:=zB (And.intro ((zA HQ).1.trans (if_pos rfl)) ((zA HQ).2.trans (if_pos rfl)))
  obtain⟨xa,xc,ya,yc,za,zc,oa,oc,f1,f2,f3,f4⟩:=hI4.pl.zBp
  have hblk:=hI4.pl.block
  have hpa:plA X4.fv X4.vv X4.cv X4.ov p1=#[.slice xa p1.zD.length xc,.slice ya p1.vars.length yc,.slice za p1.cells.length zc,.int .i64 p1.read,.slice oa p1.out.length oc,.int .i64 p1.line,.int .i64 p1.fin]:=by rw[f1,f2,f3,f4];rfl
  rw[hpa]at hblk
  obtain⟨q0,q1,q2,q3,q4,q5,q6⟩:=seven hblk
  obtain⟨n0,n1,n2,n3,n4,n5,n6⟩:=seven hR4
  have zn:=zI hR4
  have hfin:=PlQ.w7 (w0:=w) (hI4.pl.rows.mono (B':=w.heap.size) (by omega)) hR4 (hbA.trans (hbw4.mono (B':=w.heap.size) (by omega))) (by omega) (.slice xa p1.zD.length xc) (.slice ya p1.vars.length yc) (.slice za p1.cells.length zc) (.int .i64 p1.read) (.slice oa p1.out.length oc) (.int .i64 p1.line) (.int .i64 p1.fin)
  have HF:=zB (And.intro hfin.2 (And.intro (hfin.1.whole hp1f hp1c) hpa))
  clear hI4 hbw4 hB4 hR4 HQ hblk hpa hfin f1 f2 f3 f4
  go_wp2_with fail
  refine bodyPost_ret (v:=.tuple #[.agg #[.slice xa p1.zD.length xc,.slice ya p1.vars.length yc,.slice za p1.cells.length zc,.int .i64 p1.read,.slice oa p1.out.length oc,.int .i64 p1.line,.int .i64 p1.fin],.int .i64 (1)]) ?_ rfl ?_
  ·simp[results,Tryz.results55,go_sem,n0,n1,n2,n3,n4,n5,n6]
  ·obtain⟨h1,h2,h3⟩:=zA HF
   obtain⟨e1,e2⟩:=zA HQ2
   rw[e1,e2]
   exact⟨h1,_,_,_,_,congrArg (fun a=>Ending.returned (Value.tuple #[Value.agg a,Value.int .i64 (1)])) h3.symm,h2⟩
 ·rw[if_neg hte]at hI4
  have hte':(te==0)=false:=by simpa using hte
  have HQ2:=zB (And.intro ((zA HQ).1.trans (if_neg hte)) ((zA HQ).2.trans (if_neg hte)))
  obtain⟨b0,b1,b2,b3,b4,b5,b6⟩:=seven hB4
  have HI4:=zB (And.intro hI4 (And.intro hR4 ((zA HV1).zH hbw4)))
  clear hI4 hbw4 hB4 hR4 HQ
  go_wp2_with fail
  refine(zAz _ _ _ _ _ p (zA HI4).2.2 (zA HBB)).mono ?_
  rintro e w5 ⟨hb5,X5,rfl,hQ5⟩
  have hs5:=hb5.size
  have hQ6:PlQ w5 w4.heap.size { p with fin:=te } X5:=⟨hQ5.own,hQ5.fl,hQ5.cl,hQ5.new⟩
  have hbQ:=(Below.refl w5.heap.size w5).alloc (Nat.le_refl _) (.cells (plA X5.fv X5.vv X5.cv X5.ov { p with fin:=te }) 72)
  have hO5:=hQ6.at hbQ (heap_alloc_new w5 (.cells (plA X5.fv X5.vv X5.cv X5.ov { p with fin:=te }) 72)) (by omega)
  obtain⟨xa,xc,ya,yc,za,zc,oa,oc,f1,f2,f3,f4⟩:=hO5.zBp
  have hpa:plA X5.fv X5.vv X5.cv X5.ov p=#[.slice xa p.zD.length xc,.slice ya p.vars.length yc,.slice za p.cells.length zc,.int .i64 p.read,.slice oa p.out.length oc,.int .i64 p.line,.int .i64 p.fin]:=by rw[f1,f2,f3,f4];rfl
  have hpb:plA X5.fv X5.vv X5.cv X5.ov { p with fin:=te }=#[.slice xa p.zD.length xc,.slice ya p.vars.length yc,.slice za p.cells.length zc,.int .i64 p.read,.slice oa p.out.length oc,.int .i64 p.line,.int .i64 te]:=by rw[f1,f2,f3,f4];rfl
  have hb45:Below wA.heap.size wA (w5.alloc (.cells (plA X5.fv X5.vv X5.cv X5.ov { p with fin:=te }) 72)):=((zA HI4).1.bel.trans (hb5.mono (B':=wA.heap.size) (zA HI4).1.bel.size)).trans (hbQ.mono (B':=wA.heap.size) (by omega))
  have hR6:=(hb45.block (w.heap.size+1) (by omega)).trans bR
  have hblk:=hO5.block
  have hfin:=PlQ.w7 (w0:=w) (hO5.rows.mono (B':=w.heap.size) (by omega)) hR6 (hbA.trans (hb45.mono (B':=w.heap.size) (by omega))) (by omega) (.slice xa p.zD.length xc) (.slice ya p.vars.length yc) (.slice za p.cells.length zc) (.int .i64 p.read) (.slice oa p.out.length oc) (.int .i64 p.line) (.int .i64 te)
  have hv7:=hfin.1.whole (zA HOK).some (by have:=(zA HOK).cells;show 0 < p.cells.length;omega)
  rw[hpb]at hblk hR6 hfin hv7
  rw[hpa]
  obtain⟨q0,q1,q2,q3,q4,q5,q6⟩:=seven hblk
  obtain⟨n0,n1,n2,n3,n4,n5,n6⟩:=seven hR6
  have zn:=zI hR6
  have HF:=zB (And.intro hfin.2 (And.intro hv7 hpb))
  clear hO5 hQ6 hbQ hb45 hR6 hblk hfin hv7 hpa hpb f1 f2 f3 f4 hb5 hQ5 b0 b1 b2 b3 b4 b5 b6
  go_wp2_with fail
  refine bodyPost_ret (v:=.tuple #[.agg #[.slice xa p.zD.length xc,.slice ya p.vars.length yc,.slice za p.cells.length zc,.int .i64 p.read,.slice oa p.out.length oc,.int .i64 p.line,.int .i64 te],.int .i64 1]) ?_ rfl ?_
  ·simp[results,Tryz.results55,go_sem,n0,n1,n2,n3,n4,n5,n6]
  ·obtain⟨h1,h2,h3⟩:=zA HF
   obtain⟨e1,e2⟩:=zA HQ2
   rw[e1,e2]
   exact⟨h1,_,_,_,_,congrArg (fun a=>Ending.returned (Value.tuple #[Value.agg a,Value.int .i64 1])) h3.symm,h2⟩
end Go.Proofs.YthleadfkfnnadaaGreat
