/- The document's answer: the step of an if or a while, of a print. -/
import Derived.Test.YthleadfkfnnadaaGreatRefX
set_option maxHeartbeats 4000000
set_option maxRecDepth 100000
namespace Go.Proofs.YthleadfkfnnadaaGreat
open Go.RowKit
structure InS (w0 w:World) (S g cap:Nat) (ls:List (List ByteArray)) (P:Nat) (p:Rf.Pl) (X:PlX):Prop where
 src:zAg w0 S g cap ls
 bel:Below w0.heap.size w0 w
 pl:PlO w w0.heap.size P p X
theorem InS.zDR {w0 w:World} {S g cap:Nat} {ls:List (List ByteArray)} {P:Nat} {p:Rf.Pl} {X:PlX} (h:InS w0 w S g cap ls P p X):zAg w S g cap ls:=h.src.zH h.bel
theorem InS.zH {w0 w w':World} {S g cap:Nat} {ls:List (List ByteArray)} {P:Nat} {p:Rf.Pl} {X:PlX} (h:InS w0 w S g cap ls P p X) (hb:Below w.heap.size w w'):InS w0 w' S g cap ls P p X:=⟨h.src,h.bel.trans (hb.mono (B':=w0.heap.size) h.bel.size),h.pl.zH hb⟩
theorem InS.to {w0 w w':World} {S g cap:Nat} {ls:List (List ByteArray)} {P:Nat} {p p':Rf.Pl} {X X':PlX} (h:InS w0 w S g cap ls P p X) (h2:PlO w' w0.heap.size P p' X'∧Below w0.heap.size w w'):InS w0 w' S g cap ls P p' X':=⟨h.src,h.bel.trans h2.2,h2.1⟩
theorem PlO.top {w:World} {B P:Nat} {p:Rf.Pl} {X:PlX} (h:PlO w B P p X) {n:Nat} (hn:p.zD.length=n+1):∃b cap pv,X.fps[n]?=some pv∧X.fv=.slice (some ⟨b,0,none⟩) (n+1) cap∧w.cell? ⟨P,0,none⟩=some (.slice (some ⟨b,0,none⟩) (n+1) cap)∧w.cell? ⟨b,n*3,none⟩=some (.int .i64 (Rf.top p).proc)∧
  w.cell? ⟨b,n*3+1,none⟩=some pv∧w.cell? ⟨b,n*3+2,none⟩=some (.int .i64 (Rf.top p).call)∧w.ownsRow 0 3 1 pv (Rf.top p).args.length (zz (Rf.top p).args):=by
 have hnl:n < p.zD.length:=by omega
 have ht:Rf.top p=p.zD[n]:=by
  unfold Rf.top
  rw[List.getD_eq_getElem?_getD,show p.zD.length-1=n by omega,List.getElem?_eq_getElem (by omega)];rfl
 obtain⟨q1,q2,q3⟩:=zCl X.fps p.zD h.fl n hnl
 obtain⟨b,cap,e1,_,_,r1⟩:=zW h.zDV q1
 obtain⟨b2,cap2,e2,_,_,r2⟩:=zW h.zDV q2
 obtain⟨b3,cap3,e3,_,_,r3⟩:=zW h.zDV q3
 have c0:w.cell? ⟨P,0,none⟩=some X.fv:=zC h.block 0 (by simp[plA])
 rw[e1]at e2 e3 c0
 injection e2 with e2 _ _
 injection e2 with e2
 injection e2 with e2
 injection e3 with e3 _ _
 injection e3 with e3
 injection e3 with e3
 subst e2 e3
 rw[hn]at e1 c0
 rw[ht]
 exact⟨b,cap,_,List.getElem?_eq_getElem _,e1,c0,r1,r2,r3,h.arow n hnl⟩
theorem zNf (w0 w:World) (S g cap P:Nat) (ls:List (List ByteArray)) (p:Rf.Pl) (X:PlX) (x:ByteArray) (v:Int) (h:InS w0 w S g cap ls P p X) (hL:Lawful ls) (hok:Rf.zEb ls p) :
  Calls Tryz.prog 155 #[.pointer (some ⟨S,0,none⟩),.pointer (some ⟨P,0,none⟩),.string x,.int .i64 v] w fun e w'=>e=.returned (.tuple #[])∧InS w0 w' S g cap ls P (Rf.zBy ls p x v) X:=by
 obtain⟨n,hn⟩:∃n,p.zD.length=n+1:=⟨p.zD.length-1,by have:=hok.some;omega⟩
 have hfr:=hok.top
 have hnf:=hok.few
 rw[hn]at hnf
 have hvl:=hok.vars
 obtain⟨b,cp,apv,hpv,hfv,c0,c1,c2,c3,hai⟩:=h.pl.top hn
 have HPVV:=zB hpv
 obtain⟨fl,fh,f2,fa⟩:=hfr
 have HV:Hid (Rf.zBy ls p x v=_):=zB (by unfold Rf.zBy;rfl)
 have HG:=zB h
 have HLL:=zB hL
 have HAI:=zB hai
 have HN:=zB hn
 have hlen:=hL.len
 clear h hL hok hfv hpv
 obtain⟨pr,hpr⟩:∃q,(Rf.top p).proc=q+1:=⟨(Rf.top p).proc-1,by omega⟩
 rw[hpr]at fl fh f2 fa HV c1
 rw[Nat.add_sub_cancel]at f2 fa
 have hprl:pr < ls.length:=by omega
 rw[Rf.zr hprl]at f2 fa
 rw[show ((pr+1:Nat):Int)=(pr:Int)+1 by omega]at c1
 have hw1:IntKind.i64.wrap ((n:Int)+1-1)=n:=by rw[show (n:Int)+1-1=(n:Int) by omega];exact IntWalk.i64_in _ ⟨by omega,by omega⟩
 have hw0:IntKind.i64.wrap (n:Int)=n:=IntWalk.i64_in _ ⟨by omega,by omega⟩
 have hm0:(0:Int)≤(n:Int):=by omega
 have hm1:(n:Int) < (n:Int)+1:=by omega
 have hm2:(n:Int)≤1000:=by omega
 have HFA:=zB fa
 have HF2:=zB f2
 have HVL:=zB hvl
 obtain⟨aad,acap,hav⟩:=zE hai
 have HAV:=zB hav
 rw[hav]at c2
 generalize (Rf.top p).call=fcall at *
 generalize hfarg:(Rf.top p).args=farg at *
 clear fa f2 hvl hpr fl fh hai hav hn
 go_enter Tryz.func155,Tryz.ntmps155
 go_wp2_with fail
 go_region_held3 (fun w'=>w'.cell? ⟨P,0,none⟩=some (.slice (some ⟨b,0,none⟩) (n+1) cp)∧w'.cell? ⟨b,n*3,none⟩=some (.int .i64 ((pr:Int)+1))∧w'.cell? ⟨b,n*3+1,none⟩=some (.slice aad farg.length acap)∧w'.cell? ⟨b,n*3+2,none⟩=some (.int .i64 fcall)) (go_keep) (fail)
 have hb1:=((Below.refl w.heap.size w).alloc (Nat.le_refl _) (.cells #[.int .i64 ((pr:Int)+1),.slice aad farg.length acap,.int .i64 fcall] 130)).drew
 have hk1:(w.alloc (.cells #[.int .i64 ((pr:Int)+1),.slice aad farg.length acap,.int .i64 fcall] 130)).drew.heap[w.heap.size]?=some (.cells #[.int .i64 ((pr:Int)+1),.slice aad farg.length acap,.int .i64 fcall] 130 (0,0)):=heap_alloc_new w _
 generalize (w.alloc (.cells #[.int .i64 ((pr:Int)+1),.slice aad farg.length acap,.int .i64 fcall] 130)).drew=w1 at *
 have k0:=zC hk1 0 (by simp)
 simp only[List.getElem_toArray,List.getElem_cons_zero]at k0
 have HB1:=zB (And.intro ((zA HG).zH hb1) (And.intro hk1 (zZ (zA HAI) hb1)))
 clear hb1 hk1 c0 c1 c2 c3
 go_wp2_with fail
 refine(zEy _ S g cap ls pr (zA HB1).1.zDR hprl hlen (zA HF2) ((zA HLL).zDN hprl).1).mono ?_
 rintro e w2 ⟨pv,rfl,hpv,hb2⟩
 have hpl:(ls[pr].drop 2).length≤1000:=by have:=((zA HLL).zDN hprl).1;simp;omega
 have HB2:=zB (And.intro ((zA HB1).1.zH hb2) (And.intro (zK (zA HB1).2.1 hb2) (zZ (zA HB1).2.2 hb2)))
 have HPV:=zB hpv
 obtain⟨pad,pcap,rfl,_⟩:=hpv.form
 clear hb2 hpv HB1 k0
 have hib:=Rf.zPX (ls[pr].drop 2) x
 have hpo:Rf.zDS ls (pr+1)=ls[pr].drop 2:=by rw[Rf.zDS,Nat.add_sub_cancel,Rf.zr hprl]
 rw[hpo]at HV
 have hal:(farg.length:Int)=((ls[pr].drop 2).length:Int):=by rw[zA HFA];simp
 clear hpo
 generalize ls[pr].drop 2=ps at *
 go_wp2_with fail
 refine(zLc _ _ _ x (zA HPV) (by omega)).mono ?_
 rintro e w' ⟨rfl,rfl⟩
 have HAL:=zB hal
 generalize Rf.index ps x=ix at *
 have HPL:=zB hpl
 have HIB:=zB hib
 clear hpl hal hib
 have k1:=zC (zA HB2).2.1 1 (by simp)
 simp only[List.getElem_toArray,List.getElem_cons_succ,List.getElem_cons_zero]at k1
 by_cases hi:0≤ix
 ·rw[if_pos hi]at HV
  obtain⟨i,rfl⟩:=Int.eq_ofNat_of_zero_le hi
  have hil:i < farg.length:=by have:=zA HAL;have:=zA HIB;omega
  have hil':(i:Int) < (farg.length:Int):=by omega
  have hnl:n < p.zD.length:=by rw[zA HN];omega
  obtain⟨ab,acap',he,_,_,ci⟩:=zW (zA HB2).2.2 (j:=i) (u:=.int .i64 farg[i]) (by simp[zz,hil])
  rw[zA HAV]at he
  injection he with e1 _ e2
  subst e1 e2
  obtain⟨cc,hcc⟩:=zAj (zA HB2).2.2 (g:=ab) (by rw[zA HAV];rfl)
  have z:=zI hcc i
  have HF:=zB ((zA HB2).1.to ((zA HB2).1.pl.setArg hnl (zA HPVV) (g:=ab) (by rw[zA HAV];rfl) i v))
  have HR:Hid (Rf.zBy ls p x v={ p with zD:=p.zD.modify n (fun f=>⟨f.proc,f.args.set i v,f.call⟩) }):=zB (by rw[zA HV,zA HN];rfl)
  generalize farg[i]=r at *
  clear hcc
  go_wp2_with fail
  refine bodyPost_ret (v:=.tuple #[]) ?_ rfl ⟨rfl,by rw[zA HR];exact zA HF⟩
  simp[results,Tryz.results155,go_sem]
 ·rw[if_neg hi]at HV
  go_wp2_with fail
  refine(zAb _ S g cap ls x (zA HB2).1.zDR (zA HLL)).mono ?_
  rintro e w3 ⟨rfl,hb3⟩
  have hI3:=(zA HB2).1.zH hb3
  have hdb:=Rf.zEG ls x
  have hdl:Rf.decl ls x < p.vars.length:=by have:=zA HVL;omega
  obtain⟨vb,vc,he,_,_,ci⟩:=zW hI3.pl.zIx (j:=Rf.decl ls x) (u:=.int .i64 p.vars[Rf.decl ls x]) (by simp[zz,hdl])
  obtain⟨cc,hcc⟩:=zAj hI3.pl.zIx (g:=vb) (by rw[he];rfl)
  have z:=zI hcc (Rf.decl ls x)
  have cv:w3.cell? ⟨P,1,none⟩=some X.vv:=zC hI3.pl.block 1 (by simp[plA])
  rw[he]at cv
  have HF:=zB (hI3.to (hI3.pl.setVar (g:=vb) (by rw[he];rfl) (Rf.decl ls x) v))
  generalize p.vars[Rf.decl ls x]=r at *
  generalize Rf.decl ls x=d at *
  have hdl':(d:Int) < (p.vars.length:Int):=by omega
  clear hb3 hI3 hcc he k1
  go_wp2_with fail
  go_end0
  exact⟨rfl,by rw[zA HV];exact zA HF⟩
theorem InS.read {w0 w:World} {S g cap:Nat} {ls:List (List ByteArray)} {P:Nat} {p:Rf.Pl} {X:PlX} (h:InS w0 w S g cap ls P p X) (hok:Rf.zEb ls p):PlR w P p:=h.pl.read hok.some (by have:=hok.cells;omega)
theorem zL9 (w0 w:World) (S g cap P:Nat) (ls:List (List ByteArray)) (p:Rf.Pl) (X:PlX) (v:Value) (t:List ByteArray) (r:Int×Int) (h:InS w0 w S g cap ls P p X) (hV:zu w0 v t) (hf:Few t) (hL:Lawful ls) (hok:Rf.zEb ls p) (hk:Rf.behind t=2) (hl3:3≤t.length) (hw:zCe ls p r (t.drop 3)) (p':Rf.Pl) (hp':p'=if r.2=0 then Rf.zBy ls p t[1] r.1 else p) :
  Calls Tryz.prog 96 #[.pointer (some ⟨S,0,none⟩),.pointer (some ⟨P,0,none⟩),v] w fun e w'=>e=.returned (.int .i64 r.2)∧InS w0 w' S g cap ls P p' X:=by
 have HI:=zB h
 have HV:=zB (hV.zH h.bel)
 have HF:=zB hf
 have HLL:=zB hL
 have HOK:=zB hok
 have HW:=zB hw
 have hl:=hf.1
 obtain⟨ad,cp,rfl,hcap⟩:=hV.form
 obtain⟨tb,to,rfl⟩:=hV.zAM (by intro h;rw[h]at hl3;simp at hl3)
 have hl1:1 < t.length:=by omega
 have hl1':(1:Int) < (t.length:Int):=by omega
 have hl3':(3:Int)≤(t.length:Int):=by omega
 have HC:Hid (∀w',zu w' (.slice (some ⟨tb,to,none⟩) t.length cp) t→w'.cell? ⟨tb,to+1,none⟩=some (.string t[1])):=zB (by
  intro w' h
  obtain⟨b',o',cap',he,c0⟩:=h.cell hl1
  simp at he
  obtain⟨⟨rfl,rfl⟩,rfl⟩:=he
  exact c0)
 have HP':=zB hp'
 clear h hV hf hL hok hw hp'
 generalize t[1]=x at *
 go_enter Tryz.func96,Tryz.ntmps96
 go_wp2_with fail
 refine(zFF _ _ t (zA HV) (zA HF)).mono ?_
 rintro e w' ⟨rfl,rfl⟩
 rw[hk]
 clear hk
 go_wp2_with fail
 all_goals
  refine(zA HW _ S g cap P _ (zA HI).zDR ((zA HI).read (zA HOK)) (by first | exact zu.gone (by omega) rfl | exact(zA HV).drop 3 _ _ rfl (by omega))).mono ?_
  rintro e w2 ⟨rfl,hb2⟩
  have HI2:=zB ((zA HI).zH hb2)
  have ct:=zA HC _ ((zA HV).zH hb2)
  clear hb2
  obtain⟨r1,r2⟩:=r
  by_cases hr:r2=0
  ·subst hr
   go_wp2_with fail
   refine(zNf w0 _ S g cap P ls p X x r1 (zA HI2) (zA HLL) (zA HOK)).mono ?_
   rintro e w3 ⟨rfl,hI3⟩
   have HI3:=zB hI3
   clear hI3
   go_wp2_with fail
   go_ret
   exact⟨rfl,by rw[(zA HP').trans (if_pos (by first | rfl | trivial))];exact zA HI3⟩
  ·have hr':(r2==0)=false:=by simpa using hr
   go_wp2_with fail
   go_ret
   exact⟨rfl,by rw[(zA HP').trans (if_neg hr)];exact zA HI2⟩
theorem PlO.zHs {w:World} {B P:Nat} {p:Rf.Pl} {X:PlX} (h:PlO w B P p X) {d:Nat} (hd:d < p.cells.length):∃cb cc pv,X.cps[d]?=some pv∧w.cell? ⟨P,2,none⟩=some (.slice (some ⟨cb,0,none⟩) p.cells.length cc)∧w.cell? ⟨cb,d,none⟩=some pv∧w.ownsRow 0 3 1 pv (p.cells.getD d []).length (zz (p.cells.getD d [])):=by
 obtain⟨cb,cc,hcv,_,_,cd⟩:=zW h.zFL (j:=d) (List.getElem?_eq_getElem (by rw[h.cl];exact hd))
 have c2:w.cell? ⟨P,2,none⟩=some X.cv:=zC h.block 2 (by simp[plA])
 have hge:p.cells.getD d []=p.cells[d]:=by simp[hd]
 rw[hcv]at c2
 exact⟨cb,cc,_,List.getElem?_eq_getElem (by rw[h.cl];exact hd),c2,cd,by rw[hge];exact h.erow d hd⟩
theorem PlO.setCel2 {w:World} {B P:Nat} {p:Rf.Pl} {X:PlX} (h:PlO w B P p X) {d:Nat} (hd:d < p.cells.length) {pv:Value} (hpv:X.cps[d]?=some pv) {g:Nat} (hg0:pv.ownBlock=some g) (c:Nat) (x:Int) :
  PlO (w.setCell ⟨g,c,none⟩ (.int .i64 x)) B P { p with cells:=p.cells.set d ((p.cells.getD d []).set c x) } X∧Below B w (w.setCell ⟨g,c,none⟩ (.int .i64 x)):=by
 have:=h.setCel hd hpv hg0 c x
 rw[show p.cells.getD d []=p.cells[d] by simp[hd]]
 exact this
theorem zL8 (w0 w:World) (S g cap P:Nat) (ls:List (List ByteArray)) (p:Rf.Pl) (X:PlX) (v:Value) (t:List ByteArray) (k:Nat) (a r:Int×Int) (h:InS w0 w S g cap ls P p X) (hV:zu w0 v t) (hf:Few t) (hL:Lawful ls) (hok:Rf.zEb ls p) (hk:Rf.behind t=k) (hk4:4≤k) (hkl:k < t.length)
  (hw1:zCe ls p a ((t.take (k-1)).drop 3)) (hw2:zCe ls p r (t.drop (k+1))) (hl1:1 < t.length) (te:Int) (p':Rf.Pl)
  (hte:te=if a.2=0 then (if r.2=0 then (if a.1 < 0∨((p.cells.getD (Rf.decl ls t[1]) []).length:Int)≤a.1 then 3 else 0)else r.2)else a.2)
  (hp':p'=if a.2=0 then (if r.2=0 then (if a.1 < 0∨((p.cells.getD (Rf.decl ls t[1]) []).length:Int)≤a.1 then p else { p with cells:=p.cells.set (Rf.decl ls t[1]) ((p.cells.getD (Rf.decl ls t[1]) []).set a.1.toNat r.1) })else p)else p) :
  Calls Tryz.prog 96 #[.pointer (some ⟨S,0,none⟩),.pointer (some ⟨P,0,none⟩),v] w fun e w'=>e=.returned (.int .i64 te)∧InS w0 w' S g cap ls P p' X:=by
 have HI:=zB h
 have HV:=zB (hV.zH h.bel)
 have HF:=zB hf
 have HLL:=zB hL
 have HOK:=zB hok
 have HW:=zB (And.intro hw1 hw2)
 have hl:=hf.1
 obtain⟨ad,cp,rfl,hcap⟩:=hV.form
 obtain⟨tb,to,rfl⟩:=hV.zAM (by intro h;rw[h]at hkl;simp at hkl)
 have hl1':(1:Int) < (t.length:Int):=by omega
 have HC:Hid (∀w',zu w' (.slice (some ⟨tb,to,none⟩) t.length cp) t→w'.cell? ⟨tb,to+1,none⟩=some (.string t[1])):=zB (by
  intro w' h
  obtain⟨b',o',cap',he,c0⟩:=h.cell hl1
  simp at he
  obtain⟨⟨rfl,rfl⟩,rfl⟩:=he
  exact c0)
 have HE:=zB (And.intro hte hp')
 clear h hV hf hL hok hw1 hw2 hte hp'
 generalize t[1]=x at *
 have hkl':(k:Int) < (t.length:Int):=by omega
 have hk4':(4:Int)≤(k:Int):=by omega
 go_enter Tryz.func96,Tryz.ntmps96
 go_wp2_with fail
 refine(zFF _ _ t (zA HV) (zA HF)).mono ?_
 rintro e w' ⟨rfl,rfl⟩
 rw[hk]
 have hk2:((k:Int)==2)=false:=by rw[beq_eq_false_iff_ne];omega
 clear hk
 go_wp2_with fail
 refine((zA HW).1 _ S g cap P _ (zA HI).zDR ((zA HI).read (zA HOK)) (by first | exact(zA HV).mid 3 (k-1) _ _ (by omega) rfl (by omega)| exact(zA HV).mid 3 (k-1) _ _ (by omega) (by omega) (by omega))).mono ?_
 rintro e w2 ⟨rfl,hb2⟩
 have HI2:=zB (And.intro ((zA HI).zH hb2) ((zA HV).zH hb2))
 clear hb2
 obtain⟨a1,a2⟩:=a
 obtain⟨r1,r2⟩:=r
 by_cases ha:a2=0
 ·subst ha
  go_wp2_with fail
  all_goals
   refine((zA HW).2 _ S g cap P _ (zA HI2).1.zDR ((zA HI2).1.read (zA HOK)) (by first | exact zu.gone (by omega) rfl | exact(zA HI2).2.drop (k+1) _ _ rfl (by omega))).mono ?_
   rintro e w3 ⟨rfl,hb3⟩
   have HI3:=zB (And.intro ((zA HI2).1.zH hb3) ((zA HI2).2.zH hb3))
   clear hb3
   by_cases hr:r2=0
   ·subst hr
    have ct:=zA HC _ (zA HI3).2
    have hdb:=Rf.zEG ls x
    have hdl:Rf.decl ls x < p.cells.length:=by have:=(zA HOK).cells;omega
    have hpl:p.cells.length≤1000:=by have:=(zA HOK).cells;have:=(zA HLL).len;omega
    have HE2:=zB (And.intro ((zA HE).1.trans ((if_pos (by first | rfl | trivial)).trans (if_pos (by first | rfl | trivial)))) ((zA HE).2.trans ((if_pos (by first | rfl | trivial)).trans (if_pos (by first | rfl | trivial)))))
    obtain⟨cb,cc,pv,hpv,c2,cd,hrow⟩:=(zA HI3).1.pl.zHs hdl
    obtain⟨d,hd⟩:∃d,d=Rf.decl ls x:=⟨_,rfl⟩
    have HD:=zB hd
    rw[←hd]at HE2 cd hdl hpv hrow
    clear hd hdb HE
    obtain⟨dad,dcap,hdv⟩:=zE hrow
    have HRW:=zB (And.intro hrow (And.intro hpv hdv))
    rw[hdv]at cd
    generalize hcl:p.cells.getD d []=cl at *
    have HCL:=zB hcl
    clear hcl
    have hdl':(d:Int) < (p.cells.length:Int):=by omega
    have hd0:(0:Int)≤(d:Int):=by omega
    have HK:=zB (And.intro c2 (And.intro ct cd))
    clear hrow hpv hdv
    go_wp2_with fail
    go_region_held3 (fun w'=>w'.cell? ⟨P,2,none⟩=some (.slice (some ⟨cb,0,none⟩) p.cells.length cc)∧w'.cell? ⟨tb,to+1,none⟩=some (.string x)∧w'.cell? ⟨cb,d,none⟩=some (.slice dad cl.length dcap)) (first | go_keep | exact⟨cell_later (zm hb4) (zA HK).1,cell_later (zm hb4) (zA HK).2.1,cell_later (zm hb4) (zA HK).2.2⟩) ((go_at_call 84;refine(zAb _ S g cap ls x ((zA HI3).1.zDR.zH (zS _)) (zA HLL)).mono ?_;rintro e w4 ⟨rfl,hb4⟩;rw[←zA HD]))
    have hb5:=zm hb4
    have HI4:=zB (And.intro ((zA HI3).1.zH hb5) (zZ (zA HRW).1 hb5))
    clear hb4 hb5 c2 ct cd
    by_cases hlo:a1 < 0∨(cl.length:Int)≤a1
    ·by_cases hneg:a1 < 0
     ·go_wp2_with fail
      go_ret
      exact⟨by rw[(zA HE2).1.trans (if_pos hlo)];rfl,by rw[(zA HE2).2.trans (if_pos hlo)];exact(zA HI4).1⟩
     ·have hhi:(cl.length:Int)≤a1:=by omega
      go_wp2_with fail
      go_ret
      exact⟨by rw[(zA HE2).1.trans (if_pos hlo)];rfl,by rw[(zA HE2).2.trans (if_pos hlo)];exact(zA HI4).1⟩
    ·obtain⟨i,rfl⟩:=Int.eq_ofNat_of_zero_le (show 0≤a1 by omega)
     have hil:i < cl.length:=by omega
     obtain⟨ib,ic,he,_,_,ci⟩:=zW (zA HI4).2 (j:=i) (u:=.int .i64 cl[i]) (by simp[zz,hil])
     obtain⟨cc2,hcc⟩:=zAj (zA HI4).2 (g:=ib) (by rw[he];rfl)
     have z:=zI hcc i
     have hset:=(zA HI4).1.pl.setCel2 hdl (zA HRW).2.1 (g:=ib) (by rw[he];rfl) i r1
     rw[zA HCL]at hset
     have HF4:=zB ((zA HI4).1.to hset)
     rw[(zA HRW).2.2]at he
     injection he with e1 _ e2
     subst e1 e2
     have HE3:=zB (And.intro ((zA HE2).1.trans (if_neg hlo)) ((zA HE2).2.trans (if_neg hlo)))
     have hil':(i:Int) < (cl.length:Int):=by omega
     have hi0:(0:Int)≤(i:Int):=by omega
     have hni:¬(i:Int) < 0:=by omega
     have hnh:¬(cl.length:Int)≤(i:Int):=by omega
     clear hcc hset hlo
     generalize cl[i]=old at *
     go_wp2_with fail
     go_ret
     exact⟨by rw[(zA HE3).1];rfl,by rw[(zA HE3).2];exact zA HF4⟩
   ·have hr':(r2 != 0)=true:=by simpa using hr
    go_wp2_with fail
    go_ret
    exact⟨by rw[(zA HE).1.trans ((if_pos (by first | rfl | trivial)).trans (if_neg hr))];rfl,by rw[(zA HE).2.trans ((if_pos (by first | rfl | trivial)).trans (if_neg hr))];exact(zA HI3).1⟩
 ·have ha':(a2 != 0)=true:=by simpa using ha
  go_wp2_with fail
  go_ret
  exact⟨by rw[(zA HE).1.trans (if_neg ha)];rfl,by rw[(zA HE).2.trans (if_neg ha)];exact(zA HI2).1⟩
theorem own_cap {w:World} {B:Nat} {e:TypeId} {size n cap:Nat} {ad:Option Addr} {xs:List Value} (h:w.ownsRow B e size (.slice ad n cap) n xs):n≤cap:=by
 rcases h.2 with⟨h',_⟩| ⟨g,c,cur,h',_,_,hnc,_⟩
 ·injection h' with _ h1 h2;omega
 ·injection h' with _ _ h2;omega
theorem zMN (w0 w:World) (S g cap P:Nat) (ls:List (List ByteArray)) (p:Rf.Pl) (X:PlX) (h:InS w0 w S g cap ls P p X) (hn:p.zD.length=1) :
  Calls Tryz.prog 98 #[.pointer (some ⟨S,0,none⟩),.pointer (some ⟨P,0,none⟩)] w fun e w'=>e=.returned (.int .i64 1)∧InS w0 w' S g cap ls P p X:=by
 obtain⟨b,cp,apv,hpv,hfv,c0,c1,c2,c3,hai⟩:=h.pl.top (n:=0) hn
 have HI:=zB h
 clear h hn hpv hfv c1 c2 c3 hai
 go_enter Tryz.func98,Tryz.ntmps98
 go_wp2_with fail
 go_ret
 exact⟨rfl,zA HI⟩
theorem zMM (w0 w:World) (S g cap P:Nat) (ls:List (List ByteArray)) (p:Rf.Pl) (X:PlX) (n c:Nat) (h:InS w0 w S g cap ls P p X) (hn:p.zD.length=n+1+1) (hn6:n≤100) (hc:(Rf.top p).call=(c:Int)+1) (hcl:c < ls.length) (hL:Lawful ls) (hnest:Rf.nested ls=0) :
  Calls Tryz.prog 98 #[.pointer (some ⟨S,0,none⟩),.pointer (some ⟨P,0,none⟩)] w fun e w'=>e=.returned (.int .i64 0)∧∃X',InS w0 w' S g cap ls P { p with zD:=p.zD.dropLast,line:=(Rf.zAp ls (c+1):Nat) } X':=by
 obtain⟨b,cp,apv,hpv,hfv,c0,c1,c2,c3,hai⟩:=h.pl.top (n:=n+1) hn
 have HI:=zB h
 have hlen:=hL.len
 rw[hc]at c3
 have hq:=h.pl.block
 have c5:w.cell? ⟨P,5,none⟩=some (.int .i64 p.line):=zC hq 5 (by simp[plA])
 have z:=zI hq
 have HN:=zB (And.intro hn hfv)
 have hcp0:n+1+1≤cp:=by have:=h.pl.zDV;rw[hfv,hn]at this;exact own_cap this
 have hcp:(n:Int)+1≤(cp:Int):=by omega
 have hw1:IntKind.i64.wrap ((n:Int)+1+1-1)=(n:Int)+1:=by rw[show (n:Int)+1+1-1=(n:Int)+1 by omega];exact IntWalk.i64_in _ ⟨by omega,by omega⟩
 have hw2:IntKind.i64.wrap ((n:Int)+1)=(n:Int)+1:=IntWalk.i64_in _ ⟨by omega,by omega⟩
 have hm0:(0:Int)≤(n:Int)+1:=by omega
 have hm1:(n:Int)+1 < (n:Int)+1+1:=by omega
 have hne:((n:Int)+1+1==1)=false:=by rw[beq_eq_false_iff_ne];omega
 have hcw:IntKind.i64.wrap ((c:Int)+1+1)=(c:Int)+1+1:=IntWalk.i64_in _ ⟨by omega,by omega⟩
 have HG:Hid (∀w',zAg w' S g cap ls→Calls Tryz.prog 94 #[.pointer (some ⟨S,0,none⟩),.int .i64 ((c:Int)+1+1)] w' fun e w''=>e=.returned (.int .i64 (Rf.zAp ls (c+1)))∧Below w'.heap.size w' w''):=zB (fun w' hG=>by
  have:=zHa w' S g cap ls (c+1) hG (by omega) hlen hnest
  rw[show ((c+1:Nat):Int)+1=(c:Int)+1+1 by omega]at this
  exact this)
 clear h hn hpv hfv c1 c2 hai hq hc hL hnest
 go_enter Tryz.func98,Tryz.ntmps98
 go_wp2_with fail
 refine(zA HG _ (zA HI).zDR).mono ?_
 rintro e w1 ⟨rfl,hb1⟩
 have hI1:=(zA HI).zH hb1
 have hI2:=hI1.to (hI1.pl.zEL (Rf.zAp ls (c+1):Nat))
 obtain⟨fs,f,hff⟩:∃fs f,p.zD=fs++[f]:=by
  have hne:p.zD≠[]:=by intro e;have:=(zA HN).1;rw[e]at this;simp at this
  exact⟨p.zD.dropLast,p.zD.getLast hne,(List.dropLast_concat_getLast hne).symm⟩
 have hfl:fs.length=n+1:=by have:=(zA HN).1;rw[hff]at this;simp at this;omega
 have hpop:=hI2.pl.popFrame fs f hff b cp (by rw[hfl];exact(zA HN).2)
 rw[hfl]at hpop
 have HF:=zB (And.intro (hI2.to hpop) (show p.zD.dropLast=fs by rw[hff,List.dropLast_concat]))
 have hq1:=hI1.pl.block
 have c5':w1.cell? ⟨P,5,none⟩=some (.int .i64 p.line):=zC hq1 5 (by simp[plA])
 have c0':w1.cell? ⟨P,0,none⟩=some (.slice (some ⟨b,0,none⟩) (n+1+1) cp):=by have:=zC hq1 0 (by simp[plA]);rw[this];exact congrArg some (zA HN).2
 have z1:=zI hq1
 clear hq1 hpop hff hfl hI1 hI2 hb1 c0 c3 c5 z
 go_wp2_with fail
 go_ret
 exact⟨rfl,_,by rw[(zA HF).2];exact(zA HF).1⟩
theorem zEm (ls:List (List ByteArray)) (L:Nat) (hL:L < ls.length) (hlen:ls.length≤100) (hnest:Rf.nested ls=0) (S g cap:Nat):∀w',zAg w' S g cap ls→Calls Tryz.prog 94 #[.pointer (some ⟨S,0,none⟩),.int .i64 ((L:Int)+1+1)] w' fun e w''=>e=.returned (.int .i64 (Rf.zAp ls (L+1)))∧Below w'.heap.size w' w'':=fun w' hG=>by
 have:=zHa w' S g cap ls (L+1) hG (by omega) hlen hnest
 rw[show ((L+1:Nat):Int)+1=(L:Int)+1+1 by omega]at this
 exact this
theorem zB1 {w:World} {tb to cp i:Nat} {t:List ByteArray} (h:zu w (.slice (some ⟨tb,to,none⟩) t.length cp) t) (hi:i < t.length):w.cell? ⟨tb,to+i,none⟩=some (.string t[i]):=by
 obtain⟨b',o',cap',he,c0⟩:=h.cell hi
 simp at he
 obtain⟨⟨rfl,rfl⟩,rfl⟩:=he
 exact c0
theorem zJo (w0 w:World) (S g cap P L:Nat) (ls:List (List ByteArray)) (p:Rf.Pl) (X:PlX) (v iv:Value) (t:List ByteArray) (inp:List Int) (h:InS w0 w S g cap ls P p X) (hV:zu w0 v t) (hi:zBP w0 iv inp) (hil:inp.length≤100) (hL:Lawful ls) (hok:Rf.zEb ls p) (hnest:Rf.nested ls=0) (hln:p.line=(L:Int)+1) (hLl:L < ls.length) (hl2:2≤t.length) (hrd:(t[0].toList==[114,101,97,100])=true)
  (te:Int) (p':Rf.Pl) (hte:te=if inp.length≤p.read then 4 else 0) (hp':p'=if inp.length≤p.read then p else { Rf.zBy ls p t[1] (inp.getD p.read 0)with read:=p.read+1,line:=(Rf.zAp ls (L+1):Nat) }) :
  Calls Tryz.prog 99 #[.pointer (some ⟨S,0,none⟩),.pointer (some ⟨P,0,none⟩),v,iv] w fun e w'=>e=.returned (.int .i64 te)∧InS w0 w' S g cap ls P p' X:=by
 have HI:=zB h
 have HW0:=zB (And.intro hV hi)
 have HIn:=zB (hi.zH h.bel)
 have hlen:=hL.len
 have HLL:=zB hL
 have HOK:=zB hok
 have HE:=zB (And.intro hte hp')
 have HG:=zB (zEm ls L hLl hlen hnest S g cap)
 have hq:=h.pl.block
 have c5:w.cell? ⟨P,5,none⟩=some (.int .i64 ((L:Int)+1)):=by have:=zC hq 5 (by simp[plA]);rw[this];exact congrArg (fun x=>some (Value.int .i64 x)) hln
 have c3:w.cell? ⟨P,3,none⟩=some (.int .i64 p.read):=zC hq 3 (by simp[plA])
 have hV':=hV.zH h.bel
 obtain⟨ad,cp,rfl,hcap⟩:=hV.form
 obtain⟨tb,to,rfl⟩:=hV.zAM (by intro h;rw[h]at hl2;simp at hl2)
 have hl0:0 < t.length:=by omega
 have hl1:1 < t.length:=by omega
 have c0:=zB1 hV' hl0
 have c1:=zB1 hV' hl1
 rw[Nat.add_zero]at c0
 obtain⟨iad,icap,rfl⟩:∃a c,iv=.slice a inp.length c:=by obtain⟨a,c,e,_⟩:=hi;exact⟨a,c,e⟩
 have HTok:=zB (show ∀w',Below w0.heap.size w0 w'→w'.cell? ⟨tb,to+1,none⟩=some (.string t[1])from fun w' hb=>zB1 (hV.zH hb) hl1)
 have hl0':(0:Int) < (t.length:Int):=by omega
 have hl1':(1:Int) < (t.length:Int):=by omega
 clear h hV hi hL hok hte hp' hq hV' hnest hln
 generalize t[0]=x0 at *
 generalize t[1]=x1 at *
 by_cases hr:inp.length≤p.read
 ·have hr':(inp.length:Int)≤(p.read:Int):=by omega
  have HE2:=zB (And.intro ((zA HE).1.trans (if_pos hr)) ((zA HE).2.trans (if_pos hr)))
  clear HE
  go_enter Tryz.func99,Tryz.ntmps99
  go_wp2_with fail
  go_ret
  exact⟨by rw[(zA HE2).1];rfl,by rw[(zA HE2).2];exact zA HI⟩
 ·have hr':¬(inp.length:Int)≤(p.read:Int):=by omega
  have hr2:p.read < inp.length:=by omega
  have hr2':(p.read:Int) < (inp.length:Int):=by omega
  have HE2:=zB (And.intro ((zA HE).1.trans (if_neg hr)) ((zA HE).2.trans (if_neg hr)))
  clear HE
  obtain⟨ib,io,ic,he,ci⟩:=(zA HIn).get hr2
  simp only[Value.slice.injEq,true_and]at he
  obtain⟨rfl,he⟩:=he
  clear he
  have HInt:=zB (show ∀w',Below w0.heap.size w0 w'→w'.cell? ⟨ib,io+p.read,none⟩=some (.int .i64 inp[p.read])from fun w' hb=>by
   obtain⟨b2,o2,c2,he2,ci2⟩:=((zA HW0).2.zH hb).get hr2
   simp only[Value.slice.injEq,Option.some.injEq,Addr.mk.injEq,true_and,and_true]at he2
   obtain⟨⟨rfl,rfl⟩,_⟩:=he2
   exact ci2)
  have HVal:=zB (show inp.getD p.read 0=inp[p.read] by simp[hr2])
  generalize inp[p.read]=val at *
  have hlw:IntKind.i64.wrap ((L:Int)+1+1)=(L:Int)+1+1:=IntWalk.i64_in _ ⟨by omega,by omega⟩
  have hrw:IntKind.i64.wrap ((p.read:Int)+1)=(p.read:Int)+1:=IntWalk.i64_in _ ⟨by omega,by omega⟩
  have hr0:(0:Int)≤(p.read:Int):=by omega
  go_enter Tryz.func99,Tryz.ntmps99
  go_wp2_with fail
  have hgp:(Rf.zBy ls p x1 val).read=p.read∧(Rf.zBy ls p x1 val).line=p.line:=by unfold Rf.zBy;split <;> exact⟨rfl,rfl⟩
  have HGP:=zB hgp
  clear hgp
  have HPr:=zB (show ∀w',InS w0 w' S g cap ls P (Rf.zBy ls p x1 val) X→w'.cell? ⟨P,3,none⟩=some (.int .i64 p.read)∧(∀i,w'.frozen? ⟨P,i,none⟩=false)∧w'.cell? ⟨P,5,none⟩=some (.int .i64 p.line)from fun w' hI=>by
   have hq:=hI.pl.block
   have a3:=zC hq 3 (by simp[plA])
   have a5:=zC hq 5 (by simp[plA])
   refine⟨?_,zI hq,?_⟩
   ·rw[a3];exact congrArg (fun x:Nat=>some (Value.int .i64 (x:Int))) (zA HGP).1
   ·rw[a5];exact congrArg (fun x=>some (Value.int .i64 x)) (zA HGP).2)
  go_region_held3 (fun w'=>w'.cell? ⟨tb,to+1,none⟩=some (.string x1)∧w'.cell? ⟨P,3,none⟩=some (.int .i64 p.read)∧w'.cell? ⟨ib,io+p.read,none⟩=some (.int .i64 val)) (first | go_keep | exact⟨zA HTok _ hI1.bel,(zA HPr _ hI1).1,zA HInt _ hI1.bel⟩) ((go_at_call 155;refine(zNf w0 _ S g cap P ls p X x1 val ((zA HI).zH (zS _)) (zA HLL) (zA HOK)).mono ?_;rintro e w1 ⟨rfl,hI1⟩))
  obtain⟨b3,bz,b5⟩:=zA HPr _ hI1
  have hI2:=hI1.to (hI1.pl.setRead (p.read+1))
  rw[show ((p.read+1:Nat):Int)=(p.read:Int)+1 by omega]at hI2
  have HI2:=zB hI2
  clear hI1 hI2 c0 c1 c3 c5 ci
  go_wp2_with fail
  refine(zA HG _ (zA HI2).zDR).mono ?_
  rintro e w3 ⟨rfl,hb3⟩
  have hI3:=(zA HI2).zH hb3
  have hq3:=hI3.pl.block
  have d5:w3.cell? ⟨P,5,none⟩=some (.int .i64 (Rf.zBy ls p x1 val).line):=zC hq3 5 (by simp[plA])
  have z3:=zI hq3
  have HF:=zB (hI3.to (hI3.pl.zEL (Rf.zAp ls (L+1):Nat)))
  clear hI3 hq3 hb3 b3 bz b5
  go_wp2_with fail
  go_ret
  exact⟨by rw[(zA HE2).1];rfl,by rw[(zA HE2).2,zA HVal];exact zA HF⟩
theorem zIC (w0 w:World) (S g cap P L:Nat) (ls:List (List ByteArray)) (p:Rf.Pl) (X:PlX) (v iv:Value) (t:List ByteArray) (r:Int×Int) (h:InS w0 w S g cap ls P p X) (hV:zu w0 v t) (hL:Lawful ls) (hok:Rf.zEb ls p) (hnest:Rf.nested ls=0) (hln:p.line=(L:Int)+1) (hLl:L < ls.length) (hol:Rf.other ls L≤ls.length) (hl2:2≤t.length) (hrd:(t[0].toList==[114,101,97,100])=false) (hpr:(t[0].toList==[112,114,105,110,116])=false) (hw:zCe ls p r (t.drop 1)) (hiv:∃a n c,iv=.slice a n c)
  (p':Rf.Pl) (hp':p'=if r.2=0 then { p with line:=(Rf.zAp ls (if r.1=0 then Rf.other ls L else L+1):Nat) }else p) :
  Calls Tryz.prog 99 #[.pointer (some ⟨S,0,none⟩),.pointer (some ⟨P,0,none⟩),v,iv] w fun e w'=>e=.returned (.int .i64 r.2)∧InS w0 w' S g cap ls P p' X:=by
 have HI:=zB h
 have hlen:=hL.len
 have HOK:=zB hok
 have HE:=zB hp'
 have HW:=zB hw
 have HG:=zB (zEm ls L hLl hlen hnest S g cap)
 have HOt:=zB (show ∀w',zAg w' S g cap ls→Calls Tryz.prog 157 #[.pointer (some ⟨S,0,none⟩),.int .i64 ((L:Int)+1)] w' fun e w''=>e=.returned (.int .i64 (Rf.other ls L))∧Below w'.heap.size w' w'' from fun w' hG=>zQO w' S g cap ls L hG hLl hlen)
 have HG2:=zB (show ∀w',zAg w' S g cap ls→Calls Tryz.prog 94 #[.pointer (some ⟨S,0,none⟩),.int .i64 ((Rf.other ls L:Nat)+1)] w' fun e w''=>e=.returned (.int .i64 (Rf.zAp ls (Rf.other ls L)))∧Below w'.heap.size w' w'' from fun w' hG=>zHa w' S g cap ls (Rf.other ls L) hG hol hlen hnest)
 have hq:=h.pl.block
 have c5:w.cell? ⟨P,5,none⟩=some (.int .i64 ((L:Int)+1)):=by have:=zC hq 5 (by simp[plA]);rw[this];exact congrArg (fun x=>some (Value.int .i64 x)) hln
 have hV':=hV.zH h.bel
 obtain⟨ad,cp,rfl,hcap⟩:=hV.form
 obtain⟨tb,to,rfl⟩:=hV.zAM (by intro h;rw[h]at hl2;simp at hl2)
 have hl0:0 < t.length:=by omega
 have c0:=zB1 hV' hl0
 rw[Nat.add_zero]at c0
 have HTok:=zB (show ∀w',Below w0.heap.size w0 w'→w'.cell? ⟨tb,to,none⟩=some (.string t[0])from fun w' hb=>by have:=zB1 (hV.zH hb) hl0;rw[Nat.add_zero]at this;exact this)
 have HV:=zB hV'
 obtain⟨iad,iln,icap,rfl⟩:=hiv
 have hl0':(0:Int) < (t.length:Int):=by omega
 have hl1':(1:Int)≤(t.length:Int):=by omega
 have hlw:IntKind.i64.wrap ((L:Int)+1+1)=(L:Int)+1+1:=IntWalk.i64_in _ ⟨by omega,by omega⟩
 have how:IntKind.i64.wrap ((Rf.other ls L:Nat)+1:Int)=(Rf.other ls L:Nat)+1:=IntWalk.i64_in _ ⟨by omega,by omega⟩
 clear h hV hL hok hp' hq hV' hnest hln hw
 generalize t[0]=x0 at *
 go_enter Tryz.func99,Tryz.ntmps99
 go_wp2_with fail
 all_goals
  refine(zA HW _ S g cap P _ (zA HI).zDR ((zA HI).read (zA HOK)) (by first | exact zu.gone (by omega) rfl | exact(zA HV).drop 1 _ _ rfl (by omega))).mono ?_
  rintro e w2 ⟨rfl,hb2⟩
  have HI2:=zB ((zA HI).zH hb2)
  have ct:=zA HTok _ (zA HI2).bel
  clear hb2
  obtain⟨r1,r2⟩:=r
  by_cases hr:r2=0
  ·subst hr
   have HE2:=zB ((zA HE).trans (if_pos (by first | rfl | trivial)))
   by_cases hz:r1=0
   ·subst hz
    have HE3:=zB ((zA HE2).trans (congrArg (fun k:Nat=>({ p with line:=(Rf.zAp ls k:Nat) }:Rf.Pl)) (if_pos (by first | rfl | trivial))))
    clear HE HE2
    go_wp2_with fail
    refine(zA HOt _ (zA HI2).zDR).mono ?_
    rintro e w3 ⟨rfl,hb3⟩
    have HI3:=zB ((zA HI2).zH hb3)
    clear hb3
    go_wp2_with fail
    refine(zA HG2 _ (zA HI3).zDR).mono ?_
    rintro e w4 ⟨rfl,hb4⟩
    have hI4:=(zA HI3).zH hb4
    have hq4:=hI4.pl.block
    have d5:w4.cell? ⟨P,5,none⟩=some (.int .i64 p.line):=zC hq4 5 (by simp[plA])
    have z4:=zI hq4
    have HF:=zB (hI4.to (hI4.pl.zEL (Rf.zAp ls (Rf.other ls L):Nat)))
    clear hI4 hq4 hb4
    go_wp2_with fail
    go_ret
    exact⟨rfl,by rw[zA HE3];exact zA HF⟩
   ·have hz':(r1==0)=false:=by simpa using hz
    have HE3:=zB ((zA HE2).trans (congrArg (fun k:Nat=>({ p with line:=(Rf.zAp ls k:Nat) }:Rf.Pl)) (if_neg hz)))
    clear HE HE2
    go_wp2_with fail
    refine(zA HG _ (zA HI2).zDR).mono ?_
    rintro e w4 ⟨rfl,hb4⟩
    have hI4:=(zA HI2).zH hb4
    have hq4:=hI4.pl.block
    have d5:w4.cell? ⟨P,5,none⟩=some (.int .i64 p.line):=zC hq4 5 (by simp[plA])
    have z4:=zI hq4
    have HF:=zB (hI4.to (hI4.pl.zEL (Rf.zAp ls (L+1):Nat)))
    clear hI4 hq4 hb4
    go_wp2_with fail
    go_ret
    exact⟨rfl,by rw[zA HE3];exact zA HF⟩
  ·have hr':(r2 != 0)=true:=by simpa using hr
   have HE2:=zB ((zA HE).trans (if_neg hr))
   clear HE
   go_wp2_with fail
   go_ret
   exact⟨rfl,by rw[zA HE2];exact zA HI2⟩
end Go.Proofs.YthleadfkfnnadaaGreat
