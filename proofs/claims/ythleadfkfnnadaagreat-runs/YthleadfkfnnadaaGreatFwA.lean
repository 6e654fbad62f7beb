/- The ends of blocks lie behind their elses: plain. -/
import Derived.Test.YthleadfkfnnadaaGreatRefR
import Derived.Test.YthleadfkfnnadaaGreatLwB
import Derived.Deep.AppendSrc
import Derived.Laws.IdiomStrings
import Derived.Test.YthleadfkfnnadaaGreatRef1
import Derived.Test.YthleadfkfnnadaaGreatMcB
import Derived.Test.YthleadfkfnnadaaGreatPrgM
set_option maxHeartbeats 4000000
set_option maxRecDepth 100000
namespace Go.Proofs.YthleadfkfnnadaaGreat
open Go.RowKit
namespace Rf
structure Fr where
 proc:Nat
 args:List Int
 call:Int
structure Pl where
 zD:List Fr
 vars:List Int
 cells:List (List Int)
 read:Nat
 out:List Int
 line:Int
 fin:Int
def zFr:Fr:=⟨0,[],0⟩
def top (p:Pl):Fr:=p.zD.getD (p.zD.length-1) zFr
def zDS (ls:List (List ByteArray)) (l:Nat):List ByteArray:=(zAA ls (l-1)).drop 2
def value (ls:List (List ByteArray)) (p:Pl) (x:ByteArray):Int:=
 if 0≤index (zDS ls (top p).proc) x then (top p).args.getD (index (zDS ls (top p).proc) x).toNat 0 else p.vars.getD (decl ls x) 0
structure FrOK (ls:List (List ByteArray)) (f:Fr):Prop where
 lo:1≤f.proc
 hi:f.proc≤ls.length
 two:2≤(zAA ls (f.proc-1)).length
 args:f.args.length=(zAA ls (f.proc-1)).length-2
structure zEb (ls:List (List ByteArray)) (p:Pl):Prop where
 some:0 < p.zD.length
 few:p.zD.length≤100
 each:∀f∈p.zD,FrOK ls f
 vars:p.vars.length=ls.length+1
 cells:p.cells.length=ls.length+1
theorem zEb.top {ls:List (List ByteArray)} {p:Pl} (h:zEb ls p):FrOK ls (top p):=by
 have h1:=h.some
 unfold Rf.top
 rw[List.getD_eq_getElem?_getD,List.getElem?_eq_getElem (by omega)]
 exact h.each _ (List.getElem_mem _)
theorem zIr (xs:List ByteArray) (x:ByteArray):∀f k,k+f=xs.length→-1≤indexFrom xs x f k∧indexFrom xs x f k < xs.length
 | 0,k,h=>by rw[indexFrom];omega
 | f+1,k,h=>by
  have:=zIr xs x f (k+1) (by omega)
  rw[indexFrom]
  split <;> omega
theorem zPX (xs:List ByteArray) (x:ByteArray):-1≤index xs x∧index xs x < xs.length:=zIr xs x _ _ (by omega)
end Rf
structure PlR (w:World) (P:Nat) (p:Rf.Pl):Prop where
 zD:∃b o cap,w.cell? ⟨P,0,none⟩=some (.slice (some ⟨b,o,none⟩) p.zD.length cap)∧∀i (h:i < p.zD.length),∃av,w.cell? ⟨b,o+i*3,none⟩=some (.int .i64 p.zD[i].proc)∧w.cell? ⟨b,o+i*3+1,none⟩=some av∧w.cell? ⟨b,o+i*3+2,none⟩=some (.int .i64 p.zD[i].call)∧zBP w av p.zD[i].args
 vars:∃vv,w.cell? ⟨P,1,none⟩=some vv∧zBP w vv p.vars
 cells:∃b o cap,w.cell? ⟨P,2,none⟩=some (.slice (some ⟨b,o,none⟩) p.cells.length cap)∧∀i (h:i < p.cells.length),∃cv,w.cell? ⟨b,o+i,none⟩=some cv∧zBP w cv p.cells[i]
 read:w.cell? ⟨P,3,none⟩=some (.int .i64 p.read)
 out:∃ov,w.cell? ⟨P,4,none⟩=some ov∧zBP w ov p.out
 line:w.cell? ⟨P,5,none⟩=some (.int .i64 p.line)
 fin:w.cell? ⟨P,6,none⟩=some (.int .i64 p.fin)
theorem PlR.zH {w w':World} {P:Nat} {p:Rf.Pl} (h:PlR w P p) (hb:Below w.heap.size w w'):PlR w' P p:=by
 obtain⟨⟨b,o,cap,f1,f2⟩,⟨vv,v1,v2⟩,⟨b2,o2,cap2,c1,c2⟩,r,⟨ov,o1,oo⟩,l,e⟩:=h
 refine⟨⟨b,o,cap,cell_later hb f1,fun i hi=>?_⟩,⟨vv,cell_later hb v1,v2.zH hb⟩,⟨b2,o2,cap2,cell_later hb c1,fun i hi=>?_⟩,cell_later hb r,⟨ov,cell_later hb o1,oo.zH hb⟩,cell_later hb l,cell_later hb e⟩
 ·obtain⟨av,a1,a2,a3,a4⟩:=f2 i hi
  exact⟨av,cell_later hb a1,cell_later hb a2,cell_later hb a3,a4.zH hb⟩
 ·obtain⟨cv,a1,a2⟩:=c2 i hi
  exact⟨cv,cell_later hb a1,a2.zH hb⟩
theorem PlR.top {w:World} {P:Nat} {p:Rf.Pl} (h:PlR w P p) {n:Nat} (hn:p.zD.length=n+1):∃b o cap av,w.cell? ⟨P,0,none⟩=some (.slice (some ⟨b,o,none⟩) (n+1) cap)∧w.cell? ⟨b,o+n*3,none⟩=some (.int .i64 (Rf.top p).proc)∧w.cell? ⟨b,o+n*3+1,none⟩=some av∧w.cell? ⟨b,o+n*3+2,none⟩=some (.int .i64 (Rf.top p).call)∧zBP w av (Rf.top p).args:=by
 obtain⟨b,o,cap,f1,f2⟩:=h.zD
 obtain⟨av,a1,a2,a3,a4⟩:=f2 n (by omega)
 have ht:Rf.top p=p.zD[n]:=by
  unfold Rf.top
  rw[List.getD_eq_getElem?_getD,show p.zD.length-1=n by omega,List.getElem?_eq_getElem (by omega)];rfl
 rw[hn]at f1
 rw[ht]
 exact⟨b,o,cap,av,f1,a1,a2,a3,a4⟩
theorem zPl (w:World) (S g cap P:Nat) (ls:List (List ByteArray)) (p:Rf.Pl) (x:ByteArray) (h:zAg w S g cap ls) (hL:Lawful ls) (hp:PlR w P p) (hok:Rf.zEb ls p) :
  Calls Tryz.prog 118 #[.pointer (some ⟨S,0,none⟩),.pointer (some ⟨P,0,none⟩),.string x] w fun e w'=>e=.returned (.int .i64 (Rf.value ls p x))∧Below w.heap.size w w':=by
 obtain⟨n,hn⟩:∃n,p.zD.length=n+1:=⟨p.zD.length-1,by have:=hok.some;omega⟩
 have hfr:=hok.top
 have hnf:=hok.few
 rw[hn]at hnf
 have hvl:=hok.vars
 obtain⟨b,o,cp,av,c0,c1,c2,c3,hai⟩:=hp.top hn
 obtain⟨fl,fh,f2,fa⟩:=hfr
 have HV:Hid (Rf.value ls p x=_):=zB (by unfold Rf.value;rfl)
 have HP:=zB hp
 have HG:=zB h
 have HLL:=zB hL
 have HAI:=zB hai
 have hlen:=hL.len
 clear hp h hL hok hai hn
 generalize Rf.top p=fr at *
 obtain⟨pr,hpr⟩:∃q,fr.proc=q+1:=⟨fr.proc-1,by omega⟩
 rw[hpr]at fl fh f2 fa HV c1
 rw[Nat.add_sub_cancel]at f2 fa
 have hprl:pr < ls.length:=by omega
 rw[Rf.zr hprl]at f2 fa
 rw[show ((pr+1:Nat):Int)=(pr:Int)+1 by omega]at c1
 have hw1:IntKind.i64.wrap ((n:Int)+1-1)=n:=by rw[show (n:Int)+1-1=(n:Int) by omega];exact IntWalk.i64_in _ ⟨by omega,by omega⟩
 have hw0:IntKind.i64.wrap (n:Int)=n:=IntWalk.i64_in _ ⟨by omega,by omega⟩
 have hm0:(0:Int)≤(n:Int):=by omega
 have hm1:(n:Int) < (n:Int)+1:=by omega
 have hm2:(n:Int)≤1000:=by omega
 have HFA:=zB fa
 have HF2:=zB f2
 have HVL:=zB hvl
 clear fa f2 hvl hpr fl fh
 obtain⟨aad,acap,rfl,hai⟩:=zA HAI
 clear hai
 go_enter Tryz.func118,Tryz.ntmps118
 go_wp2_with fail
 go_region_held3 (fun w'=>w'.cell? ⟨P,0,none⟩=some (.slice (some ⟨b,o,none⟩) (n+1) cp)∧w'.cell? ⟨b,o+n*3,none⟩=some (.int .i64 ((pr:Int)+1))∧w'.cell? ⟨b,o+n*3+1,none⟩=some (.slice aad fr.args.length acap)∧w'.cell? ⟨b,o+n*3+2,none⟩=some (.int .i64 fr.call)) (go_keep) (fail)
 have hb1:=((Below.refl w.heap.size w).alloc (Nat.le_refl _) (.cells #[.int .i64 ((pr:Int)+1),.slice aad fr.args.length acap,.int .i64 fr.call] 130)).drew
 have hk1:(w.alloc (.cells #[.int .i64 ((pr:Int)+1),.slice aad fr.args.length acap,.int .i64 fr.call] 130)).drew.heap[w.heap.size]?=some (.cells #[.int .i64 ((pr:Int)+1),.slice aad fr.args.length acap,.int .i64 fr.call] 130 (0,0)):=heap_alloc_new w _
 generalize (w.alloc (.cells #[.int .i64 ((pr:Int)+1),.slice aad fr.args.length acap,.int .i64 fr.call] 130)).drew=w1 at *
 have k0:=zC hk1 0 (by simp)
 simp only[List.getElem_toArray,List.getElem_cons_zero]at k0
 have HB1:=zB (And.intro hb1 hk1)
 clear hb1 hk1 c0 c1 c2 c3
 go_wp2_with fail
 refine(zEy _ S g cap ls pr ((zA HG).zH (zA HB1).1) hprl hlen (zA HF2) ((zA HLL).zDN hprl).1).mono ?_
 rintro e w2 ⟨pv,rfl,hpv,hb2⟩
 have hpl:(ls[pr].drop 2).length≤1000:=by have:=((zA HLL).zDN hprl).1;simp;omega
 have HB2:=zB (And.intro ((zA HB1).1.trans (hb2.mono (B':=w.heap.size) (zA HB1).1.size)) (zK (zA HB1).2 hb2))
 have HPV:=zB hpv
 obtain⟨pad,pcap,rfl,_⟩:=hpv.form
 clear hb2 hpv HB1 k0
 have hib:=Rf.zPX (ls[pr].drop 2) x
 have hpo:Rf.zDS ls (pr+1)=ls[pr].drop 2:=by rw[Rf.zDS,Nat.add_sub_cancel,Rf.zr hprl]
 rw[hpo]at HV
 have hal:(fr.args.length:Int)=((ls[pr].drop 2).length:Int):=by rw[zA HFA];simp
 clear hpo
 generalize ls[pr].drop 2=ps at *
 go_wp2_with fail
 refine(zLc _ _ _ x (zA HPV) (by omega)).mono ?_
 rintro e w' ⟨rfl,rfl⟩
 have HAL:=zB hal
 generalize Rf.index ps x=ix at *
 have HPL:=zB hpl
 have HIB:=zB hib
 clear hpl hal hib
 have k1:=zC (zA HB2).2 1 (by simp)
 simp only[List.getElem_toArray,List.getElem_cons_succ,List.getElem_cons_zero]at k1
 by_cases hi:0≤ix
 ·rw[if_pos hi]at HV
  obtain⟨i,rfl⟩:=Int.eq_ofNat_of_zero_le hi
  have hil:i < fr.args.length:=by have:=zA HAL;have:=zA HIB;omega
  have hil':(i:Int) < (fr.args.length:Int):=by omega
  obtain⟨ab,ao,ac,he,ci⟩:=((zA HAI).zH (zA HB2).1).get hil
  simp only[Value.slice.injEq,true_and]at he
  obtain⟨rfl,he⟩:=he
  clear he
  have HR:Hid (Rf.value ls p x=fr.args[i]):=zB (by rw[zA HV];simp[hil])
  generalize fr.args[i]=r at *
  go_wp2_with fail
  go_ret
  exact⟨by rw[zA HR];rfl,(zA HB2).1⟩
 ·rw[if_neg hi]at HV
  go_wp2_with fail
  refine(zAb _ S g cap ls x ((zA HG).zH (zA HB2).1) (zA HLL)).mono ?_
  rintro e w3 ⟨rfl,hb3⟩
  have hb13:=(zA HB2).1.trans (hb3.mono (B':=w.heap.size) (zA HB2).1.size)
  obtain⟨vv,cv,hvi⟩:=((zA HP).zH hb13).vars
  have HB3:=zB hb13
  have hdb:=Rf.zEG ls x
  have hdl:Rf.decl ls x < p.vars.length:=by have:=zA HVL;omega
  obtain⟨vb,vo,vc,rfl,ci⟩:=hvi.get hdl
  have HR:Hid (Rf.value ls p x=p.vars[Rf.decl ls x]):=zB (by rw[zA HV];simp[hdl])
  generalize p.vars[Rf.decl ls x]=r at *
  generalize Rf.decl ls x=d at *
  have hdl':(d:Int) < (p.vars.length:Int):=by omega
  clear hb3 hb13 hvi k1
  go_wp2_with fail
  go_ret
  exact⟨by rw[zA HR];rfl,zA HB3⟩
theorem zHZ (w:World) (v:Value) (xs:List Int) (h:zBP w v xs) (hl:xs.length≤1000000) :
  Calls Tryz.prog 58 #[v] w fun e w'=>Below w.heap.size w w'∧∃v',e=.returned v'∧w'.ownsRow w.heap.size 3 1 v' xs.length (xs.map (Value.int .i64)):=by
 obtain⟨i0,hi0,hz0,hz1,hz2⟩:=info_parts Tryz.zMS
 have HH:=zB h
 obtain⟨ad,cap,rfl,_⟩:=h
 have hb0:=(Below.refl w.heap.size w).alloc (Nat.le_refl _) (.cells #[] 3)
 have hown:(w.alloc (.cells #[] 3)).ownsRow w.heap.size 3 1 (.slice (some ⟨w.heap.size,0,none⟩) 0 0) 0 []:=World.ownsRow_made w #[] 0 (Nat.le_refl _) (by unfold maxLen;omega) rfl
 go_enter Tryz.func58,Tryz.ntmps58
 go_wp2_with (at_builtin;refine zCo _ rfl _ _ 24 24 rfl w.heap.size 3 i0 _ Tryz.underlying24 hi0 hz0 hz1 (by omega) rfl _ _ _ rfl hown _ xs.length (xs.map (Value.int .i64)) rfl ((zA HH).zH hb0).src ?c1 ?c2 ?_)
 case c1=>omega
 case c2=>simp
 intro v' w' hown' hgrow
 have hb1:=hb0.grown hgrow (by simp) (fun j hj=>by simp[Value.ownBlock]at hj;omega)
 have HF:=zB (And.intro hown' hb1)
 clear hown' hb1 hgrow hown hb0
 go_wp2_with fail
 go_ret
 exact⟨(zA HF).2,_,rfl,(zA HF).1⟩
end Go.Proofs.YthleadfkfnnadaaGreat
namespace Go.Proofs.YthleadfkfnnadaaGreat
namespace Rf
open Rt
theorem zPu {p q:List ByteArray} {o:ByteArray} (hp:Is 1 p) (ho:inB zBG o=true) (hq:Is 1 q):split (p++o::q)=p.length:=by
 have h:=zEl (zBa hp) (zJJ ho) ho (zHb hq rfl)
 rw[split,h,if_neg (by omega)]
theorem zPv {p q:List ByteArray} {o:ByteArray} (hp:Is 1 p) (ho:inB zBL o=true) (hq:Is 2 q):split (p++o::q)=p.length:=by
 have h:=zEl (zBa hp) (zHw ho) ho (zC7 hq zBL (Or.inl rfl) rfl)
 have h0:=(zHb (Is.s2 p o q hp ho hq) rfl).last
 rw[split,h0,if_pos (by omega),h,if_neg (by omega)]
theorem zPt {p q:List ByteArray} {o:ByteArray} (hp:Is 2 p) (ho:inB zBh o=true) (hq:Is 3 q):split (p++o::q)=p.length:=by
 have h:=zEl (zBa hp) (zHj ho) ho (zBz hq zBh (Or.inl rfl) rfl)
 have ht:=Is.t2 p o q hp ho hq
 have h0:=(zC7 ht zBG (Or.inr rfl) rfl).last
 have h1:=(zC7 ht zBL (Or.inl rfl) rfl).last
 rw[split,h0,if_pos (by omega),h1,if_pos (by omega),h]
theorem zDw {p:List ByteArray} (h:Is 3 p):split p=-1:=by
 have h0:=(zBz h zBG (Or.inr (Or.inr rfl)) rfl).last
 have h1:=(zBz h zBL (Or.inr (Or.inl rfl)) rfl).last
 have h2:=(zBz h zBh (Or.inl rfl) rfl).last
 rw[split,h0,if_pos (by omega),h1,if_pos (by omega),h2]
end Rf
end Go.Proofs.YthleadfkfnnadaaGreat
namespace Go.Proofs.YthleadfkfnnadaaGreat
open Go.RowKit
def WorkedP (r:Int×Int) (w:World) (e:Ending) (w':World):Prop:=e=.returned (.tuple #[.int .i64 r.1,.int .i64 r.2])∧Below w.heap.size w w'
def zCe (ls:List (List ByteArray)) (p:Rf.Pl) (r:Int×Int) (t:List ByteArray):Prop:=
 ∀(w:World) (S g cap P:Nat) (v:Value),zAg w S g cap ls→PlR w P p→zu w v t→Calls Tryz.prog 154 #[.pointer (some ⟨S,0,none⟩),.pointer (some ⟨P,0,none⟩),v] w (WorkedP r w)
theorem zN9 {ls:List (List ByteArray)} {p:Rf.Pl} {t:List ByteArray} {k:Nat} {a b:Int×Int} (hf:Few t) (hs:Rf.split t=k) (hk:k < t.length) (h1:zCe ls p a (t.take k)) (h2:zCe ls p b (t.drop (k+1))) :
  zCe ls p (if ¬a.2=0 then (0,a.2)else if ¬b.2=0 then (0,b.2)else Rf.two a.1 t[k].toList b.1) t:=by
 intro w S g cap P v hG hP hV
 have HG:=zB hG
 have HP:=zB hP
 have HV:=zB hV
 have HF:=zB hf
 have HI:=zB (And.intro h1 h2)
 have hl:=hf.1
 obtain⟨ad,cp,rfl,hcap⟩:=hV.form
 obtain⟨tb,to,rfl⟩:=hV.zAM (by intro h;rw[h]at hk;simp at hk)
 clear hG hP hV hf h1 h2
 have hkl':(k:Int) < (t.length:Int):=by omega
 have hk0:(0:Int)≤(k:Int):=by omega
 go_enter Tryz.func154,Tryz.ntmps154
 go_wp2_with fail
 refine(zEg _ _ t (zA HV) (zA HF)).mono ?_
 rintro e w1 ⟨rfl,hb1⟩
 rw[hs]
 have HB1:=zB hb1
 clear hb1 hs
 go_wp2_with fail
 refine((zA HI).1 _ S g cap P _ ((zA HG).zH (zA HB1)) ((zA HP).zH (zA HB1)) (((zA HV).zH (zA HB1)).take k _ (by omega) (by omega))).mono ?_
 rintro e w2 ⟨rfl,hb2⟩
 have HB2:=zB ((zA HB1).trans (hb2.mono (B':=w.heap.size) (zA HB1).size))
 clear hb2
 obtain⟨a1,a2⟩:=a
 obtain⟨b1,b2⟩:=b
 by_cases ha:a2=0
 ·subst ha
  go_wp2_with fail
  all_goals
   refine((zA HI).2 _ S g cap P _ ((zA HG).zH (zA HB2)) ((zA HP).zH (zA HB2)) (by first | exact zu.gone (by omega) rfl | exact((zA HV).zH (zA HB2)).drop (k+1) _ _ rfl (by omega))).mono ?_
   rintro e w3 ⟨rfl,hb3⟩
   have HB3:=zB ((zA HB2).trans (hb3.mono (B':=w.heap.size) (zA HB2).size))
   clear hb3
   by_cases hb:b2=0
   ·subst hb
    obtain⟨ub,uo,uc,he,ct⟩:=((zA HV).zH (zA HB3)).cell hk
    simp only[Value.slice.injEq,Option.some.injEq,Addr.mk.injEq,true_and,and_true]at he
    obtain⟨⟨rfl,rfl⟩,he⟩:=he
    clear he
    generalize hx:t[k]=x at *
    have HX:=zB hx
    clear hx
    go_wp2_with fail
    refine(two_ref _ a1 b1 x).mono ?_
    rintro e w4 ⟨rfl,rfl⟩
    go_wp2_with fail
    go_ret2
    have hx:=zA HX
    subst hx
    exact⟨(congrArg (fun r:Int×Int=>Ending.returned (.tuple #[.int .i64 r.1,.int .i64 r.2])) (show (if ¬(0:Int)=0 then ((0:Int),(0:Int))else if ¬(0:Int)=0 then ((0:Int),(0:Int))else Rf.two a1 t[k].toList b1)=Rf.two a1 t[k].toList b1 by simp)).symm,zA HB3⟩
   ·have hb':(b2 != 0)=true:=by simpa using hb
    go_wp2_with fail
    go_ret2
    exact⟨by simp,zA HB3⟩
 ·have ha':(a2 != 0)=true:=by simpa using ha
  go_wp2_with fail
  go_ret2
  exact⟨by simp,zA HB2⟩
theorem zDH {w:World} {B:Nat} {v:Value} {xs:List Int} (h:w.ownsRow B 3 1 v xs.length (zz xs)):zBP w v xs:=by
 obtain⟨ad,cap,rfl⟩:=zE h
 by_cases e:xs=[]
 ·exact⟨ad,cap,rfl,Or.inl e⟩
 ·have hp:0 < xs.length:=List.length_pos_iff.mpr e
  obtain⟨g,c,hv,_,_,_⟩:=zW h (j:=0) (u:=.int .i64 xs[0]) (by simp[zz,hp])
  injection hv with h1 h2 h3
  subst h1 h3
  refine⟨some ⟨g,0,none⟩,cap,rfl,Or.inr ⟨g,0,rfl,fun j hj=>?_⟩⟩
  obtain⟨g',c',hv',_,_,hc⟩:=zW h (j:=j) (u:=.int .i64 xs[j]) (by simp[zz,hj])
  injection hv' with h1 _ _
  injection h1 with h1
  injection h1 with h1
  subst h1
  rw[Nat.zero_add]
  exact hc
structure PlV (w:World) (fv vv cv ov:Value) (p:Rf.Pl):Prop where
 zD:∃b o cap,fv=.slice (some ⟨b,o,none⟩) p.zD.length cap∧∀i (h:i < p.zD.length),∃av,w.cell? ⟨b,o+i*3,none⟩=some (.int .i64 p.zD[i].proc)∧w.cell? ⟨b,o+i*3+1,none⟩=some av∧w.cell? ⟨b,o+i*3+2,none⟩=some (.int .i64 p.zD[i].call)∧zBP w av p.zD[i].args
 vars:zBP w vv p.vars
 cells:∃b o cap,cv=.slice (some ⟨b,o,none⟩) p.cells.length cap∧∀i (h:i < p.cells.length),∃x,w.cell? ⟨b,o+i,none⟩=some x∧zBP w x p.cells[i]
 out:zBP w ov p.out
theorem PlV.zH {w w':World} {fv vv cv ov:Value} {p:Rf.Pl} (h:PlV w fv vv cv ov p) (hb:Below w.heap.size w w'):PlV w' fv vv cv ov p:=by
 obtain⟨⟨b,o,cap,f1,f2⟩,v,⟨b2,o2,cap2,c1,c2⟩,x⟩:=h
 refine⟨⟨b,o,cap,f1,fun i hi=>?_⟩,v.zH hb,⟨b2,o2,cap2,c1,fun i hi=>?_⟩,x.zH hb⟩
 ·obtain⟨av,a1,a2,a3,a4⟩:=f2 i hi
  exact⟨av,cell_later hb a1,cell_later hb a2,cell_later hb a3,a4.zH hb⟩
 ·obtain⟨y,a1,a2⟩:=c2 i hi
  exact⟨y,cell_later hb a1,a2.zH hb⟩
def plA (fv vv cv ov:Value) (p:Rf.Pl):Array Value:=#[fv,vv,cv,.int .i64 p.read,ov,.int .i64 p.line,.int .i64 p.fin]
theorem PlV.at {w:World} {fv vv cv ov:Value} {p:Rf.Pl} (h:PlV w fv vv cv ov p) {P:Nat} {t:TypeId} (hP:w.heap[P]?=some (.cells (plA fv vv cv ov p) t (0,0))):PlR w P p:=by
 have c:∀i (hi:i < 7),w.cell? ⟨P,i,none⟩=some ((plA fv vv cv ov p)[i]'(by simpa[plA] using hi)):=fun i hi=>zC hP i (by simpa[plA] using hi)
 obtain⟨⟨b,o,cap,f1,f2⟩,v,⟨b2,o2,cap2,c1,c2⟩,x⟩:=h
 exact⟨⟨b,o,cap,by rw[←f1];exact c 0 (by omega),f2⟩,⟨vv,c 1 (by omega),v⟩,⟨b2,o2,cap2,by rw[←c1];exact c 2 (by omega),c2⟩,c 3 (by omega),⟨ov,c 4 (by omega),x⟩,c 5 (by omega),c 6 (by omega)⟩
structure PlX where
 fv:Value
 vv:Value
 cv:Value
 ov:Value
 fps:List Value
 cps:List Value
def frCells:List Value→List Rf.Fr→List Value
 | v::vs,f::fs=>.int .i64 f.proc::v::.int .i64 f.call::frCells vs fs
 | _,_=>[]
theorem zFm:∀(vs:List Value) (fs:List Rf.Fr),vs.length=fs.length→(frCells vs fs).length=fs.length*3
 | [],[],_=>rfl
 | [],_::_,h=>by simp at h
 | _::_,[],h=>by simp at h
 | v::vs,f::fs,h=>by
  have:=zFm vs fs (by simpa using h)
  simp only[frCells,List.length_cons,this]
  omega
theorem zFA:∀(vs:List Value) (fs:List Rf.Fr) (v:Value) (f:Rf.Fr),vs.length=fs.length→frCells (vs++[v]) (fs++[f])=frCells vs fs++[.int .i64 f.proc,v,.int .i64 f.call]
 | [],[],_,_,_=>rfl
 | [],_::_,_,_,h=>by simp at h
 | _::_,[],_,_,h=>by simp at h
 | v::vs,f::fs,v',f',h=>by
  have:=zFA vs fs v' f' (by simpa using h)
  simp only[List.cons_append,frCells,this]
theorem zCl:∀(vs:List Value) (fs:List Rf.Fr) (h:vs.length=fs.length) (i:Nat) (hi:i < fs.length),(frCells vs fs)[i*3]?=some (.int .i64 fs[i].proc)∧(frCells vs fs)[i*3+1]?=some (vs[i]'(by rw[h];exact hi))∧(frCells vs fs)[i*3+2]?=some (.int .i64 fs[i].call)
 | [],[],_,i,hi=>by simp at hi
 | [],_::_,h,_,_=>by simp at h
 | _::_,[],h,_,_=>by simp at h
 | v::vs,f::fs,h,0,hi=>by simp[frCells]
 | v::vs,f::fs,h,i+1,hi=>by
  have:=zCl vs fs (by simpa using h) i (by simpa using hi)
  simp only[frCells,show (i+1)*3=i*3+3 by omega]
  simpa using this
theorem zIs:∀(vs:List Value) (fs:List Rf.Fr) (i:Nat) (g:List Int→List Int),frCells vs (fs.modify i (fun f=>⟨f.proc,g f.args,f.call⟩))=frCells vs fs
 | [],_,_,_=>by cases ‹List Rf.Fr› <;> rfl
 | _::_,[],i,_=>by cases i <;> rfl
 | v::vs,f::fs,0,g=>by simp[frCells]
 | v::vs,f::fs,i+1,g=>by simp only[List.modify_succ_cons,frCells,zIs vs fs i g]
theorem mapA_mod (fs:List Rf.Fr) (i:Nat) (g:List Int→List Int):(fs.modify i (fun f=>⟨f.proc,g f.args,f.call⟩)).map Rf.Fr.args=(fs.map Rf.Fr.args).modify i g:=by
 induction fs generalizing i with
 | nil=>cases i <;> rfl
 | cons f fs ih=>cases i with
  | zero=>rfl
  | succ i=>simp[ih]
def zBI (v:Value) (vs:List Value) (fs:List Rf.Fr):Rw:=⟨130,3,v,fs.length,frCells vs fs⟩
def zCh (v:Value) (vs:List Value) (n:Nat):Rw:=⟨24,1,v,n,vs⟩
def zb (X:PlX) (p:Rf.Pl):List Rw:=
 [zBI X.fv X.fps p.zD,zQ X.vv p.vars,zCh X.cv X.cps p.cells.length,zQ X.ov p.out]++(List.zipWith zQ X.fps (p.zD.map Rf.Fr.args)++List.zipWith zQ X.cps p.cells)
structure PlO (w:World) (B P:Nat) (p:Rf.Pl) (X:PlX):Prop where
 block:w.heap[P]?=some (.cells (plA X.fv X.vv X.cv X.ov p) 72 (0,0))
 own:Own w (zb X p)
 fl:X.fps.length=p.zD.length
 cl:X.cps.length=p.cells.length
 new:∀k∈zAJ (zb X p),B≤k
 here:B≤P
theorem PlO.zH {w w':World} {B P:Nat} {p:Rf.Pl} {X:PlX} (h:PlO w B P p X) (hb:Below w.heap.size w w'):PlO w' B P p X:=
 ⟨zK h.block hb,h.own.zH hb,h.fl,h.cl,h.new,h.here⟩
section
variable {w : World} {B P : Nat} {p : Rf.Pl} {X : PlX} (h : PlO w B P p X)
include h
theorem PlO.zDV:w.ownsRow 0 130 3 X.fv p.zD.length (frCells X.fps p.zD):=h.own.rows (zBI X.fv X.fps p.zD) (by simp[zb])
theorem PlO.zIx:w.ownsRow 0 3 1 X.vv p.vars.length (zz p.vars):=h.own.rows (zQ X.vv p.vars) (by simp[zb])
theorem PlO.zFL:w.ownsRow 0 24 1 X.cv p.cells.length X.cps:=h.own.rows (zCh X.cv X.cps p.cells.length) (by simp[zb])
theorem PlO.zJs:w.ownsRow 0 3 1 X.ov p.out.length (zz p.out):=h.own.rows (zQ X.ov p.out) (by simp[zb])
theorem PlO.arow (i:Nat) (hi:i < p.zD.length):w.ownsRow 0 3 1 (X.fps[i]'(by rw[h.fl];exact hi)) p.zD[i].args.length (zz p.zD[i].args):=by
 have hi':i < X.fps.length:=by rw[h.fl];exact hi
 refine h.own.rows (zQ X.fps[i] p.zD[i].args) ?_
 unfold zb
 refine List.mem_append_right _ (List.mem_append_left _ ?_)
 have:(List.zipWith zQ X.fps (p.zD.map Rf.Fr.args))[i]?=some (zQ X.fps[i] p.zD[i].args):=by
  rw[List.getElem?_zipWith,List.getElem?_eq_getElem hi',List.getElem?_map,List.getElem?_eq_getElem hi]
  rfl
 exact List.mem_of_getElem? this
theorem PlO.erow (i:Nat) (hi:i < p.cells.length):w.ownsRow 0 3 1 (X.cps[i]'(by rw[h.cl];exact hi)) p.cells[i].length (zz p.cells[i]):=by
 have hi':i < X.cps.length:=by rw[h.cl];exact hi
 refine h.own.rows (zQ X.cps[i] p.cells[i]) ?_
 unfold zb
 refine List.mem_append_right _ (List.mem_append_right _ ?_)
 have:(List.zipWith zQ X.cps p.cells)[i]?=some (zQ X.cps[i] p.cells[i]):=by
  rw[List.getElem?_zipWith,List.getElem?_eq_getElem hi',List.getElem?_eq_getElem hi]
 exact List.mem_of_getElem? this
theorem PlO.val (hf:0 < p.zD.length) (hc:0 < p.cells.length):PlV w X.fv X.vv X.cv X.ov p:=by
 obtain⟨g,cap,hv,_,_,_⟩:=zW h.zDV (zCl X.fps p.zD h.fl 0 hf).1
 obtain⟨g2,cap2,hv2,_,_,_⟩:=zW h.zFL (j:=0) (List.getElem?_eq_getElem (by rw[h.cl];exact hc))
 refine⟨⟨g,0,cap,hv,fun i hi=>?_⟩,zDH h.zIx,⟨g2,0,cap2,hv2,fun i hi=>?_⟩,zDH h.zJs⟩
 ·obtain⟨q1,q2,q3⟩:=zCl X.fps p.zD h.fl i hi
  obtain⟨g1,c1,e1,_,_,r1⟩:=zW h.zDV q1
  obtain⟨g3,c3,e3,_,_,r3⟩:=zW h.zDV q2
  obtain⟨g4,c4,e4,_,_,r4⟩:=zW h.zDV q3
  rw[hv]at e1 e3 e4
  injection e1 with e1 _ _
  injection e1 with e1
  injection e1 with e1
  injection e3 with e3 _ _
  injection e3 with e3
  injection e3 with e3
  injection e4 with e4 _ _
  injection e4 with e4
  injection e4 with e4
  subst e1 e3 e4
  rw[Nat.zero_add]
  exact⟨_,r1,r3,r4,zDH (h.arow i hi)⟩
 ·obtain⟨g1,c1,e1,_,_,r1⟩:=zW h.zFL (j:=i) (List.getElem?_eq_getElem (by rw[h.cl];exact hi))
  rw[hv2]at e1
  injection e1 with e1 _ _
  injection e1 with e1
  injection e1 with e1
  subst e1
  rw[Nat.zero_add]
  exact⟨_,r1,zDH (h.erow i hi)⟩
theorem PlO.read (hf:0 < p.zD.length) (hc:0 < p.cells.length):PlR w P p:=(h.val hf hc).at h.block
end
end Go.Proofs.YthleadfkfnnadaaGreat
namespace Go.Proofs.YthleadfkfnnadaaGreat
namespace Rt
theorem zNR (lk:Lks) (o:Nat) (x q:Int):(zAy (lk.modify o (fun y=>(x,y.2))) q).2=(zAy lk q).2:=by
 unfold zAy
 split
 ·rfl
 ·rw[List.getElem?_modify]
  cases lk[q.toNat]? with
  | none=>rfl
  | some y=>
   simp only[Option.map_eq_map,Option.map_some,Option.getD_some]
   split <;> rfl
theorem zD5 (lk:Lks) (o:Nat) (f:Int×Int→Int×Int) (q:Int) (h:q≠o) (h0:0≤q):zAy (lk.modify o f) q=zAy lk q:=by
 unfold zAy
 rw[if_neg (by omega),if_neg (by omega),List.getElem?_modify]
 cases lk[q.toNat]? with
 | none=>rfl
 | some y=>
  simp only[Option.map_eq_map,Option.map_some,Option.getD_some]
  rw[if_neg (by omega)]
theorem zJ6 (lk:Lks) (o:Nat) (x:Int) (h:o < lk.length):(zAy (lk.modify o (fun y=>(y.1,x))) (o:Int)).2=x:=by
 unfold zAy
 rw[if_neg (by omega),List.getElem?_modify,Int.toNat_natCast,List.getElem?_eq_getElem h]
 simp
structure zCZ (n:Nat) (bs:List Blk) (acc:List PL) (lk:Lks):Prop where
 inc:(bs.map (·.line)).Pairwise (· < ·)
 lt:∀x∈bs.map (·.line),1≤x∧x < n
 fwd:∀(j:Nat) (p:PL),acc[j]?=some p→p.form.kind=6→∃o:Nat,p.opener=(o:Int)∧(o∈bs.map (·.line)∨(o∉bs.map (·.line)∧o < n∧(j:Int)≤(zAy lk o).2∧(zAy lk o).2≤n))
theorem zGv {bs:List Blk} (h:bs≠[]):bs.map (·.line)=bs.dropLast.map (·.line)++[(zAq bs).line]:=by
 have:zAq bs=bs.getLast h:=by
  unfold zAq
  rw[List.getLastD_eq_getLast?,List.getLast?_eq_some_getLast h]
  rfl
 rw[this]
 conv=>lhs;rw[←List.dropLast_concat_getLast h]
 rw[List.map_append]
 rfl
theorem zFZ (bs:List Blk) (p:PL):(zo bs p).form.kind=p.form.kind:=by rw[(zDG bs p).2]
theorem zCZ.grow {n:Nat} {bs bs':List Blk} {acc:List PL} {lk lk':Lks} {q:PL} (h:zCZ n bs acc lk) (hn:acc.length=n) (hl:bs'.map (·.line)=bs.map (·.line)) (hk:∀o:Nat,(zAy lk' o).2=(zAy lk o).2) (hq:q.form.kind=6→∃o:Nat,q.opener=(o:Int)∧o∈bs.map (·.line)):zCZ (n+1) bs' (acc++[q]) lk':=by
 refine⟨by rw[hl];exact h.inc,fun x hx=>by rw[hl]at hx;have:=h.lt x hx;omega,?_⟩
 intro j p hj hp
 rw[hl]
 by_cases hlt:j < acc.length
 ·rw[List.getElem?_append_left hlt]at hj
  obtain⟨o,e,h1⟩:=h.fwd j p hj hp
  refine⟨o,e,?_⟩
  rcases h1 with h1 | ⟨h1,h2,h3,h4⟩
  ·exact Or.inl h1
  ·exact Or.inr ⟨h1,by omega,by rw[hk];exact h3,by rw[hk];omega⟩
 ·rw[List.getElem?_append_right (by omega)]at hj
  cases hjj:j-acc.length with
  | zero=>
   rw[hjj]at hj
   simp at hj
   subst hj
   obtain⟨o,e,h1⟩:=hq hp
   exact⟨o,e,Or.inl h1⟩
  | succ k=>rw[hjj]at hj;simp at hj
theorem zCZ.opens {n:Nat} {bs:List Blk} {acc:List PL} {lk:Lks} {q:PL} {b:Blk} (h:zCZ n bs acc lk) (hn:acc.length=n) (h0:0 < n) (hb:b.line=n) (hq:q.form.kind≠6):zCZ (n+1) (bs++[b]) (acc++[q]) lk:=by
 have hm:(bs++[b]).map (·.line)=bs.map (·.line)++[n]:=by rw[List.map_append,List.map_cons,List.map_nil,hb]
 refine⟨?_,?_,?_⟩
 ·rw[hm,List.pairwise_append]
  exact⟨h.inc,List.pairwise_singleton _ _,fun x hx y hy=>by have:=h.lt x hx;rw[List.mem_singleton.mp hy];exact this.2⟩
 ·intro x hx
  rw[hm]at hx
  rcases List.mem_append.mp hx with hx | hx
  ·have:=h.lt x hx;omega
  ·rw[List.mem_singleton.mp hx];omega
 ·intro j p hj hp
  rw[hm]
  by_cases hlt:j < acc.length
  ·rw[List.getElem?_append_left hlt]at hj
   obtain⟨o,e,h1⟩:=h.fwd j p hj hp
   refine⟨o,e,?_⟩
   rcases h1 with h1 | ⟨h1,h2,h3,h4⟩
   ·exact Or.inl (List.mem_append_left _ h1)
   ·refine Or.inr ⟨fun hm=>?_,by omega,h3,by omega⟩
    rcases List.mem_append.mp hm with hm | hm
    ·exact h1 hm
    ·rw[List.mem_singleton.mp hm]at h2;omega
  ·rw[List.getElem?_append_right (by omega)]at hj
   cases hjj:j-acc.length with
   | zero=>rw[hjj]at hj;simp at hj;subst hj;exact absurd hp hq
   | succ k=>rw[hjj]at hj;simp at hj
theorem zCZ.ends {n:Nat} {bs:List Blk} {acc:List PL} {lk:Lks} {q:PL} (h:zCZ n bs acc lk) (hn:acc.length=n) (hb:bs≠[]) (hlk:n≤lk.length) (hq:q.form.kind≠6):zCZ (n+1) bs.dropLast (acc++[q]) (lk.modify (zAq bs).line (fun y=>(y.1,(n:Int)))):=by
 have hs:=zGv hb
 have hinc:=h.inc
 rw[hs,List.pairwise_append]at hinc
 obtain⟨i1,_,i3⟩:=hinc
 have hlast:1≤(zAq bs).line∧(zAq bs).line < n:=h.lt _ (by rw[hs];simp)
 have hnot:(zAq bs).line∉bs.dropLast.map (·.line):=fun hm=>by have:=i3 _ hm _ (List.mem_singleton.mpr rfl);omega
 refine⟨i1,fun x hx=>by have:=h.lt x (by rw[hs];exact List.mem_append_left _ hx);omega,?_⟩
 intro j p hj hp
 by_cases hlt:j < acc.length
 ·rw[List.getElem?_append_left hlt]at hj
  obtain⟨o,e,h1⟩:=h.fwd j p hj hp
  refine⟨o,e,?_⟩
  rw[hs]at h1
  by_cases ho:o=(zAq bs).line
  ·refine Or.inr ⟨by rw[ho];exact hnot,by omega,?_,?_⟩
   ·rw[ho,zJ6 _ _ _ (by omega)];omega
   ·rw[ho,zJ6 _ _ _ (by omega)];omega
  ·rw[zD5 _ _ _ _ (by omega) (by omega)]
   rcases h1 with h1 | ⟨h1,h2,h3,h4⟩
   ·rcases List.mem_append.mp h1 with h1 | h1
    ·exact Or.inl h1
    ·exact absurd (List.mem_singleton.mp h1) ho
   ·exact Or.inr ⟨fun hm=>h1 (List.mem_append_left _ hm),by omega,h3,by omega⟩
 ·rw[List.getElem?_append_right (by omega)]at hj
  cases hjj:j-acc.length with
  | zero=>rw[hjj]at hj;simp at hj;subst hj;exact absurd hp hq
  | succ k=>rw[hjj]at hj;simp at hj
theorem zN2 {bs:List Blk} {k:Int} (h:adm bs k=true) (h4:k=4∨k=6):bs≠[]:=by
 intro e
 unfold adm at h
 rw[if_neg (by omega),if_neg (by omega),if_pos e]at h
 cases h
theorem zCZ.step {n len:Nat} {bs:List Blk} {acc:List PL} {lk:Lks} {p:PL} (h:zCZ n bs acc lk) (hn:acc.length=n) (h0:0 < n) (hlen:n < len) (hlk:lk.length=len) (ha:adm bs p.form.kind=true) :
  zCZ (n+1) (zAS bs n p.form.kind) (acc++[zo bs p]) (zCa len lk (zo bs p) n):=by
 have hpk:=zFZ bs p
 by_cases h6:p.form.kind=6
 ·have hb:=zN2 ha (Or.inr h6)
  have hs:=zGv hb
  have hop:(zo bs p).opener=((zAq bs).line:Int):=by unfold zo;rw[if_neg hb,if_pos (Or.inl h6)]
  have hps:zAS bs n p.form.kind=bs.dropLast++[⟨(zAq bs).line,(zAq bs).kind,true⟩]:=by
   unfold zAS
   rw[if_neg (by omega),if_pos h6,if_neg hb]
  have hin:(zAq bs).line∈bs.map (·.line):=by rw[hs];simp
  have hlt:=h.lt _ hin
  have hst:zCa len lk (zo bs p) n=lk.modify (zAq bs).line (fun y=>((n:Int),y.2)):=by
   unfold zCa
   rw[hop,if_pos (by omega),hpk,if_pos h6]
   rfl
  rw[hps,hst]
  refine h.grow hn ?_ (fun o=>zNR _ _ _ _) (fun _=>⟨_,hop,hin⟩)
  rw[hs,List.map_append]
  rfl
 ·by_cases h4:p.form.kind=4
  ·have hb:=zN2 ha (Or.inl h4)
   have hs:=zGv hb
   have hop:(zo bs p).opener=((zAq bs).line:Int):=by unfold zo;rw[if_neg hb,if_pos (Or.inr h4)]
   have hin:(zAq bs).line∈bs.map (·.line):=by rw[hs];simp
   have hlt:=h.lt _ hin
   have hps:zAS bs n p.form.kind=bs.dropLast:=by
    unfold zAS
    rw[if_neg (by omega),if_neg h6,if_pos h4]
   have hst:zCa len lk (zo bs p) n=lk.modify (zAq bs).line (fun y=>(y.1,(n:Int))):=by
    unfold zCa
    rw[hop,if_pos (by omega),hpk,if_neg h6,if_pos h4]
    rfl
   rw[hps,hst]
   exact h.ends hn hb (by omega) (by rw[hpk];exact h6)
  ·have hst:zCa len lk (zo bs p) n=lk:=by
    unfold zCa
    rw[hpk,if_neg h6,if_neg h4]
    split <;> rfl
   rw[hst]
   unfold zAS
   by_cases h3:p.form.kind=3∨p.form.kind=5∨p.form.kind=7
   ·rw[if_pos h3]
    exact h.opens hn h0 rfl (by rw[hpk];exact h6)
   ·rw[if_neg h3,if_neg h6,if_neg h4]
    exact h.grow hn rfl (fun _=>rfl) (fun e=>absurd (hpk▸e) h6)
theorem zND (len:Nat):∀(ps:List PL) (n:Nat) (bs:List Blk) (acc:List PL) (lk:Lks) (ls:List PL) (b2:List Blk),nestFrom ps n bs acc=(0,ls,b2)→0 < n→acc.length=n→n+ps.length=len→lk.length=len→zCZ n bs acc lk→zCZ len b2 ls (nestLk len ps n bs lk)
 | [],n,bs,acc,lk,ls,b2,h,_,_,hl,_,hi=>by
  simp[nestFrom]at h
  obtain⟨rfl,rfl⟩:=h
  have:n=len:=by simpa using hl
  subst this
  exact hi
 | p::r,n,bs,acc,lk,ls,b2,h,h0,hn,hl,hlk,hi=>by
  rw[nestFrom]at h
  split at h
  ·next ha=>
   rw[nestLk,if_pos ha]
   exact zND len r (n+1) _ _ _ ls b2 h (by omega) (by simp[hn]) (by simp at hl;omega) (by rw[zE5,hlk]) (hi.step hn h0 (by simp at hl;omega) hlk ha)
  ·simp at h;omega
theorem zQV {ps ls:List PL} (h:nestFrom ps 1 [] [zPL]=(0,ls,[])) (hl:ps.length≤100):∀(n:Nat) (p:PL),ls[n]?=some p→p.form.kind=6→(n:Int)≤(zAy (zBv ps) p.opener).2∧(zAy (zBv ps) p.opener).2≤200:=by
 have hi:=zND (ps.length+1) ps 1 [] [zPL] (List.replicate (ps.length+1) (0,0)) ls [] h (by omega) rfl (by omega) (by simp) ⟨by simp,by simp,fun j p hj hp=>by
  cases j with
  | zero=>simp at hj;subst hj;exact absurd hp (by decide)
  | succ j=>simp at hj⟩
 intro n p hn hp
 obtain⟨o,e,h1⟩:=hi.fwd n p hn hp
 rcases h1 with h1 | ⟨_,_,h3,h4⟩
 ·simp at h1
 ·rw[e]
  exact⟨h3,by unfold zBv;omega⟩
end Rt
end Go.Proofs.YthleadfkfnnadaaGreat
