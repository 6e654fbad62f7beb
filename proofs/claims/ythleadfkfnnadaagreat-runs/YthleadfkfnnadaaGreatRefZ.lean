/- The document's answer: rows of a place are made. -/
import Derived.Test.YthleadfkfnnadaaGreatRgE
set_option maxHeartbeats 4000000
set_option maxRecDepth 100000
namespace Go.Proofs.YthleadfkfnnadaaGreat
open Go.RowKit
theorem zIz (w0 w:World) (S g cap P L:Nat) (ls:List (List ByteArray)) (p:Rf.Pl) (X:PlX) (v iv:Value) (t:List ByteArray) (r:Int×Int) (h:InS w0 w S g cap ls P p X) (hV:zu w0 v t) (hL:Lawful ls) (hok:Rf.zEb ls p) (hnest:Rf.nested ls=0) (hln:p.line=(L:Int)+1) (hLl:L < ls.length) (hout:p.out.length≤50) (hl2:2≤t.length) (hrd:(t[0].toList==[114,101,97,100])=false) (hpr:(t[0].toList==[112,114,105,110,116])=true) (hw:zCe ls p r (t.drop 1)) (hiv:∃a n c,iv=.slice a n c)
  (te:Int) (p':Rf.Pl) (hte:te=if r.2=0 then (if 50≤p.out.length then 6 else 0)else r.2) (hp':p'=if r.2=0 then (if 50≤p.out.length then p else { p with out:=p.out++[r.1],line:=(Rf.zAp ls (L+1):Nat) })else p) :
  Calls Tryz.prog 99 #[.pointer (some ⟨S,0,none⟩),.pointer (some ⟨P,0,none⟩),v,iv] w fun e w'=>e=.returned (.int .i64 te)∧∃X',InS w0 w' S g cap ls P p' X':=by
 obtain⟨i0,hi0,hz0,hz1,hz2⟩:=info_parts Tryz.zCv
 have HI:=zB h
 have hlen:=hL.len
 have HOK:=zB hok
 have HE:=zB (And.intro hte hp')
 have HW:=zB hw
 have HG:=zB (zEm ls L hLl hlen hnest S g cap)
 have hq:=h.pl.block
 have c5:w.cell? ⟨P,5,none⟩=some (.int .i64 ((L:Int)+1)):=by have:=zC hq 5 (by simp[plA]);rw[this];exact congrArg (fun x=>some (Value.int .i64 x)) hln
 have hV':=hV.zH h.bel
 obtain⟨ad,cp,rfl,hcap⟩:=hV.form
 obtain⟨tb,to,rfl⟩:=hV.zAM (by intro h;rw[h]at hl2;simp at hl2)
 have hl0:0 < t.length:=by omega
 have c0:=zB1 hV' hl0
 rw[Nat.add_zero]at c0
 have HTok:=zB (show ∀w',Below w0.heap.size w0 w'→w'.cell? ⟨tb,to,none⟩=some (.string t[0])from fun w' hb=>by have:=zB1 (hV.zH hb) hl0;rw[Nat.add_zero]at this;exact this)
 have HV:=zB hV'
 obtain⟨iad,iln,icap,rfl⟩:=hiv
 obtain⟨oad,ocap,hov⟩:=zE h.pl.zJs
 have HOV:=zB hov
 have hl0':(0:Int) < (t.length:Int):=by omega
 have hl1':(1:Int)≤(t.length:Int):=by omega
 have hlw:IntKind.i64.wrap ((L:Int)+1+1)=(L:Int)+1+1:=IntWalk.i64_in _ ⟨by omega,by omega⟩
 clear h hV hL hok hp' hte hq hV' hnest hln hw hov
 generalize t[0]=x0 at *
 go_enter Tryz.func99,Tryz.ntmps99
 go_wp2_with fail
 all_goals
  refine(zA HW _ S g cap P _ (zA HI).zDR ((zA HI).read (zA HOK)) (by first | exact zu.gone (by omega) rfl | exact(zA HV).drop 1 _ _ rfl (by omega))).mono ?_
  rintro e w2 ⟨rfl,hb2⟩
  have HI2:=zB ((zA HI).zH hb2)
  have ct:=zA HTok _ (zA HI2).bel
  have hq2:=(zA HI2).pl.block
  have c4:w2.cell? ⟨P,4,none⟩=some X.ov:=zC hq2 4 (by simp[plA])
  rw[zA HOV]at c4
  have hfr:=(zA HI2).pl.zJs
  rw[zA HOV]at hfr
  have hPlt:=zJ hq2
  clear hb2 hq2
  obtain⟨r1,r2⟩:=r
  by_cases hr:r2=0
  ·subst hr
   have HE2:=zB (And.intro ((zA HE).1.trans (if_pos (by first | rfl | trivial))) ((zA HE).2.trans (if_pos (by first | rfl | trivial))))
   by_cases h50:50≤p.out.length
   ·have h50':((p.out.length:Int)==50)=true:=by rw[beq_iff_eq];omega
    have HE3:=zB (And.intro ((zA HE2).1.trans (if_pos h50)) ((zA HE2).2.trans (if_pos h50)))
    clear HE HE2 hfr
    go_wp2_with fail
    go_ret
    exact⟨by rw[(zA HE3).1];rfl,X,by rw[(zA HE3).2];exact zA HI2⟩
   ·have h50':((p.out.length:Int)==50)=false:=by rw[beq_eq_false_iff_ne];omega
    have HE3:=zB (And.intro ((zA HE2).1.trans (if_neg h50)) ((zA HE2).2.trans (if_neg h50)))
    clear HE HE2
    go_wp2_with (at_builtin;refine wpList_append_lies _ rfl _ _ 24 rfl 0 3 i0 _ 1 8 Tryz.underlying24 hi0 hz0 hz1 hz2 rfl (by decide) _ _ _ rfl (hfr.alloc _) ⟨w2.heap.size,0,none⟩ 1 1 [.int .i64 r1] rfl rfl (cell_one_new _ _ _) (by simp[Value.oneCell']) (by omega) (by unfold maxLen;omega) (by omega) (Nat.zero_le _) (w2.heap.size+1) (by simp) ?_)
    intro g' cap' w4 hown4 hgrow hat hlt4
    rw[←zA HOV]at hgrow hat
    have hI2:=zA HI2
    have hB:=hI2.bel.size
    have hby:=(Below.refl w2.heap.size w2).alloc (Nat.le_refl _) (.cells #[.int .i64 r1] 3)
    have hpush:=hI2.pl.pushOut hB hby r1 hgrow (.slice (some ⟨g',0,none⟩) (p.out.length+1) cap') hown4 (fun q hq=>by simp[Value.ownBlock]at hq;subst hq;rcases hat with h | h;exact Or.inl h;exact Or.inr (by omega))
    have hq4:w4.heap[P]?=some (.cells (plA X.fv X.vv X.cv X.ov p) 72 (0,0)):=by
     have hne:X.ov.ownBlock≠some P:=fun e=>hI2.pl.apart (zAf (r:=zQ X.ov p.out) (by simp[zb]) e) rfl
     rw[hgrow.block P (by simp;omega) (Ne.symm hne),heap_alloc_old _ _ hPlt]
     exact hI2.pl.block
    have d4:w4.cell? ⟨P,4,none⟩=some X.ov:=zC hq4 4 (by simp[plA])
    have z4:=zI hq4
    have HI4:=zB (hI2.to hpush)
    clear hpush hq4 hby hI2 hown4 hgrow hat hlt4 hfr c4
    go_wp2_with fail
    refine(zA HG _ (zA HI4).zDR).mono ?_
    rintro e w5 ⟨rfl,hb5⟩
    have hI5:=(zA HI4).zH hb5
    have hq5:=hI5.pl.block
    have d5:w5.cell? ⟨P,5,none⟩=some (.int .i64 p.line):=zC hq5 5 (by simp[plA])
    have z5:=zI hq5
    have HF:=zB (hI5.to (hI5.pl.zEL (Rf.zAp ls (L+1):Nat)))
    clear hI5 hq5 hb5
    go_wp2_with fail
    go_ret
    exact⟨by rw[(zA HE3).1];rfl,_,by rw[(zA HE3).2];exact zA HF⟩
  ·have hr':(r2 != 0)=true:=by simpa using hr
   have HE2:=zB (And.intro ((zA HE).1.trans (if_neg hr)) ((zA HE).2.trans (if_neg hr)))
   clear HE hfr
   go_wp2_with fail
   go_ret
   exact⟨by rw[(zA HE2).1];rfl,X,by rw[(zA HE2).2];exact zA HI2⟩
theorem PlO.zPQ {w w1:World} {B P:Nat} {p p':Rf.Pl} {X X':PlX} (h:PlO w B P p X) (hB:B≤w.heap.size) {A C:List Rw} {r r':Rw} (i:Nat) (v:Value) (hre:zb X p=A++r::C) (hre':zb X' p'=A++r'::C)
  (hkx:∀k,k < w.heap.size→r.v.ownBlock≠some k→w1.heap[k]?=w.heap[k]?) (hos:w1.os=w.os∧w1.tape=w.tape∧w1.output=w.output∧w.heap.size≤w1.heap.size)
  (hr:w1.ownsRow 0 r'.t r'.size r'.v r'.n r'.xs) (hat:∀g,r'.v.ownBlock=some g→r.v.ownBlock=some g∨w.heap.size≤g) (hA:(plA X.fv X.vv X.cv X.ov p).setIfInBounds i v=plA X'.fv X'.vv X'.cv X'.ov p') (fl:X'.fps.length=p'.zD.length) (cl:X'.cps.length=p'.cells.length) :
  PlO (w1.setCell ⟨P,i,none⟩ v) B P p' X'∧Below B w (w1.setCell ⟨P,i,none⟩ v):=by
 have hrm:∀k,r.v.ownBlock=some k→k∈zAJ (zb X p):=fun k e=>by rw[hre];exact zAf (r:=r) (by simp) e
 have hPne:r.v.ownBlock≠some P:=fun e=>h.apart (hrm P e) rfl
 have hPlt:=zJ h.block
 have hbP:w1.heap[P]?=some (.cells (plA X.fv X.vv X.cv X.ov p) 72 (0,0)):=(hkx P hPlt hPne).trans h.block
 have ho:=h.own
 rw[hre]at ho
 obtain⟨o1,o2⟩:=Own.swap (w':=w1) ho (r':=r') hkx hr hat
 have hcase:∀k∈zAJ (zb X' p'),k∈zAJ (zb X p)∨w.heap.size≤k:=by
  intro k hk
  rw[hre']at hk
  rcases o2 k hk with hk | hk
  ·rw[←hre]at hk;exact Or.inl hk
  ·exact Or.inr hk
 refine⟨⟨by rw[zO hbP,hA],?_,fl,cl,fun k hk=>?_,h.here⟩,?_⟩
 ·rw[←hre']at o1
  exact⟨fun r hm=>zAZ (o1.rows r hm) (fun g hg=>Below.heap_setCell w1 ⟨P,i,none⟩ _ g (by
   show g≠P
   rcases hcase g (zAf hm hg)with hk | hk
   ·exact h.apart hk
   ·omega)),o1.apart⟩
 ·rcases hcase k hk with hk | hk
  ·exact h.new k hk
  ·omega
 ·refine zt ?_ h.here _ _
  refine⟨hos.1,hos.2.1,hos.2.2.1,hos.2.2.2,fun k hk=>hkx k (by omega) (fun e=>?_)⟩
  have:=h.new k (hrm k e)
  omega
theorem zNx {B:Nat} {w w1:World} (h:Below B w w1):w1.os=w.os∧w1.tape=w.tape∧w1.output=w.output∧w.heap.size≤w1.heap.size:=⟨h.os,h.tape,h.output,h.size⟩
theorem PlO.zPU {w w1:World} {B P:Nat} {p:Rf.Pl} {X:PlX} (h:PlO w B P p X) (hB:B≤w.heap.size) (hb:Below w.heap.size w w1) (v:Value) (xs:List Int) (hn:w1.ownsRow w.heap.size 3 1 v xs.length (zz xs)):PlO (w1.setCell ⟨P,1,none⟩ v) B P { p with vars:=xs } { X with vv:=v }∧Below B w (w1.setCell ⟨P,1,none⟩ v):=
 h.zPQ hB (A:=[zBI X.fv X.fps p.zD]) (r:=zQ X.vv p.vars) (r':=zQ v xs) 1 v rfl rfl (fun k hk _=>hb.block k hk) (zNx hb) (zCr hn) (fun g hg=>Or.inr (hn.lt g hg).1) rfl h.fl h.cl
theorem PlO.newOut {w w1:World} {B P:Nat} {p:Rf.Pl} {X:PlX} (h:PlO w B P p X) (hB:B≤w.heap.size) (hb:Below w.heap.size w w1) (v:Value) (xs:List Int) (hn:w1.ownsRow w.heap.size 3 1 v xs.length (zz xs)):PlO (w1.setCell ⟨P,4,none⟩ v) B P { p with out:=xs } { X with ov:=v }∧Below B w (w1.setCell ⟨P,4,none⟩ v):=
 h.zPQ hB (A:=[zBI X.fv X.fps p.zD,zQ X.vv p.vars,zCh X.cv X.cps p.cells.length]) (r:=zQ X.ov p.out) (r':=zQ v xs) 4 v rfl rfl (fun k hk _=>hb.block k hk) (zNx hb) (zCr hn) (fun g hg=>Or.inr (hn.lt g hg).1) rfl h.fl h.cl
theorem PlO.pushCel {w wx wy w1:World} {B P:Nat} {p:Rf.Pl} {X:PlX} (h:PlO w B P p X) (hB:B≤w.heap.size) (hb:Below w.heap.size w wx) (hby:Below wx.heap.size wx wy) (pv:Value) (c:List Int) (hn:wx.ownsRow w.heap.size 3 1 pv c.length (zz c))
  (hg:wy.grownBy w1 X.cv.ownBlock) (cv':Value) (hown:w1.ownsRow 0 24 1 cv' (p.cells.length+1) (X.cps++[pv])) (hat:∀g,cv'.ownBlock=some g→X.cv.ownBlock=some g∨wx.heap.size≤g) :
  PlO (w1.setCell ⟨P,2,none⟩ cv') B P { p with cells:=p.cells++[c] } { X with cv:=cv',cps:=X.cps++[pv] }∧Below B w (w1.setCell ⟨P,2,none⟩ cv'):=by
 have hkx:∀k,k < wx.heap.size→X.cv.ownBlock≠some k→w1.heap[k]?=wx.heap[k]?:=fun k hk hv=>(hg.block k (Nat.lt_of_lt_of_le hk hby.size) (Ne.symm hv)).trans (hby.block k hk)
 have hkeep:∀k,k < w.heap.size→X.cv.ownBlock≠some k→w1.heap[k]?=w.heap[k]?:=fun k hk hv=>(hkx k (Nat.lt_of_lt_of_le hk hb.size) hv).trans (hb.block k hk)
 have hcm:∀k,X.cv.ownBlock=some k→k∈zAJ (zb X p):=fun k e=>zAf (r:=zCh X.cv X.cps p.cells.length) (by simp[zb]) e
 have hPne:X.cv.ownBlock≠some P:=fun e=>h.apart (hcm P e) rfl
 have hPlt:=zJ h.block
 have hbP:w1.heap[P]?=some (.cells (plA X.fv X.vv X.cv X.ov p) 72 (0,0)):=(hkeep P hPlt hPne).trans h.block
 have ho0:=h.own.zH hb
 have hpv:∀g,pv.ownBlock=some g→g∉zAJ (zb X p):=fun g hg hm=>by
  have h1:=h.own.lt g hm
  have h2:=(hn.lt g hg).1
  omega
 have ho1:Own wx (zb X p++zQ pv c::[]):=Own.add (by rw[List.append_nil];exact ho0) (zCr hn) (fun g hg=>by rw[List.append_nil];exact hpv g hg)
 have hre:zb X p++zQ pv c::[]=[zBI X.fv X.fps p.zD,zQ X.vv p.vars]++zCh X.cv X.cps p.cells.length::(zQ X.ov p.out::(List.zipWith zQ X.fps (p.zD.map Rf.Fr.args)++(List.zipWith zQ X.cps p.cells++[zQ pv c]))):=by simp[zb]
 have ho2:=ho1
 rw[hre]at ho2
 obtain⟨o1,o2⟩:=Own.swap (w':=w1) ho2 (r':=zCh cv' (X.cps++[pv]) (p.cells.length+1)) hkx hown hat
 have hz:List.zipWith zQ (X.cps++[pv]) (p.cells++[c])=List.zipWith zQ X.cps p.cells++[zQ pv c]:=by
  rw[List.zipWith_append h.cl];rfl
 have hre':zb { X with cv:=cv',cps:=X.cps++[pv] } { p with cells:=p.cells++[c] }=[zBI X.fv X.fps p.zD,zQ X.vv p.vars]++zCh cv' (X.cps++[pv]) (p.cells.length+1)::(zQ X.ov p.out::(List.zipWith zQ X.fps (p.zD.map Rf.Fr.args)++(List.zipWith zQ X.cps p.cells++[zQ pv c]))):=by
  unfold zb
  simp only[hz,List.length_append,List.length_singleton,List.cons_append,List.nil_append]
 have hcase:∀k∈zAJ (zb { X with cv:=cv',cps:=X.cps++[pv] } { p with cells:=p.cells++[c] }),k∈zAJ (zb X p)∨w.heap.size≤k:=by
  intro k hk
  rw[hre']at hk
  rcases o2 k hk with hk | hk
  ·rw[←hre]at hk
   rcases zE2 hk with hk | hk
   ·rw[List.append_nil]at hk;exact Or.inl hk
   ·exact Or.inr (hn.lt k hk).1
  ·exact Or.inr (Nat.le_trans hb.size hk)
 refine⟨⟨by rw[zO hbP];rfl,?_,h.fl,by simp[h.cl],fun k hk=>?_,h.here⟩,?_⟩
 ·rw[←hre']at o1
  exact⟨fun r hm=>zAZ (o1.rows r hm) (fun g hg=>Below.heap_setCell w1 ⟨P,2,none⟩ _ g (by
   show g≠P
   rcases hcase g (zAf hm hg)with hk | hk
   ·exact h.apart hk
   ·omega)),o1.apart⟩
 ·rcases hcase k hk with hk | hk
  ·exact h.new k hk
  ·omega
 ·refine zt ?_ h.here _ _
  refine⟨hg.os.trans (hby.os.trans hb.os),hg.tape.trans (hby.tape.trans hb.tape),hg.output.trans (hby.output.trans hb.output),Nat.le_trans (Nat.le_trans hb.size hby.size) hg.size,fun k hk=>hkeep k (by omega) (fun e=>?_)⟩
  have:=h.new k (hcm k e)
  omega
end Go.Proofs.YthleadfkfnnadaaGreat
