/- What an expression is worth: the document's answer at a machine's place is what the machine's work comes to. -/
import Derived.Test.YthleadfkfnnadaaGreatPlA
import Derived.Test.YthleadfkfnnadaaGreatFwA
set_option maxHeartbeats 4000000
set_option maxRecDepth 100000
namespace Go.Proofs.YthleadfkfnnadaaGreat
open Go.RowKit
namespace Rf
open Rt
section
variable (S : Rt.Src) (m : Mc)
def Whole (e:List Pop):Prop:=∀(st:List Int) (r:List Pop),evalI S m (e++r) st=if (zN S m e).2=0 then evalI S m r (st++[(zN S m e).1])else (0,(zN S m e).2)
theorem zHg (o:Pop) (v:Int) (h:∀st,workI S m st o=(st++[v],0)):zN S m [o]=(v,0)∧Whole S m [o]:=by
 have e:zN S m [o]=(v,0):=by
  unfold zN
  rw[evalI,h,if_pos rfl,evalI]
  rfl
 refine⟨e,fun st r=>?_⟩
 rw[e,if_pos rfl]
 show evalI S m (o::r) st=_
 rw[evalI,h,if_pos rfl]
theorem eval_un {e:List Pop} (he:Whole S m e) (o:Pop) (g:Int→Int×Int) (h:∀st v,workI S m (st++[v]) o=if (g v).2=0 then (st++[(g v).1],0)else (st,(g v).2)) (hz:∀v,(g v).2≠0→(g v).1=0) :
  zN S m (e++[o])=(if (zN S m e).2=0 then g (zN S m e).1 else (0,(zN S m e).2))∧Whole S m (e++[o]):=by
 have key:∀st r,evalI S m (e++(o::r)) st=if (zN S m e).2=0 then (if (g (zN S m e).1).2=0 then evalI S m r (st++[(g (zN S m e).1).1])else (0,(g (zN S m e).1).2))else (0,(zN S m e).2):=by
  intro st r
  rw[he st (o::r)]
  by_cases h0:(zN S m e).2=0
  ·rw[if_pos h0,if_pos h0,evalI,h]
   by_cases h1:(g (zN S m e).1).2=0
   ·rw[if_pos h1,if_pos h1,if_pos rfl]
   ·rw[if_neg h1,if_neg h1,if_neg h1]
  ·rw[if_neg h0,if_neg h0]
 have e1:zN S m (e++[o])=(if (zN S m e).2=0 then g (zN S m e).1 else (0,(zN S m e).2)):=by
  show evalI S m (e++(o::[])) []=_
  rw[key]
  by_cases h0:(zN S m e).2=0
  ·rw[if_pos h0,if_pos h0]
   by_cases h1:(g (zN S m e).1).2=0
   ·rw[if_pos h1,evalI]
    exact Prod.ext rfl h1.symm
   ·rw[if_neg h1]
    exact Prod.ext (hz _ h1).symm rfl
  ·rw[if_neg h0,if_neg h0]
 refine⟨e1,fun st r=>?_⟩
 rw[List.append_assoc,e1]
 show evalI S m (e++(o::r)) st=_
 rw[key]
 by_cases h0:(zN S m e).2=0
 ·rw[if_pos h0,if_pos h0]
 ·rw[if_neg h0,if_neg h0,if_neg h0]
theorem eval_bin {e f:List Pop} (he:Whole S m e) (hf:Whole S m f) (o:Pop) (ho:¬(o.code=1∨o.code=2∨o.code=3∨o.code=4)) :
  zN S m (e++f++[o])=(if ¬(zN S m e).2=0 then (0,(zN S m e).2)else if ¬(zN S m f).2=0 then (0,(zN S m f).2)else zw o.code (zN S m e).1 (zN S m f).1)∧Whole S m (e++f++[o]):=by
 have hw:∀st a b,workI S m (st++[a]++[b]) o=if (zw o.code a b).2=0 then (st++[(zw o.code a b).1],0)else (st,(zw o.code a b).2):=by
  intro st a b
  unfold workI
  rw[if_neg (fun q=>ho (Or.inl q)),if_neg (fun q=>ho (Or.inr (Or.inl q))),if_neg (fun q=>ho (Or.inr (Or.inr (Or.inl q)))),if_neg (fun q=>ho (Or.inr (Or.inr (Or.inr q))))]
  simp only[List.getLastD_concat,List.dropLast_concat]
 have hz:∀a b,(zw o.code a b).2≠0→(zw o.code a b).1=0:=by
  intro a b
  unfold zw
  repeat' split
  all_goals intro h;first | rfl | exact absurd rfl h
 have key:∀st r,evalI S m (e++(f++(o::r))) st=if (zN S m e).2=0 then (if (zN S m f).2=0 then (if (zw o.code (zN S m e).1 (zN S m f).1).2=0 then evalI S m r (st++[(zw o.code (zN S m e).1 (zN S m f).1).1])else (0,(zw o.code (zN S m e).1 (zN S m f).1).2))else (0,(zN S m f).2))else (0,(zN S m e).2):=by
  intro st r
  rw[he st]
  by_cases h0:(zN S m e).2=0
  ·rw[if_pos h0,if_pos h0,hf]
   by_cases h1:(zN S m f).2=0
   ·rw[if_pos h1,if_pos h1,evalI,hw]
    by_cases h2:(zw o.code (zN S m e).1 (zN S m f).1).2=0
    ·rw[if_pos h2,if_pos h2,if_pos rfl]
    ·rw[if_neg h2,if_neg h2,if_neg h2]
   ·rw[if_neg h1,if_neg h1]
  ·rw[if_neg h0,if_neg h0]
 have e1:zN S m (e++f++[o])=(if ¬(zN S m e).2=0 then (0,(zN S m e).2)else if ¬(zN S m f).2=0 then (0,(zN S m f).2)else zw o.code (zN S m e).1 (zN S m f).1):=by
  rw[List.append_assoc]
  show evalI S m (e++(f++(o::[]))) []=_
  rw[key]
  by_cases h0:(zN S m e).2=0
  ·rw[if_pos h0,if_neg (not_not_intro h0)]
   by_cases h1:(zN S m f).2=0
   ·rw[if_pos h1,if_neg (not_not_intro h1)]
    by_cases h2:(zw o.code (zN S m e).1 (zN S m f).1).2=0
    ·rw[if_pos h2,evalI]
     exact Prod.ext rfl h2.symm
    ·rw[if_neg h2]
     exact Prod.ext (hz _ _ h2).symm rfl
   ·rw[if_neg h1,if_pos h1]
  ·rw[if_neg h0,if_pos h0]
 refine⟨e1,fun st r=>?_⟩
 rw[List.append_assoc,List.append_assoc,e1]
 show evalI S m (e++(f++(o::r))) st=_
 rw[key]
 by_cases h0:(zN S m e).2=0
 ·rw[if_pos h0,if_neg (not_not_intro h0)]
  by_cases h1:(zN S m f).2=0
  ·rw[if_pos h1,if_neg (not_not_intro h1)]
  ·rw[if_neg h1,if_pos h1,if_neg h1]
 ·rw[if_neg h0,if_pos h0,if_neg h0]
def celI (x:ByteArray) (v:Int):Int×Int:=match Rt.zBW S m x v with
 | none=>(0,3)
 | some s=>(zCF m s,0)
theorem zNk {e:List Pop} (he:Whole S m e):zN S m (e++[⟨4,0,⟨#[]⟩⟩])=(if (zN S m e).2=0 then (wrap64 (-(zN S m e).1),0)else (0,(zN S m e).2))∧Whole S m (e++[⟨4,0,⟨#[]⟩⟩]):=
 eval_un S m he ⟨4,0,⟨#[]⟩⟩ (fun v=>(wrap64 (-v),0)) (fun st v=>by simp[workI]) (fun v h=>absurd rfl h)
theorem zNl {e:List Pop} (he:Whole S m e) (x:ByteArray):zN S m (e++[⟨3,0,x⟩])=(if (zN S m e).2=0 then celI S m x (zN S m e).1 else (0,(zN S m e).2))∧Whole S m (e++[⟨3,0,x⟩]):=by
 refine eval_un S m he ⟨3,0,x⟩ (celI S m x) (fun st v=>?_) (fun v h=>?_)
 ·unfold workI celI
  simp only[List.getLastD_concat,List.dropLast_concat]
  cases Rt.zBW S m x v <;> simp
 ·unfold celI at h ⊢
  cases hc:Rt.zBW S m x v with
  | none=>rfl
  | some s=>rw[hc]at h;exact absurd rfl h
theorem zF8 {o:ByteArray} (h:inB zBh o=true∨inB zBL o=true∨inB zBG o=true):¬(zU o=1∨zU o=2∨zU o=3∨zU o=4):=by
 rcases h with h | h | h
 ·have:=(zNo o).mpr h;omega
 ·have:=(zKm o).mpr h;omega
 ·have:=(zKY o).mpr h;omega
theorem zDF {k:Nat} {t:List ByteArray} {e:List Pop} (h:Cm k t e):Whole S m e:=by
 induction h with
 | num x h=>exact(zHg S m _ (val x) (fun st=>by simp[workI])).2
 | nam x h=>exact(zHg S m _ (zCF m (zB6 S m x)) (fun st=>by simp[workI])).2
 | neg p e _ ih=>exact(zNk S m ih).2
 | par p e _ ih=>exact ih
 | cel x p e _ _ ih=>exact(zNl S m ih x).2
 | t1 p e _ ih=>exact ih
 | t2 p o q e f _ ho _ ih1 ih2=>exact(eval_bin S m ih1 ih2 _ (zF8 (Or.inl ho))).2
 | s1 p e _ ih=>exact ih
 | s2 p o q e f _ ho _ ih1 ih2=>exact(eval_bin S m ih1 ih2 _ (zF8 (Or.inr (Or.inl ho)))).2
 | e1 p e _ ih=>exact ih
 | e2 p o q e f _ ho _ ih1 ih2=>exact(eval_bin S m ih1 ih2 _ (zF8 (Or.inr (Or.inr ho)))).2
end
theorem two_eq {o:ByteArray} (h:inB zBh o=true∨inB zBL o=true∨inB zBG o=true) (a b:Int):two a o.toList b=zw (zU o) a b:=by
 have hl:∀l:List UInt8,(⟨l.toArray⟩:ByteArray).toList=l:=zBB
 rcases h with h | h | h
 ·rcases zEo h with rfl | rfl | rfl
  ·rw[show (⟨#[42]⟩:ByteArray).toList=[42]from hl [42]];simp[two,zw,zU]
  ·rw[show (⟨#[47]⟩:ByteArray).toList=[47]from hl [47]];simp[two,zw,zU]
  ·rw[show (⟨#[37]⟩:ByteArray).toList=[37]from hl [37]];simp[two,zw,zU]
 ·rcases zEt h with rfl | rfl
  ·rw[show (⟨#[43]⟩:ByteArray).toList=[43]from hl [43]];simp[two,zw,zU]
  ·rw[show (⟨#[45]⟩:ByteArray).toList=[45]from hl [45]];simp[two,zw,zU]
 ·rcases zGL h with rfl | rfl
  ·rw[show (⟨#[60]⟩:ByteArray).toList=[60]from hl [60]];simp[two,zw,zU,zGh]
  ·rw[show (⟨#[61]⟩:ByteArray).toList=[61]from hl [61]];simp[two,zw,zU,zGh]
end Rf
theorem zN7 {ls:List (List ByteArray)} {p:Rf.Pl} {t:List ByteArray} {a:Int×Int} (hf:Few t) (hs:Rf.split t=-1) (hl0:0 < t.length) (hx:(t[0].toList==[45])=true) (h1:zCe ls p a (t.drop 1)) :
  zCe ls p (wrap64 (-a.1),a.2) t:=by
 intro w S g cap P v hG hP hV
 have HG:=zB hG
 have HP:=zB hP
 have HV:=zB hV
 have HF:=zB hf
 have HI:=zB h1
 have hl:=hf.1
 obtain⟨ad,cp,rfl,hcap⟩:=hV.form
 obtain⟨tb,to,rfl⟩:=hV.zAM (by intro h;rw[h]at hl0;simp at hl0)
 clear hG hP hV hf h1
 have hl0':(0:Int) < (t.length:Int):=by omega
 have hl1':(1:Int)≤(t.length:Int):=by omega
 go_enter Tryz.func154,Tryz.ntmps154
 go_wp2_with fail
 refine(zEg _ _ t (zA HV) (zA HF)).mono ?_
 rintro e w1 ⟨rfl,hb1⟩
 rw[hs]
 obtain⟨ub,uo,uc,he,ct⟩:=((zA HV).zH hb1).cell hl0
 simp only[Value.slice.injEq,Option.some.injEq,Addr.mk.injEq,true_and,and_true]at he
 obtain⟨⟨rfl,rfl⟩,he⟩:=he
 clear he
 have HB1:=zB hb1
 clear hb1 hs
 simp only[Nat.add_zero]at ct
 generalize t[0]=x at *
 go_wp2_with fail
 all_goals
  refine(zA HI _ S g cap P _ ((zA HG).zH (zA HB1)) ((zA HP).zH (zA HB1)) (by first | exact zu.gone (by omega) rfl | exact((zA HV).zH (zA HB1)).drop 1 _ _ rfl (by omega))).mono ?_
  rintro e w2 ⟨rfl,hb2⟩
  have HB2:=zB ((zA HB1).trans (hb2.mono (B':=w.heap.size) (zA HB1).size))
  clear hb2
  go_wp2_with fail
  go_ret2
  exact⟨rfl,zA HB2⟩
theorem zN6 {ls:List (List ByteArray)} {p:Rf.Pl} {t:List ByteArray} {a:Int×Int} (hf:Few t) (hs:Rf.split t=-1) (hl2:2≤t.length) (hx:(t[0].toList==[45])=false) (hy:(t[0].toList==[40])=true) (h1:zCe ls p a ((t.take (t.length-1)).drop 1)) :
  zCe ls p a t:=by
 intro w S g cap P v hG hP hV
 have HG:=zB hG
 have HP:=zB hP
 have HV:=zB hV
 have HF:=zB hf
 have HI:=zB h1
 have hl:=hf.1
 obtain⟨ad,cp,rfl,hcap⟩:=hV.form
 obtain⟨tb,to,rfl⟩:=hV.zAM (by intro h;rw[h]at hl2;simp at hl2)
 clear hG hP hV hf h1
 have hl0:0 < t.length:=by omega
 have hl0':(0:Int) < (t.length:Int):=by omega
 have hl1':(1:Int)≤(t.length:Int):=by omega
 go_enter Tryz.func154,Tryz.ntmps154
 go_wp2_with fail
 refine(zEg _ _ t (zA HV) (zA HF)).mono ?_
 rintro e w1 ⟨rfl,hb1⟩
 rw[hs]
 obtain⟨ub,uo,uc,he,ct⟩:=((zA HV).zH hb1).cell hl0
 simp only[Value.slice.injEq,Option.some.injEq,Addr.mk.injEq,true_and,and_true]at he
 obtain⟨⟨rfl,rfl⟩,he⟩:=he
 clear he
 have HB1:=zB hb1
 clear hb1 hs
 simp only[Nat.add_zero]at ct
 generalize t[0]=x at *
 go_wp2_with fail
 all_goals
  refine(zA HI _ S g cap P _ ((zA HG).zH (zA HB1)) ((zA HP).zH (zA HB1)) (by first | exact((zA HV).zH (zA HB1)).mid 1 (t.length-1) _ _ (by omega) rfl (by omega)| exact((zA HV).zH (zA HB1)).mid 1 (t.length-1) _ _ (by omega) (by omega) (by omega))).mono ?_
  rintro e w2 ⟨rfl,hb2⟩
  have HB2:=zB ((zA HB1).trans (hb2.mono (B':=w.heap.size) (zA HB1).size))
  clear hb2
  go_wp2_with fail
  go_ret2
  exact⟨rfl,zA HB2⟩
theorem zN8 {ls:List (List ByteArray)} {p:Rf.Pl} {t:List ByteArray} {a r:Int×Int} (hL:Lawful ls) (hok:Rf.zEb ls p) (hf:Few t) (hs:Rf.split t=-1) (hl3:3≤t.length) (hx:(t[0].toList==[45])=false) (hy:(t[0].toList==[40])=false) (h1:zCe ls p a ((t.take (t.length-1)).drop 2))
  (hr:r=if ¬a.2=0 then ((0:Int),a.2)else if a.1 < 0∨((p.cells.getD (Rf.decl ls t[0]) []).length:Int)≤a.1 then (0,3)else ((p.cells.getD (Rf.decl ls t[0]) []).getD a.1.toNat 0,0)):zCe ls p r t:=by
 intro w S g cap P v hG hP hV
 have HG:=zB hG
 have HP:=zB hP
 have HV:=zB hV
 have HF:=zB hf
 have HI:=zB h1
 have HLL:=zB hL
 have HOK:=zB hok
 have hl:=hf.1
 obtain⟨ad,cp,rfl,hcap⟩:=hV.form
 obtain⟨tb,to,rfl⟩:=hV.zAM (by intro h;rw[h]at hl3;simp at hl3)
 have HR:=zB hr
 clear hG hP hV hf h1 hL hok hr
 have hl0:0 < t.length:=by omega
 have hl0':(0:Int) < (t.length:Int):=by omega
 have hl1':(1:Int) < (t.length:Int):=by omega
 go_enter Tryz.func154,Tryz.ntmps154
 go_wp2_with fail
 refine(zEg _ _ t (zA HV) (zA HF)).mono ?_
 rintro e w1 ⟨rfl,hb1⟩
 rw[hs]
 have HC:Hid (∀w',zu w' (.slice (some ⟨tb,to,none⟩) t.length cp) t→w'.cell? ⟨tb,to,none⟩=some (.string t[0])):=zB (by
  intro w' h
  obtain⟨b',o',cap',he,c0⟩:=h.cell hl0
  simp at he
  obtain⟨⟨rfl,rfl⟩,rfl⟩:=he
  exact c0)
 have ct:=zA HC _ ((zA HV).zH hb1)
 have HB1:=zB hb1
 clear hb1 hs
 generalize t[0]=x at *
 go_wp2_with fail
 all_goals
  refine(zA HI _ S g cap P _ ((zA HG).zH (zA HB1)) ((zA HP).zH (zA HB1)) (by first | exact((zA HV).zH (zA HB1)).mid 2 (t.length-1) _ _ (by omega) rfl (by omega)| exact((zA HV).zH (zA HB1)).mid 2 (t.length-1) _ _ (by omega) (by omega) (by omega))).mono ?_
  rintro e w2 ⟨rfl,hb2⟩
  have HB2:=zB ((zA HB1).trans (hb2.mono (B':=w.heap.size) (zA HB1).size))
  clear hb2 ct
  obtain⟨a1,a2⟩:=a
  by_cases ha:a2=0
  ·subst ha
   have ct2:=zA HC _ ((zA HV).zH (zA HB2))
   obtain⟨cb,co,cc,cv,hci⟩:=((zA HP).zH (zA HB2)).cells
   have hdb:=Rf.zEG ls x
   have hdl:Rf.decl ls x < p.cells.length:=by have:=(zA HOK).cells;omega
   obtain⟨dv,cd,hdi⟩:=hci (Rf.decl ls x) hdl
   have hge:p.cells.getD (Rf.decl ls x) []=p.cells[Rf.decl ls x]:=by simp[hdl]
   have HR2:=zB ((zA HR).trans (if_neg (by simp)))
   rw[hge]at HR2
   generalize p.cells[Rf.decl ls x]=cl at *
   clear hge hci HR
   obtain⟨d,hd⟩:∃d,d=Rf.decl ls x:=⟨_,rfl⟩
   have HD:=zB hd
   rw[←hd]at cd hdl
   clear hd hdb
   have hdl':(d:Int) < (p.cells.length:Int):=by omega
   have hd0:(0:Int)≤(d:Int):=by omega
   have hpl:p.cells.length≤1000:=by have:=(zA HOK).cells;have:=(zA HLL).len;omega
   have HDI:=zB hdi
   obtain⟨dad,dcap,rfl,_⟩:=hdi
   have HK:=zB (And.intro cv (And.intro ct2 cd))
   go_wp2_with fail
   go_region_held3 (fun w'=>w'.cell? ⟨P,2,none⟩=some (.slice (some ⟨cb,co,none⟩) p.cells.length cc)∧w'.cell? ⟨tb,to,none⟩=some (.string x)∧w'.cell? ⟨cb,co+d,none⟩=some (.slice dad cl.length dcap)) (first | go_keep | exact⟨cell_later (zm hb3) (zA HK).1,cell_later (zm hb3) (zA HK).2.1,cell_later (zm hb3) (zA HK).2.2⟩) ((go_at_call 84;refine(zAb _ S g cap ls x (((zA HG).zH (zA HB2)).zH (zS _)) (zA HLL)).mono ?_;rintro e w3 ⟨rfl,hb3⟩;rw[←zA HD]))
   have hbx:=zm hb3
   have HDI3:=zB ((zA HDI).zH hbx)
   have HB3:=zB ((zA HB2).trans (hbx.mono (B':=w.heap.size) (zA HB2).size))
   clear hb3 hbx HDI ct2 cv cd
   by_cases hlo:a1 < 0
   ·go_wp2_with fail
    go_ret2
    exact⟨by rw[(zA HR2).trans (if_pos (Or.inl hlo))];rfl,zA HB3⟩
   ·by_cases hhi:(cl.length:Int)≤a1
    ·go_wp2_with fail
     go_ret2
     exact⟨by rw[(zA HR2).trans (if_pos (Or.inr hhi))];rfl,zA HB3⟩
    ·obtain⟨i,rfl⟩:=Int.eq_ofNat_of_zero_le (show 0≤a1 by omega)
     have hil:i < cl.length:=by omega
     obtain⟨ib,io,ic,he,ci⟩:=(zA HDI3).get hil
     simp only[Value.slice.injEq,true_and]at he
     obtain⟨rfl,he⟩:=he
     clear he
     have HR3:Hid (r=(cl[i],0)):=zB ((zA HR2).trans ((if_neg (show ¬((i:Int) < 0∨(cl.length:Int)≤(i:Int)) by omega)).trans (by simp[hil])))
     have hil':(i:Int) < (cl.length:Int):=by omega
     have hi0:(0:Int)≤(i:Int):=by omega
     generalize cl[i]=rv at *
     go_wp2_with fail
     go_ret2
     exact⟨by rw[zA HR3];rfl,zA HB3⟩
  ·have ha':(a2 != 0)=true:=by simpa using ha
   go_wp2_with fail
   go_ret2
   exact⟨by rw[(zA HR).trans (if_pos ha)];rfl,zA HB2⟩
theorem zJT {ls:List (List ByteArray)} {p:Rf.Pl} {t:List ByteArray} {r:Int×Int} (hL:Lawful ls) (hok:Rf.zEb ls p) (hf:Few t) (hs:Rf.split t=-1) (hl0:0 < t.length) (hl1:t.length≤1) (hx:(t[0].toList==[45])=false) (hy:(t[0].toList==[40])=false)
  (hr:r=if Rf.zAF t[0]=true then (Rf.worth t[0],(0:Int))else (Rf.value ls p t[0],0)):zCe ls p r t:=by
 intro w S g cap P v hG hP hV
 have HG:=zB hG
 have HP:=zB hP
 have HV:=zB hV
 have HF:=zB hf
 have HLL:=zB hL
 have HOK:=zB hok
 have hl:=hf.1
 obtain⟨ad,cp,rfl,hcap⟩:=hV.form
 obtain⟨tb,to,rfl⟩:=hV.zAM (by intro h;rw[h]at hl0;simp at hl0)
 have hsz:=hf.2 _ (List.getElem_mem hl0)
 have hsz':t[0].size≤maxLen:=by unfold maxLen;omega
 have HR:=zB hr
 clear hG hP hV hf hL hok hr
 have hl0':(0:Int) < (t.length:Int):=by omega
 have hn1:¬(1:Int) < (t.length:Int):=by omega
 clear hl1
 have HT:Hid (∀w' c,zu w' (.slice (some ⟨tb,to,none⟩) t.length c) t→w'.cell? ⟨tb,to,none⟩=some (.string t[0])):=zB (by
  intro w' c h
  obtain⟨b',o',cap',he,c0⟩:=h.cell hl0
  simp at he
  obtain⟨⟨rfl,rfl⟩,rfl⟩:=he
  exact c0)
 go_enter Tryz.func154,Tryz.ntmps154
 go_wp2_with fail
 refine(zEg _ _ t (zA HV) (zA HF)).mono ?_
 rintro e w1 ⟨rfl,hb1⟩
 rw[hs]
 have ct:=zA HT _ _ ((zA HV).zH hb1)
 have HB1:=zB hb1
 clear hb1 hs
 generalize t[0]=x at *
 go_wp2_with fail
 refine(zC5 x _ hsz').mono ?_
 rintro e w2 ⟨rfl,rfl⟩
 cases hn:Rf.zAF x with
 | true=>
  go_wp2_with fail
  refine(zH2 x _ hsz').mono ?_
  rintro e w3 ⟨rfl,rfl⟩
  go_wp2_with fail
  go_ret2
  exact⟨by rw[(zA HR).trans (if_pos hn)];rfl,zA HB1⟩
 | false=>
  go_wp2_with fail
  refine(zPl _ S g cap P ls p x ((zA HG).zH (zA HB1)) (zA HLL) ((zA HP).zH (zA HB1)) (zA HOK)).mono ?_
  rintro e w3 ⟨rfl,hb3⟩
  have HB3:=zB ((zA HB1).trans (hb3.mono (B':=w.heap.size) (zA HB1).size))
  clear hb3
  go_wp2_with fail
  go_ret2
  exact⟨by rw[(zA HR).trans (if_neg (by rw[hn];simp))];rfl,zA HB3⟩
namespace Rf
open Rt
theorem zB3 {t u:List ByteArray} (h:Few t) (hl:u.length≤t.length) (hs:∀x∈u,x∈t):Few u:=⟨by have:=h.1;omega,fun x hx=>h.2 x (hs x hx)⟩
theorem zLk (S:Rt.Src) (m:Mc):∀(e:List Pop) (st:List Int),(evalI S m e st).2≠0→(evalI S m e st).1=0
 | [],st,h=>absurd rfl h
 | o::r,st,h=>by
  rw[evalI]at h ⊢
  split
  ·next h0=>rw[if_pos h0]at h;exact zLk S m r _ h
  ·rfl
theorem lit_b (l:List UInt8) (r:List UInt8):((⟨l.toArray⟩:ByteArray).toList==r)=(l==r):=by rw[zBB]
theorem zJv {x:ByteArray} (h:zi x=true∨zAF x=true):(x.toList==[45])=false∧(x.toList==[40])=false:=by
 constructor
 ·rw[zCC,decide_eq_false_iff_not];exact zE6 h 45 (by decide) (by decide)
 ·rw[zCC,decide_eq_false_iff_not];exact zE6 h 40 (by decide) (by decide)
theorem no_both {x:ByteArray} (h:zi x=true):zAF x=false:=by
 cases hn:zAF x with
 | false=>rfl
 | true=>
  exfalso
  simp[zi]at h
  simp[zAF]at hn
  have h1:=h.1.2
  have h2:=hn.2
  simp[zAl]at h1
  simp[zBE]at h2
  omega
theorem zQ3 (p:List ByteArray) (o:ByteArray) (q:List ByteArray):(p++o::q).take p.length=p∧(p++o::q).drop (p.length+1)=q∧∃h:p.length < (p++o::q).length,(p++o::q)[p.length]=o:=by
 refine⟨by simp,?_,by simp,by simp⟩
 rw[List.drop_append,List.drop_eq_nil_of_le (by omega),show p.length+1-p.length=1 by omega]
 rfl
theorem zN5 (x:ByteArray) (p:List ByteArray) (y:ByteArray):((x::(p++[y])).take ((x::(p++[y])).length-1)).drop 1=p:=by
 rw[show (x::(p++[y])).length-1=p.length+1 by simp,List.take_succ_cons,List.drop_succ_cons,List.drop_zero,List.take_append_of_le_length (Nat.le_refl _),List.take_length]
theorem zQ0 (x u:ByteArray) (p:List ByteArray) (y:ByteArray):((x::u::(p++[y])).take ((x::u::(p++[y])).length-1)).drop 2=p:=by
 rw[show (x::u::(p++[y])).length-1=p.length+2 by simp,List.take_succ_cons,List.take_succ_cons,List.drop_succ_cons,List.drop_succ_cons,List.drop_zero,List.take_append_of_le_length (Nat.le_refl _),List.take_length]
section
variable {pls : List PL} {ls : List (List ByteArray)} {S : Rt.Src} {m : Mc}
theorem zIR {p q:List ByteArray} {o:ByteArray} {e f:List Pop} (hf:Few (p++o::q)) (hs:split (p++o::q)=p.length) (ho:inB zBh o=true∨inB zBL o=true∨inB zBG o=true) (h1:zCe ls (zP pls m) (zN S m e) p) (h2:zCe ls (zP pls m) (zN S m f) q) (w1:Whole S m e) (w2:Whole S m f) :
  zCe ls (zP pls m) (zN S m (e++f++[⟨zU o,0,⟨#[]⟩⟩])) (p++o::q):=by
 obtain⟨b1,b2,b3,b4⟩:=zQ3 p o q
 have:=zN9 (ls:=ls) (p:=zP pls m) hf hs b3 (by rw[b1];exact h1) (by rw[b2];exact h2)
 rw[b4,two_eq ho]at this
 rw[(eval_bin S m w1 w2 ⟨zU o,0,⟨#[]⟩⟩ (zF8 ho)).1]
 exact this
theorem zEd (E:Env pls ls S m) {k:Nat} {t:List ByteArray} {e:List Pop} (h:Cm k t e):Few t→zCD (Rt.isVar pls (zAR S m)) (Rt.zCN pls (zAR S m)) e=true→zCe ls (zP pls m) (zN S m e) t:=by
 induction h with
 | num x hx=>
  intro hf ho
  obtain⟨n1,n2⟩:=zJv (Or.inr hx)
  have:=zJT (p:=zP pls m) E.law E.ok hf (zDw (.num x hx)) Nat.zero_lt_one (Nat.le_refl 1) n1 n2 rfl
  rw[show ([x]:List ByteArray)[0]=x from rfl,if_pos hx]at this
  rw[(zHg S m ⟨1,val x,⟨#[]⟩⟩ (val x) (fun st=>by simp[workI])).1,zH4]
  exact this
 | nam x hx=>
  intro hf ho
  obtain⟨n1,n2⟩:=zJv (Or.inl hx)
  have:=zJT (p:=zP pls m) E.law E.ok hf (zDw (.nam x hx)) Nat.zero_lt_one (Nat.le_refl 1) n1 n2 rfl
  have hv:Rt.isVar pls (zAR S m) x=true:=by simpa[zCD] using ho
  rw[show ([x]:List ByteArray)[0]=x from rfl,if_neg (by rw[no_both hx];simp),value_eq E hv]at this
  rw[(zHg S m ⟨2,0,x⟩ (zCF m (zB6 S m x)) (fun st=>by simp[workI])).1]
  exact this
 | neg p e hp ih=>
  intro hf ho
  rw[zBC,Bool.and_eq_true]at ho
  have:=zN7 (ls:=ls) (p:=zP pls m) hf (zDw (.neg p hp.is)) (by simp) (lit_b [45] [45]) (ih (zB3 hf (by simp) (fun x hx=>by simp[hx])) ho.1)
  rw[(zNk S m (zDF S m hp)).1]
  by_cases h0:(zN S m e).2=0
  ·rw[if_pos h0]
   rw[h0]at this
   exact this
  ·rw[if_neg h0]
   have hz:(zN S m e).1=0:=zLk S m e [] h0
   rw[hz,show wrap64 (-(0:Int))=0 from IntWalk.wrap64_in _ (by omega)]at this
   exact this
 | par p e hp ih=>
  intro hf ho
  refine zN6 (ls:=ls) (p:=zP pls m) hf (zDw (.par p hp.is)) (by simp) (lit_b [40] [45]) (lit_b [40] [40]) ?_
  rw[zN5]
  exact ih (zB3 hf (by simp;omega) (fun x hx=>by simp[hx])) ho
 | cel x p e hx hp ih=>
  intro hf ho
  rw[zBC,Bool.and_eq_true]at ho
  obtain⟨n1,n2⟩:=zJv (Or.inl hx)
  have hv:Rt.zCN pls (zAR S m) x=true:=by simpa[zCD] using ho.2
  have:=zN8 (ls:=ls) (p:=zP pls m) E.law E.ok hf (zDw (.cel x p hx hp.is)) (by simp) n1 n2 (by rw[zQ0];exact ih (zB3 hf (by simp;omega) (fun y hy=>by simp[hy])) ho.1) rfl
  rw[(zNl S m (zDF S m hp) x).1]
  obtain⟨c1,c2,c3⟩:=celE E hv
  rw[show (x::zAQ::(p++[zBQ]))[0]=x from rfl,c1]at this
  by_cases h0:(zN S m e).2=0
  ·rw[if_pos h0]
   rw[if_neg (not_not_intro h0)]at this
   unfold celI Rt.zBW zEY zCF
   generalize (zN S m e).1=v at *
   by_cases hr:v < 0∨((cellsOf m (zAE S.pls x:Nat)).length:Int)≤v
   ·rw[if_pos hr]at this
    rw[if_neg (by simp only[decide_eq_true_eq];omega)]
    exact this
   ·rw[if_neg hr]at this
    rw[if_pos (by simp only[decide_eq_true_eq];omega)]
    simp only
    rw[if_neg (by omega),←List.getD_eq_getElem?_getD]
    exact this
  ·rw[if_neg h0]
   rw[if_pos h0]at this
   exact this
 | t1 p e _ ih=>exact ih
 | t2 p o q e f hp ho hq ih1 ih2=>
  intro hf hk
  rw[zBC,zBC,Bool.and_eq_true,Bool.and_eq_true]at hk
  exact zIR hf (zPt hp.is ho hq.is) (Or.inl ho) (ih1 (zB3 hf (by simp) (fun x hx=>by simp[hx])) hk.1.1) (ih2 (zB3 hf (by simp;omega) (fun x hx=>by simp[hx])) hk.1.2) (zDF S m hp) (zDF S m hq)
 | s1 p e _ ih=>exact ih
 | s2 p o q e f hp ho hq ih1 ih2=>
  intro hf hk
  rw[zBC,zBC,Bool.and_eq_true,Bool.and_eq_true]at hk
  exact zIR hf (zPv hp.is ho hq.is) (Or.inr (Or.inl ho)) (ih1 (zB3 hf (by simp) (fun x hx=>by simp[hx])) hk.1.1) (ih2 (zB3 hf (by simp;omega) (fun x hx=>by simp[hx])) hk.1.2) (zDF S m hp) (zDF S m hq)
 | e1 p e _ ih=>exact ih
 | e2 p o q e f hp ho hq ih1 ih2=>
  intro hf hk
  rw[zBC,zBC,Bool.and_eq_true,Bool.and_eq_true]at hk
  exact zIR hf (zPu hp.is ho hq.is) (Or.inr (Or.inr ho)) (ih1 (zB3 hf (by simp) (fun x hx=>by simp[hx])) hk.1.1) (ih2 (zB3 hf (by simp;omega) (fun x hx=>by simp[hx])) hk.1.2) (zDF S m hp) (zDF S m hq)
end
end Rf
end Go.Proofs.YthleadfkfnnadaaGreat
