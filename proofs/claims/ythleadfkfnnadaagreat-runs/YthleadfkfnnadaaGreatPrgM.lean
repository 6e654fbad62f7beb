/- The program within a machine: its rows, its links; Line, Declaration, Param, IsVariable, IsArray, IsStop. -/
import Derived.Test.YthleadfkfnnadaaGreatNames6
import Derived.Test.YthleadfkfnnadaaGreatRtLink
set_option maxHeartbeats 4000000
set_option maxRecDepth 100000
namespace Go.Proofs.YthleadfkfnnadaaGreat
open Go.RowKit
def ReadL (s:ByteArray) (w:World) (e:Ending) (w':World):Prop:=
  Below w.heap.size w w'∧∃er ln pls,Rt.zAY s=(er,ln,pls)∧
    ((¬er=0∧e=.returned (.tuple #[.agg #[zL],.int .i64 er,.int .i64 ln]))∨
     (er=0∧ln=0∧pls.length≤101∧∃lv cs,e=.returned (.tuple #[.agg #[lv],.int .i64 0,.int .i64 0])∧w'.ownsRow w.heap.size 145 12 lv pls.length cs.flatten∧zA5 w' w.heap.size pls cs∧LkW w' lv (Rt.zCg s)))
theorem lk_zero {w:World} {P:Nat} {pls:List Rt.PL} {lv:Value} {cs:List (List Value)} (h:zAP w P pls lv cs) (h0:Lk0 cs):LkW w lv (List.replicate pls.length (0,0)):=by
 intro g n cap e i x hx
 have hi:i < pls.length:=by
  by_cases hi:i < pls.length
  ·exact hi
  ·rw[List.getElem?_eq_none (by simp;omega)]at hx;cases hx
 rw[List.getElem?_eq_getElem (by simpa using hi)]at hx
 simp at hx
 subst hx
 have hs:=zFU hi
 have hl:(pls.take i).length=i:=by simp;omega
 have h2:=h.lines
 rw[hs]at h2
 obtain⟨c1,c,c2,hcs,hfl,_,_,_⟩:=h2.part
 obtain⟨k9,k10⟩:=h0 c (by rw[hcs];simp)
 have hget:∀j u,c[j]?=some u→w.cell? ⟨g,i*12+j,none⟩=some u:=by
  intro j u hj
  have hf:cs.flatten[i*12+j]?=some u:=by
   rw[hcs,List.flatten_append,List.getElem?_append_right (by omega),hfl,hl,Nat.add_sub_cancel_left,List.flatten_cons,List.getElem?_append_left (List.getElem?_eq_some_iff.1 hj).1]
   exact hj
  obtain⟨g',cap',hlv',_,_,hc'⟩:=zW h.own hf
  rw[e]at hlv'
  simp at hlv'
  rw[hlv'.1]
  exact hc'
 exact⟨hget 9 _ k9,hget 10 _ k10⟩
theorem zER {w w':World} {N B:Nat} {o:Obj} (h:w.heap[N]?=some o) (hb:Below B w w') (hN:N < B):w'.heap[N]?=some o:=by rw[hb.block N hN];exact h
theorem zGi {s:ByteArray} (h:Rt.zCB s=false):s.size≤40000∧(Rt.lines s).length≤100:=by
 simp[Rt.zCB]at h
 have:=Rt.zIH s
 omega
theorem zP3 (s:ByteArray) (w:World) (hs:s.size≤maxLen) :
  Calls Tryz.prog 42 #[.string s] w (ReadL s w):=by
 have hb0:=(Below.refl w.heap.size w).alloc (Nat.le_refl _) (.cells #[zL] 76)
 have hN0:=heap_alloc_new w (.cells #[zL] 76)
 cases hl:Rt.zCB s with
 | true=>
  have HE:Hid (Rt.zAY s=(1,0,[])):=zB (by unfold Rt.zAY;rw[if_pos hl])
  have HB:=zB hb0
  clear hb0 hN0
  go_enter Tryz.func42,Tryz.ntmps42
  go_wp2_with fail
  refine(zIY s _ hs).mono ?_
  rintro e w1 ⟨rfl,rfl⟩
  rw[hl]
  clear hl
  go_wp2_with fail
  refine bodyPost_ret (v:=.tuple #[.agg #[zL],.int .i64 1,.int .i64 0]) ?_ rfl ⟨zA HB,1,0,[],zA HE,Or.inl ⟨by decide,rfl⟩⟩
  simp[results,Tryz.results42,go_sem]
 | false=>
  obtain⟨hs1,hs2⟩:=zGi hl
  have hb1:=hb0.alloc (by simp) (.cells #[zL] 76)
  have hN1:=zV hN0 (.cells #[zL] 76)
  have hP1:=zAG w (.cells #[zL] 76) (.cells #[zL] 76)
  have HE1:=zB (show Rt.zAY s=Rt.zC1 (Rt.rForms 0 (Rt.lines s) [Rt.zPL]).1 (Rt.rForms 0 (Rt.lines s) [Rt.zPL]).2 (Rt.lines s).length by unfold Rt.zAY;rw[if_neg (by rw[hl];simp)])
  clear hb0 hN0
  go_enter Tryz.func42,Tryz.ntmps42
  go_wp2_with fail
  refine(zIY s _ hs).mono ?_
  rintro e w1 ⟨rfl,rfl⟩
  rw[hl]
  clear hl
  go_wp2_with fail
  refine(zKv _ _ _ s hP1 hs1 hs2).mono ?_
  rintro e w2 ⟨hb2,(⟨hf,rfl,lv,cs,hpr,hlk0⟩| ⟨hf,rfl,_⟩)⟩
  ·have hN2:=zER hN1 hb2 (by omega)
   have hbe2:=hb1.trans (hb2.mono (B':=w.heap.size) (by omega))
   have HE2:=zB ((zA HE1).trans (show Rt.zC1 (Rt.rForms 0 (Rt.lines s) [Rt.zPL]).1 (Rt.rForms 0 (Rt.lines s) [Rt.zPL]).2 (Rt.lines s).length=_ from if_neg (by rw[hf];simp)))
   obtain⟨hL1,hL2,rest,hL3⟩:=Rt.zDc (Rt.lines s) 0 [Rt.zPL] (Rt.rForms 0 (Rt.lines s) [Rt.zPL]).2 (Rt.zCk hs1) (by simp[Rt.zPL];exact Rt.zCJ _ _ _ (by omega)) (Prod.ext hf rfl)
   have HLS:=zB (show Rt.zCg s=Rt.zBv ((Rt.rForms 0 (Rt.lines s) [Rt.zPL]).2.drop 1)from rfl)
   have HLK0:=zB (lk_zero hpr hlk0)
   clear HE1 hb1 hN1 hP1 hb2 hf hlk0
   generalize (Rt.rForms 0 (Rt.lines s) [Rt.zPL]).2=pls at *
   subst hL3
   simp only[List.singleton_append]at hpr hL2
   simp only[List.singleton_append,List.drop_one,List.tail_cons,List.length_cons]at HLS HLK0
   have hrl:rest.length=(Rt.lines s).length:=by simp at hL1;omega
   have HE3:=zB (zA HE2)
   simp only[List.singleton_append,List.drop_one,List.tail_cons]at HE3
   have hPlt:=zJ hpr.block
   have hlvg:∀k,lv.ownBlock=some k→w.heap.size+1 < k:=fun k hk=>by have:=(hpr.own.lt k hk).1;omega
   clear HE2
   go_wp2_with fail
   refine(zJz _ _ _ _ _ _ hpr (by omega) _ (zA HLK0) (by simp)).mono ?_
   rintro e w3 ⟨hg3,er,ls,bs,hne,hcase⟩
   have hN3:w3.heap[w.heap.size]?=some (.cells #[zL] 76 (0,0)):=by
    rw[hg3.block w.heap.size (by omega) (fun e=>by have:=hlvg _ e.symm;omega)]
    exact hN2
   have hbe3:Below w.heap.size w w3:=hbe2.trans ⟨hg3.os,hg3.tape,hg3.output,hg3.size,fun k hk=>hg3.block k (by omega) (fun e=>by have:=hlvg _ e.symm;omega)⟩
   rw[hne]at HE3
   simp only at HE3
   have hsm:=Rt.zGs rest 1 [] [Rt.zPL] ls bs (by simp[Rt.zPL];exact Rt.zCJ _ _ _ (by omega)) (fun p hp=>hL2 p (by simp[hp]))
   clear hN2 hbe2 hpr hg3
   rcases hcase with⟨rfl,rfl,rfl,⟨cs3,hpr3⟩,hlk3⟩| ⟨rfl,hbs,rfl⟩| ⟨her,rfl⟩
   ·obtain⟨hl3,hs3⟩:=hsm hne (by omega)
    have HE4:=zB ((zA HE3).trans (show Rt.zBn 0 ls [] (Rt.lines s).length=Rt.zA0 ls from rfl))
    clear HE3 hne hsm hL2
    have hlen3:ls.length≤101:=by simp at hl3;omega
    clear hl3 hrl hL1
    go_wp2_with fail
    refine(zKd _ _ _ _ _ hpr3 hlen3 hs3).mono ?_
    have HLK3:=zB hlk3
    clear hlk3
    rintro e w4 ⟨hb4,(⟨h4,rfl⟩| ⟨h4,h5,rfl⟩| ⟨h4,h5,rfl⟩)⟩
    ·have HE5:=zB ((zA HE4).trans (show Rt.zA0 ls=(4,(Rt.nameErr ls 1 (ls.drop 1):Int),[]) by unfold Rt.zA0;rw[if_pos h4]))
     have hN4:=zK hN3 hb4
     have c0:=zC hN4 0 (by simp)
     have f0:=zI hN4 0
     simp at c0
     have HB:=zB ((hbe3.trans (hb4.mono (B':=w.heap.size) hbe3.size)).setCell (p:=⟨w.heap.size,0,none⟩) (Nat.le_refl _) zL)
     clear HE4 h4 hN3 hN4 hb4 hbe3 hpr3
     go_wp2_with fail
     refine bodyPost_ret (v:=.tuple #[.agg #[zL],.int .i64 4,.int .i64 _]) ?_ rfl ⟨zA HB,_,_,_,zA HE5,Or.inl ⟨by decide,rfl⟩⟩
     simp[results,Tryz.results42,go_sem,c0]
    ·have HE5:=zB ((zA HE4).trans (show Rt.zA0 ls=(4,0,[]) by unfold Rt.zA0;rw[if_neg (by rw[h4];simp),if_pos h5]))
     have hN4:=zK hN3 hb4
     have c0:=zC hN4 0 (by simp)
     have f0:=zI hN4 0
     simp at c0
     have HB:=zB ((hbe3.trans (hb4.mono (B':=w.heap.size) hbe3.size)).setCell (p:=⟨w.heap.size,0,none⟩) (Nat.le_refl _) zL)
     clear HE4 h4 h5 hN3 hN4 hb4 hbe3 hpr3
     go_wp2_with fail
     refine bodyPost_ret (v:=.tuple #[.agg #[zL],.int .i64 4,.int .i64 0]) ?_ rfl ⟨zA HB,_,_,_,zA HE5,Or.inl ⟨by decide,rfl⟩⟩
     simp[results,Tryz.results42,go_sem,c0]
    ·have HE5:=zB ((zA HE4).trans (show Rt.zA0 ls=(0,0,ls) by unfold Rt.zA0;rw[if_neg (by rw[h4];simp),if_neg (by rw[h5];simp)]))
     have hpr4:=hpr3.zH hb4
     have hN4:=zK hN3 hb4
     have c0:=zC hN4 0 (by simp)
     have f0:=zI hN4 0
     have cP:=zC hpr4.block 0 (by simp)
     simp at c0 cP
     obtain⟨adl,capl,rfl⟩:=zE hpr4.own
     have hK:zEI w4 (w4.setCell ⟨w.heap.size,0,none⟩ (.slice adl ls.length capl)) (w.heap.size+1+1) w.heap.size:=fun t size n v xs _ hv=>zh (ownsRow_setCell_below hv (by show w.heap.size < _;omega) _) (by omega)
     have HF:=zB (And.intro (zh (b':=w.heap.size) (ownsRow_setCell_below hpr4.own (a:=⟨w.heap.size,0,none⟩) (by show w.heap.size < _;omega) (.slice adl ls.length capl)) (by omega)) (hK.lines _ _ hpr4.lines))
     have HB:=zB ((hbe3.trans (hb4.mono (B':=w.heap.size) hbe3.size)).setCell (p:=⟨w.heap.size,0,none⟩) (Nat.le_refl _) (.slice adl ls.length capl))
     have HLK4:Hid (LkW (w4.setCell ⟨w.heap.size,0,none⟩ (.slice adl ls.length capl)) (.slice adl ls.length capl) (Rt.zCg s)):=by
      refine zB ?_
      rw[zA HLS]
      refine((zA HLK3).zH hpr3.own hb4).same (fun g hg=>Below.heap_setCell w4 ⟨w.heap.size,0,none⟩ _ g ?_)
      have:=(hpr4.own.lt g hg).1
      show g≠w.heap.size
      omega
     clear HE4 h4 h5 hN3 hN4 hb4 hbe3 hpr3 hpr4 hK hlvg
     go_wp2_with fail
     refine bodyPost_ret (v:=.tuple #[.agg #[.slice adl ls.length capl],.int .i64 0,.int .i64 0]) ?_ rfl ⟨zA HB,_,_,_,zA HE5,Or.inr ⟨rfl,rfl,hlen3,_,_,rfl,(zA HF).1,(zA HF).2,zA HLK4⟩⟩
     simp[results,Tryz.results42,go_sem,c0]
   ·have HE4:=zB ((zA HE3).trans (show Rt.zBn 0 ls bs (Rt.lines s).length=(3,((Rt.lines s).length:Int),[]) by unfold Rt.zBn;rw[if_neg (by simp),if_pos hbs]))
    have c0:=zC hN3 0 (by simp)
    have f0:=zI hN3 0
    simp at c0
    have HB:=zB (hbe3.setCell (p:=⟨w.heap.size,0,none⟩) (Nat.le_refl _) zL)
    have HR:=zB hrl
    clear HE3 hN3 hbe3 hsm hne hL2 hbs hrl
    go_wp2_with fail
    refine bodyPost_ret (v:=.tuple #[.agg #[zL],.int .i64 3,.int .i64 rest.length]) ?_ rfl ⟨zA HB,_,_,_,zA HE4,Or.inl ⟨by decide,by rw[zA HR]⟩⟩
    simp[results,Tryz.results42,go_sem,c0]
   ·have HE4:=zB ((zA HE3).trans (show Rt.zBn er ls bs (Rt.lines s).length=(3,(er:Int),[]) by unfold Rt.zBn;rw[if_pos her]))
    have c0:=zC hN3 0 (by simp)
    have f0:=zI hN3 0
    simp at c0
    have HB:=zB (hbe3.setCell (p:=⟨w.heap.size,0,none⟩) (Nat.le_refl _) zL)
    clear HE3 hN3 hbe3 hsm hne hL2 her
    go_wp2_with fail
    refine bodyPost_ret (v:=.tuple #[.agg #[zL],.int .i64 3,.int .i64 er]) ?_ rfl ⟨zA HB,_,_,_,zA HE4,Or.inl ⟨by decide,rfl⟩⟩
    simp[results,Tryz.results42,go_sem,c0]
  ·have hN2:=zER hN1 hb2 (by omega)
   have HE2:=zB ((zA HE1).trans (show Rt.zC1 (Rt.rForms 0 (Rt.lines s) [Rt.zPL]).1 (Rt.rForms 0 (Rt.lines s) [Rt.zPL]).2 (Rt.lines s).length=_ from if_pos hf))
   have c0:=zC hN2 0 (by simp)
   have f0:=zI hN2 0
   simp at c0
   have HB:=zB ((hb1.trans (hb2.mono (B':=w.heap.size) (by omega))).setCell (p:=⟨w.heap.size,0,none⟩) (Nat.le_refl _) zL)
   clear HE1 hb1 hN1 hP1 hb2 hf hN2
   generalize (Rt.rForms 0 (Rt.lines s) [Rt.zPL]).1=ln at *
   go_wp2_with fail
   refine bodyPost_ret (v:=.tuple #[.agg #[zL],.int .i64 2,.int .i64 ln]) ?_ rfl ⟨zA HB,_,_,_,zA HE2,Or.inl ⟨by decide,rfl⟩⟩
   simp[results,Tryz.results42,go_sem,c0]
namespace Rt
def parNo (i:Nat):List ByteArray→ByteArray→Int
 | [],_=>-1
 | p::r,x=>if p=x then (i:Int)else parNo (i+1) r x
def zB7 (pls:List PL) (n:Int):PL:=if n < 0 then zPL else (pls[n.toNat]?).getD zPL
def zAy (lk:Lks) (n:Int):Int×Int:=if n < 0 then (0,0)else (lk[n.toNat]?).getD (0,0)
def goOn (pls:List PL) (lk:Lks):Nat→Int→Int
 | 0,_=>0
 | f+1,n=>
  if 0 < n∧n < pls.length then
   if zAK pls (zB7 pls n)=true then n
   else if (zB7 pls n).form.kind=4∧(zT pls (zB7 pls n).opener).kind=7 then (zB7 pls n).opener
   else if (zB7 pls n).form.kind=6 then goOn pls lk f (wrap64 ((zAy lk (zB7 pls n).opener).2+1))
   else goOn pls lk f (wrap64 (n+1))
  else 0
def zBj (lk:Lks) (n:Int):Int:=if 0 < (zAy lk n).1 then wrap64 ((zAy lk n).1+1)else wrap64 ((zAy lk n).2+1)
structure Fm where
 params:List Int
 call:Int
structure Mc where
 zD:List Fm
 values:List (List Int)
 taken:Int
 output:List Int
 line:Int
 fin:Int
structure Src where
 pls:List PL
 lk:Lks
 input:List Int
structure zEu where
 line:Int
 cell:Int
def zEU:Fm:=⟨[],0⟩
def cellsOf (m:Mc) (l:Int):List Int:=
 if 0 < l∧l < m.values.length then (m.values[l.toNat]?).getD []
 else if l=0∧0 < m.zD.length then (m.zD.getLastD zEU).params
 else []
def zEY (m:Mc) (s:zEu):Bool:=decide (0≤s.cell∧s.cell < (cellsOf m s.line).length)
def zCF (m:Mc) (s:zEu):Int:=if s.cell < 0 then 0 else ((cellsOf m s.line)[s.cell.toNat]?).getD 0
def zA4 (m:Mc) (s:zEu) (v:Int):Mc:=
 if zEY m s=true then
  if 0 < s.line then { m with values:=m.values.modify s.line.toNat (fun c=>c.set s.cell.toNat v) }
  else { m with zD:=m.zD.modify (m.zD.length-1) (fun f=>⟨f.params.set s.cell.toNat v,f.call⟩) }
 else m
def zAR (S:Src) (m:Mc):Int:=(zB7 S.pls m.line).proc
def zB6 (S:Src) (m:Mc) (x:ByteArray):zEu:=
 let i:=parNo 0 (zT S.pls (zAR S m)).params x
 if 0≤i then ⟨0,i⟩else ⟨zAE S.pls x,0⟩
def zBW (S:Src) (m:Mc) (x:ByteArray) (n:Int):Option zEu:=
 if zEY m ⟨zAE S.pls x,n⟩=true then some ⟨zAE S.pls x,n⟩else none
def zGh (b:Bool):Int:=if b then 1 else 0
def zw (code l r:Int):Int×Int:=
 if code=5 then (wrap64 (l+r),0)
 else if code=6 then (wrap64 (l-r),0)
 else if code=7 then (wrap64 (l*r),0)
 else if code=10 then (zGh (decide (l < r)),0)
 else if code=11 then (zGh (decide (l=r)),0)
 else if r=0 then (0,2)
 else if code=8 then (wrap64 (l.tdiv r),0)
 else (l.tmod r,0)
def workI (S:Src) (m:Mc) (st:List Int) (o:Pop):List Int×Int:=
 if o.code=1 then (st++[o.number],0)
 else if o.code=2 then (st++[zCF m (zB6 S m o.name)],0)
 else if o.code=3 then
  match zBW S m o.name (st.getLastD 0)with
  | none=>(st.dropLast,3)
  | some s=>(st.dropLast++[zCF m s],0)
 else if o.code=4 then (st.dropLast++[wrap64 (-(st.getLastD 0))],0)
 else
  let r:=st.getLastD 0
  let st1:=st.dropLast
  let l:=st1.getLastD 0
  let st2:=st1.dropLast
  if (zw o.code l r).2=0 then (st2++[(zw o.code l r).1],0)else (st2,(zw o.code l r).2)
def evalI (S:Src) (m:Mc):List Pop→List Int→Int×Int
 | [],st=>(st.getLastD 0,0)
 | o::r,st=>if (workI S m st o).2=0 then evalI S m r (workI S m st o).1 else (0,(workI S m st o).2)
def zN (S:Src) (m:Mc) (e:List Pop):Int×Int:=evalI S m e []
def zBR (S:Src) (m:Mc) (f:zAU):Int×Int:=match f.values with
 | []=>(0,0)
 | e::_=>zN S m e
structure Rec where
 kind:Int
 line:Int
 at_:zEu
 value:Int
def recCells (r:Rec):List Value:=[.int .i64 r.kind,.int .i64 r.line,.int .i64 r.at_.line,.int .i64 r.at_.cell,.int .i64 r.value]
def stay (n:Int):Rec:=⟨1,n,⟨0,0⟩,0⟩
structure Out where
 fin:Int
 next:Int
 zHF:List Rec
 m:Mc
def stored (m:Mc) (s:zEu):Rec:=⟨4,0,s,zCF m s⟩
def argsI (S:Src) (m:Mc):List (List Pop)→List Int→List Int×Int
 | [],acc=>(acc,0)
 | e::r,acc=>if (zN S m e).2=0 then argsI S m r (acc++[(zN S m e).1])else (acc,(zN S m e).2)
def ended (m:Mc) (t:Int):Out:=⟨t,0,[],m⟩
def perform (S:Src) (m:Mc) (f:zAU):Out:=
 let v:=zBR S m f
 let nx:=wrap64 (m.line+1)
 if f.kind=8 then
  if v.2=0 then ⟨0,nx,[stay m.line,stored m (zB6 S m f.name)],zA4 m (zB6 S m f.name) v.1⟩else ended m v.2
 else if f.kind=9 then
  if (zN S m f.index).2=0 then
   if v.2=0 then
    match zBW S m f.name (zN S m f.index).1 with
    | none=>ended m 3
    | some s=>⟨0,nx,[stay m.line,stored m s],zA4 m s v.1⟩
   else ended m v.2
  else ended m (zN S m f.index).2
 else if f.kind=10 then
  if v.2=0 then
   if 50≤m.output.length then ended m 6 else ⟨0,nx,[stay m.line,⟨5,0,⟨0,0⟩,0⟩],{ m with output:=m.output++[v.1] }⟩
  else ended m v.2
 else if f.kind=11 then
  if m.taken < 0∨S.input.length≤m.taken then ended m 4
  else ⟨0,nx,[stay m.line,stored m (zB6 S m f.name),⟨6,0,⟨0,0⟩,0⟩],{ zA4 m (zB6 S m f.name) ((S.input[m.taken.toNat]?).getD 0)with taken:=wrap64 (m.taken+1) }⟩
 else if f.kind=5∨f.kind=7 then
  if v.2=0 then ⟨0,if v.1=0 then zBj S.lk m.line else nx,[stay m.line],m⟩else ended m v.2
 else if f.kind=12 then
  if (argsI S m f.values []).2=0 then
   if 6≤m.zD.length then ended m 5
   else ⟨0,wrap64 (zAE S.pls f.name+1),[⟨2,m.line,⟨0,0⟩,0⟩],{ m with zD:=m.zD++[⟨(argsI S m f.values []).1,m.line⟩] }⟩
  else ended m (argsI S m f.values []).2
 else if m.zD.length < 2 then ended m 1
 else
  let g:=m.zD.getLastD zEU
  ⟨0,wrap64 (g.call+1),⟨3,m.line,⟨0,0⟩,g.call⟩::g.params.map (fun v=>⟨7,0,⟨0,0⟩,v⟩),{ m with zD:=m.zD.dropLast }⟩
def zAI (S:Src) (m:Mc):Mc×List Rec:=
 if m.fin=0 then
  let o:=perform S m (zT S.pls m.line)
  if o.fin=0 then ({ o.m with line:=goOn S.pls S.lk 102 o.next },o.zHF)
  else ({ m with fin:=o.fin },[stay m.line])
 else (m,[])
def zA9 (f:zAU):List Int:=List.replicate (if f.kind=1 then 1 else f.cells.toNat) 0
def firstM (S:Src):Mc:=⟨[zEU],S.pls.map (fun p=>zA9 p.form),0,[],goOn S.pls S.lk 102 (wrap64 (zAE S.pls zy+1)),0⟩
def runM (S:Src):Nat→Mc→Mc×Nat
 | 0,m=>(m,0)
 | k+1,m=>if m.fin=0 then ((runM S k (zAI S m).1).1,(runM S k (zAI S m).1).2+1)else (m,0)
end Rt
structure zB5 (w:World) (P B:Nat) (pls:List Rt.PL) (lk:Rt.Lks) (lv:Value) (cs:List (List Value)):Prop where
 lt:P < w.heap.size
 cell:w.cell? ⟨P,0,none⟩=some lv
 own:w.ownsRow B 145 12 lv pls.length cs.flatten
 lines:zA5 w B pls cs
 zJ7:LkW w lv lk
 len:lk.length=pls.length
theorem zB5.zH {w w':World} {P B:Nat} {pls:List Rt.PL} {lk:Rt.Lks} {lv:Value} {cs:List (List Value)} (h:zB5 w P B pls lk lv cs) (hb:Below w.heap.size w w'):zB5 w' P B pls lk lv cs:=
 ⟨Nat.lt_of_lt_of_le h.lt hb.size,cell_later hb h.cell,zZ h.own hb,(zAD hb).lines _ _ h.lines,h.zJ7.zH h.own hb,h.len⟩
theorem zB5.get {w:World} {P B:Nat} {acc:List Rt.PL} {p:Rt.PL} {r:List Rt.PL} {lk:Rt.Lks} {lv:Value} {cs:List (List Value)} (h:zB5 w P B (acc++p::r) lk lv cs) :
  ∃g cap a0 a1 a2 a3 c0 c1 c2 c3 xe xf,lv=.slice (some ⟨g,0,none⟩) (acc++p::r).length cap∧g < w.heap.size∧
   Ten w g (acc.length*12) (.slice a0 p.zf.length c0) (.int .i64 p.form.kind) (.string p.form.name) (.int .i64 p.form.cells) (.slice a1 p.form.params.length c1) (.slice a2 p.form.index.length c2) (.slice a3 p.form.values.length c3) (.int .i64 p.depth) (.int .i64 p.opener) (.int .i64 xe) (.int .i64 xf) (.int .i64 p.proc)∧TenF w g (acc.length*12)∧
   w.ownsRow B 188 2 (.slice a0 p.zf.length c0) p.zf.length (Rt.zAX p.zf)∧
   zAd w B #[.int .i64 p.form.kind,.string p.form.name,.int .i64 p.form.cells,.slice a1 p.form.params.length c1,.slice a2 p.form.index.length c2,.slice a3 p.form.values.length c3] p.form:=by
 obtain⟨c1,c,c2,hcs,hl,_,hc,_⟩:=h.lines.part
 obtain⟨tv,fv,xe,xf,hcc,ht,hf⟩:=hc
 have hf2:=hf
 obtain⟨pv,iv,vv,vs,hfv,b1,b2,b3,_⟩:=hf
 obtain⟨a0,k0,rfl⟩:=zE ht
 obtain⟨a1,k1,rfl⟩:=zE b1
 obtain⟨a2,k2,rfl⟩:=zE b2
 obtain⟨a3,k3,rfl⟩:=zE b3
 subst hfv
 have hget:∀j u,c[j]?=some u→cs.flatten[acc.length*12+j]?=some u:=by
  intro j u hj
  rw[hcs,List.flatten_append,List.getElem?_append_right (by omega),hl,Nat.add_sub_cancel_left,List.flatten_cons,List.getElem?_append_left (List.getElem?_eq_some_iff.1 hj).1]
  exact hj
 have hown:=h.own
 obtain⟨g,cap,hlv,hg,hglt,_⟩:=zW hown (hget 0 _ (by rw[hcc];rfl))
 have hcell:∀j u,c[j]?=some u→w.cell? ⟨g,acc.length*12+j,none⟩=some u:=by
  intro j u hj
  obtain⟨g',cap',hlv',_,_,hc'⟩:=zW hown (hget j u hj)
  rw[hlv]at hlv'
  simp at hlv'
  rw[hlv'.1]
  exact hc'
 have hfz:∀j,w.frozen? ⟨g,j,none⟩=false:=by
  intro j
  rw[hlv]at hown
  exact hown.frozenAt j
 refine⟨g,cap,a0,a1,a2,a3,k0,k1,k2,k3,xe,xf,hlv,hglt,⟨?_,?_,?_,?_,?_,?_,?_,?_,?_,?_,?_,?_⟩,⟨hfz _,hfz _,hfz _,hfz _,hfz _,hfz _,hfz _,hfz _,hfz _,hfz _,hfz _,hfz _⟩,ht,hf2⟩
 ·exact hcell 0 _ (by rw[hcc];rfl)
 ·exact hcell 1 _ (by rw[hcc];rfl)
 ·exact hcell 2 _ (by rw[hcc];rfl)
 ·exact hcell 3 _ (by rw[hcc];rfl)
 ·exact hcell 4 _ (by rw[hcc];rfl)
 ·exact hcell 5 _ (by rw[hcc];rfl)
 ·exact hcell 6 _ (by rw[hcc];rfl)
 ·exact hcell 7 _ (by rw[hcc];rfl)
 ·exact hcell 8 _ (by rw[hcc];rfl)
 ·exact hcell 9 _ (by rw[hcc];rfl)
 ·exact hcell 10 _ (by rw[hcc];rfl)
 ·exact hcell 11 _ (by rw[hcc];rfl)
theorem zB5.at {w:World} {P B:Nat} {pls:List Rt.PL} {lk:Rt.Lks} {lv:Value} {cs:List (List Value)} (h:zB5 w P B pls lk lv cs) {i:Nat} (hi:i < pls.length) :
  ∃g cap a0 a1 a2 a3 c0 c1 c2 c3 xe xf,lv=.slice (some ⟨g,0,none⟩) pls.length cap∧g < w.heap.size∧
   Ten w g (i*12) (.slice a0 pls[i].zf.length c0) (.int .i64 pls[i].form.kind) (.string pls[i].form.name) (.int .i64 pls[i].form.cells) (.slice a1 pls[i].form.params.length c1) (.slice a2 pls[i].form.index.length c2) (.slice a3 pls[i].form.values.length c3) (.int .i64 pls[i].depth) (.int .i64 pls[i].opener) (.int .i64 xe) (.int .i64 xf) (.int .i64 pls[i].proc)∧
   w.ownsRow B 188 2 (.slice a0 pls[i].zf.length c0) pls[i].zf.length (Rt.zAX pls[i].zf)∧
   zAd w B #[.int .i64 pls[i].form.kind,.string pls[i].form.name,.int .i64 pls[i].form.cells,.slice a1 pls[i].form.params.length c1,.slice a2 pls[i].form.index.length c2,.slice a3 pls[i].form.values.length c3] pls[i].form:=by
 have hs:=zFU hi
 have hl:(pls.take i).length=i:=by simp;omega
 have h2:=h
 rw[hs]at h2
 obtain⟨g,cap,a0,a1,a2,a3,c0,c1,c2,c3,xe,xf,hlv,h4,h5,_,h6,h7⟩:=h2.get
 rw[←hs]at hlv
 rw[hl]at h5
 exact⟨g,cap,a0,a1,a2,a3,c0,c1,c2,c3,xe,xf,hlv,h4,h5,h6,h7⟩
theorem zB5.zEV {w:World} {P B:Nat} {pls:List Rt.PL} {lk:Rt.Lks} {lv:Value} {cs:List (List Value)} (h:zB5 w P B pls lk lv cs):∃ad cap,lv=.slice ad pls.length cap∧w.cell? ⟨P,0,none⟩=some (.slice ad pls.length cap):=by
 obtain⟨ad,cap,rfl⟩:=zE h.own
 exact⟨ad,cap,rfl,h.cell⟩
def PLineM (B:Nat) (pl:Rt.PL) (x:Int×Int) (w:World) (e:Ending) (w':World):Prop:=∃a0 a1 a2 a3 c0 c1 c2 c3,e=.returned (.agg #[.slice a0 pl.zf.length c0,.int .i64 pl.form.kind,.string pl.form.name,.int .i64 pl.form.cells,.slice a1 pl.form.params.length c1,.slice a2 pl.form.index.length c2,.slice a3 pl.form.values.length c3,.int .i64 pl.depth,.int .i64 pl.opener,.int .i64 x.1,.int .i64 x.2,.int .i64 pl.proc])∧w'.ownsRow B 188 2 (.slice a0 pl.zf.length c0) pl.zf.length (Rt.zAX pl.zf)∧zAd w' B #[.int .i64 pl.form.kind,.string pl.form.name,.int .i64 pl.form.cells,.slice a1 pl.form.params.length c1,.slice a2 pl.form.index.length c2,.slice a3 pl.form.values.length c3] pl.form∧Below w.heap.size w w'
theorem zJ9 {B:Nat} {w w':World} (hb:Below w.heap.size w w'):PLineM B Rt.zPL (0,0) w (.returned (.agg #[.slice none 0 0,.int .i64 0,.string ⟨#[]⟩,.int .i64 0,.slice none 0 0,.slice none 0 0,.slice none 0 0,.int .i64 0,.int .i64 0,.int .i64 0,.int .i64 0,.int .i64 0])) w':=
 ⟨none,none,none,none,0,0,0,0,rfl,World.ownsRow_nil _ _ _ _,zBr _ _ _ _ _,hb⟩
theorem zNP {lk:Rt.Lks} {n:Int} (h:n < 0∨(lk.length:Int)≤n):Rt.zAy lk n=(0,0):=by
 unfold Rt.zAy
 split
 ·rfl
 ·rw[List.getElem?_eq_none (by omega)]
  rfl
theorem zF0 (w:World) (P B:Nat) (pls:List Rt.PL) (lk:Rt.Lks) (lv:Value) (cs:List (List Value)) (n:Int) (h:zB5 w P B pls lk lv cs) :
  Calls Tryz.prog 90 #[.pointer (some ⟨P,0,none⟩),.int .i64 n] w (PLineM B (Rt.zd pls n) (Rt.zAy lk n) w):=by
 obtain⟨ad,cap,hlv,cP⟩:=h.zEV
 have hPlt:=h.lt
 have HL2:=zB (And.intro h.zJ7 h.len)
 by_cases h0:n < 0
 ·have HE:=zB (Rt.zEM (pls:=pls) (Or.inl h0))
  have HX:=zB (zNP (lk:=lk) (Or.inl h0))
  clear h
  go_enter Tryz.func90,Tryz.ntmps90
  go_wp2_with fail
  refine bodyPost_ret (v:=.agg #[.slice none 0 0,.int .i64 0,.string ⟨#[]⟩,.int .i64 0,.slice none 0 0,.slice none 0 0,.slice none 0 0,.int .i64 0,.int .i64 0,.int .i64 0,.int .i64 0,.int .i64 0]) ?_ rfl (by rw[zA HE,zA HX];exact zJ9 ((Below.refl _ _).alloc (Nat.le_refl _) _))
  simp[results,Tryz.results90,go_sem]
 by_cases h1:(pls.length:Int)≤n
 ·have HE:=zB (Rt.zEM (pls:=pls) (Or.inr h1))
  have HX:=zB (zNP (lk:=lk) (Or.inr (by rw[(zA HL2).2];exact h1)))
  clear h
  go_enter Tryz.func90,Tryz.ntmps90
  go_wp2_with fail
  refine bodyPost_ret (v:=.agg #[.slice none 0 0,.int .i64 0,.string ⟨#[]⟩,.int .i64 0,.slice none 0 0,.slice none 0 0,.slice none 0 0,.int .i64 0,.int .i64 0,.int .i64 0,.int .i64 0,.int .i64 0]) ?_ rfl (by rw[zA HE,zA HX];exact zJ9 ((Below.refl _ _).alloc (Nat.le_refl _) _))
  simp[results,Tryz.results90,go_sem]
 obtain⟨k,rfl⟩:=Int.eq_ofNat_of_zero_le (show 0≤n by omega)
 have hlt:k < pls.length:=by omega
 obtain⟨g,cap',a0,a1,a2,a3,e0,e1,e2,e3,xe,xf,hlv',hglt,⟨d0,d1,d2,d3,d4,d5,d6,d7,d8,d9,d10,d11⟩,htk,hfv⟩:=h.at hlt
 have hlv2:=hlv.symm.trans hlv'
 simp at hlv2
 obtain⟨rfl,rfl⟩:=hlv2
 have HE:=zB (Rt.zD6 hlt)
 have hlk:k < lk.length:=by rw[h.len];exact hlt
 obtain⟨k9,k10⟩:=h.zJ7 g _ cap hlv' k lk[k] (List.getElem?_eq_getElem hlk)
 rw[d9]at k9
 rw[d10]at k10
 injection k9 with k9
 injection k9 with _ k9
 injection k10 with k10
 injection k10 with _ k10
 have HX:Hid (Rt.zAy lk (k:Int)=(xe,xf)):=by
  refine zB ?_
  unfold Rt.zAy
  rw[if_neg (by omega)]
  simp only[Int.toNat_natCast]
  rw[List.getElem?_eq_getElem hlk,k9,k10]
  rfl
 have HF:=zB (And.intro htk hfv)
 clear k9 k10
 clear h hfv htk hlv hlv'
 generalize pls[k]=pl at *
 go_enter Tryz.func90,Tryz.ntmps90
 go_wp2_with fail
 refine bodyPost_ret (v:=.agg #[.slice a0 pl.zf.length e0,.int .i64 pl.form.kind,.string pl.form.name,.int .i64 pl.form.cells,.slice a1 pl.form.params.length e1,.slice a2 pl.form.index.length e2,.slice a3 pl.form.values.length e3,.int .i64 pl.depth,.int .i64 pl.opener,.int .i64 xe,.int .i64 xf,.int .i64 pl.proc]) ?_ rfl (by rw[zA HE,zA HX];exact⟨a0,a1,a2,a3,e0,e1,e2,e3,rfl,zZ (zA HF).1 ((Below.refl _ _).alloc (Nat.le_refl _) _),(zAD (B:=B) ((Below.refl _ _).alloc (Nat.le_refl _) _)).form (zA HF).2,(Below.refl _ _).alloc (Nat.le_refl _) _⟩)
 simp[results,Tryz.results90,go_sem]
theorem zDE (w:World) (P B:Nat) (pls:List Rt.PL) (lk:Rt.Lks) (lv:Value) (cs:List (List Value)) (x:ByteArray) (h:zB5 w P B pls lk lv cs) (hlen:pls.length≤101) :
  Calls Tryz.prog 143 #[.pointer (some ⟨P,0,none⟩),.string x] w fun e w'=>e=.returned (.int .i64 (Rt.zAE pls x))∧w'=w:=by
 obtain⟨ad,cap,hlv,cP⟩:=h.zEV
 have HH:=zB h
 have HLV:=zB hlv
 clear h hlv
 go_enter Tryz.func143,Tryz.ntmps143
 go_wp2
 go_loop [5] (fun i=>∃k:Nat,1≤k∧k≤pls.length+1∧i=.int .i64 k∧Rt.declFrom k (pls.drop k) x=Rt.zAE pls x) (fun i=>pls.length+1-(intOf i).toNat)
 case atStart=>exact⟨1,Nat.le_refl _,by omega,rfl,rfl⟩
 case round=>
  obtain⟨k,hk1,hk,rfl,hT⟩:=hrel
  have HT:=zB hT
  clear hT
  by_cases hlt:k < pls.length
  ·obtain⟨g,cap',a0,a1,a2,a3,e0,e1,e2,e3,xe,xf,hlv,_,⟨_,d1,d2,_⟩,_,_⟩:=(zA HH).at hlt
   have hlv2:=(zA HLV).symm.trans hlv
   simp at hlv2
   obtain⟨rfl,rfl⟩:=hlv2
   have hlt':(k:Int) < (pls.length:Int):=by omega
   cases hd:Rt.isDecl pls[k] x with
   | true=>
    have HE:=zB (zHm (zA HT) hlt hd)
    unfold Rt.isDecl at hd
    simp only[Bool.and_eq_true,Bool.or_eq_true,decide_eq_true_eq]at hd
    obtain⟨hk3,hnm⟩:=hd
    have hnm':=Rt.zDv hnm
    clear hnm hlv
    generalize pls[k].form.name=nm at *
    generalize pls[k].form.kind=kx at *
    rcases hk3 with (hk3 | hk3)| hk3
    all_goals
     subst hk3
     go_wp2
     go_ret
     exact⟨by rw[zA HE];rfl,rfl⟩
   | false=>
    have HE:=zB (zGX (zA HT) hlt hd)
    unfold Rt.isDecl at hd
    clear hlv
    generalize pls[k].form.name=nm at *
    generalize pls[k].form.kind=kx at *
    by_cases hnm:nm=x
    ·have hk3:¬kx=1∧¬kx=2∧¬kx=3:=by simpa[hnm,and_assoc] using hd
     have k1:(kx==1)=false:=by simpa using hk3.1
     have k2:(kx==2)=false:=by simpa using hk3.2.1
     have k3:(kx==3)=false:=by simpa using hk3.2.2
     clear hk3 hd hnm
     go_wp2
     go_round
     case rel=>exact⟨k+1,by omega,by omega,by go_num,zA HE⟩
     case measure=>simp[intOf];omega
    ·have hnm':=Rt.zFR hnm
     clear hd hnm
     go_wp2
     all_goals
      go_round
      case rel=>exact⟨k+1,by omega,by omega,by go_num,zA HE⟩
      case measure=>simp[intOf];omega
  ·have HE:=zB (zHn (zA HT) hlt)
   have hlt':¬(k:Int) < (pls.length:Int):=by omega
   go_wp2
   go_ret
   exact⟨by rw[zA HE];simp,rfl⟩
theorem Param_m (w:World) (P B:Nat) (pls:List Rt.PL) (lk:Rt.Lks) (lv:Value) (cs:List (List Value)) (n:Int) (x:ByteArray) (h:zB5 w P B pls lk lv cs) (hpar:(Rt.zT pls n).params.length≤1000) :
  Calls Tryz.prog 191 #[.pointer (some ⟨P,0,none⟩),.int .i64 n,.string x] w fun e w'=>e=.returned (.int .i64 (Rt.zCq pls n x))∧Below w.heap.size w w':=by
 go_enter Tryz.func191,Tryz.ntmps191
 go_wp2_with fail
 refine(zF0 _ _ _ _ _ _ _ _ h).mono ?_
 rintro e w2 ⟨ad0,ad1,ad2,ad3,cap0,cap1,cap2,cap3,rfl,_,hfv,hb2⟩
 rw[Rt.zCX]at hfv ⊢
 generalize (Rt.zAy lk n).1=xe at *
 generalize (Rt.zAy lk n).2=xf at *
 generalize (Rt.zd pls n).depth=dp at *
 generalize (Rt.zd pls n).opener=opn at *
 generalize (Rt.zd pls n).proc=pr at *
 generalize (Rt.zd pls n).zf.length=tl at *
 obtain⟨pv,iv,vv,vs,hfe,b1,b2,b3,_⟩:=hfv
 have hpv:pv=.slice ad1 (Rt.zT pls n).params.length cap1:=by simp at hfe;exact hfe.1.symm
 subst hpv
 have HB:=zB hb2
 have HO:=zB b1
 have HI:=zB (show Rt.zCq pls n x=Rt.parFrom 0 (Rt.zT pls n).params x from rfl)
 clear h hb2 b1 b2 b3 hfe
 generalize (Rt.zT pls n)=fm at *
 have hf1:=Tryz.zGI ad0 tl cap0 fm.kind fm.name fm.cells ad1 fm.params.length cap1 ad2 fm.index.length cap2 ad3 fm.values.length cap3 dp opn xe xf pr
 have hfl:=Tryz.zPb (.int .i64 fm.kind) (.string fm.name) (.int .i64 fm.cells) ad1 fm.params.length cap1 (.slice ad2 fm.index.length cap2) (.slice ad3 fm.values.length cap3)
 go_wp2
 go_loop [8] (fun i=>∃k:Nat,k≤fm.params.length∧i=.int .i64 k∧Rt.parFrom k (fm.params.drop k) x=Rt.zCq pls n x) (fun i=>fm.params.length-(intOf i).toNat)
 case atStart=>exact⟨0,Nat.zero_le _,rfl,(zA HI).symm⟩
 case round=>
  obtain⟨k,hk,rfl,hT⟩:=hrel
  have HT:=zB hT
  clear hT
  by_cases hlt:k < fm.params.length
  ·obtain⟨g,cap',hv,_,_,cx⟩:=zW (zA HO) (j:=k) (u:=.string fm.params[k]) (by simp[hlt])
   simp at hv
   obtain⟨rfl,rfl⟩:=hv
   have hlt':(k:Int) < (fm.params.length:Int):=by omega
   by_cases hx:fm.params[k]=x
   ·have HE:=zB (Rt.zIe (zA HT) hlt hx)
    have hx':=Rt.zDv hx
    clear hx
    go_wp2
    go_ret
    exact⟨by rw[zA HE];rfl,zA HB⟩
   ·have HE:=zB (Rt.zHO (zA HT) hlt hx)
    have hx':=Rt.zFR hx
    clear hx
    go_wp2
    go_round
    case rel=>exact⟨k+1,by omega,by go_num,zA HE⟩
    case measure=>simp[intOf];omega
  ·have HE:=zB (Rt.zIf (zA HT) hlt)
   have hlt':¬(k:Int) < (fm.params.length:Int):=by omega
   go_wp2
   go_ret
   exact⟨by rw[zA HE];rfl,zA HB⟩
theorem isStop_m (w:World) (P B:Nat) (pls:List Rt.PL) (lk:Rt.Lks) (lv:Value) (cs:List (List Value)) (n:Int) (h:zB5 w P B pls lk lv cs) :
  Calls Tryz.prog 85 #[.pointer (some ⟨P,0,none⟩),.int .i64 n] w fun e w'=>e=.returned (.bool (Rt.zAK pls (Rt.zd pls n)))∧Below w.heap.size w w':=by
 go_enter Tryz.func85,Tryz.ntmps85
 go_wp2_with fail
 refine(zF0 _ _ _ _ _ _ _ n h).mono ?_
 rintro e w1 ⟨a0,a1,a2,a3,c0,c1,c2,c3,rfl,_,_,hb1⟩
 generalize (Rt.zAy lk n).1=xe at *
 generalize (Rt.zAy lk n).2=xf at *
 generalize HPL:Rt.zd pls n=pl at *
 replace HPL:=zB HPL
 have hb0:=hb1.alloc hb1.size (.cells #[.slice a0 pl.zf.length c0,.int .i64 pl.form.kind,.string pl.form.name,.int .i64 pl.form.cells,.slice a1 pl.form.params.length c1,.slice a2 pl.form.index.length c2,.slice a3 pl.form.values.length c3,.int .i64 pl.depth,.int .i64 pl.opener,.int .i64 xe,.int .i64 xf,.int .i64 pl.proc] 145)
 have h0:=h.zH hb0
 have hsz0:=hb0.size
 clear h hb1
 cases hs:Rt.zAL pl.form.kind with
 | true=>
  have HE:=zB (show Rt.zAK pls pl=true by simp[Rt.zAK,hs])
  have HB:=zB hb0
  have hs':pl.form.kind=8∨pl.form.kind=9∨pl.form.kind=10∨pl.form.kind=11∨pl.form.kind=5∨pl.form.kind=7∨pl.form.kind=12∨pl.form.kind=13:=by
   simp[Rt.zAL]at hs
   omega
  clear hs h0 hb0 hsz0
  generalize pl.form.kind=kx at *
  rcases hs' with rfl | rfl | rfl | rfl | rfl | rfl | rfl | rfl
  all_goals
   go_wp2_with fail
   go_ret
   exact⟨by rw[zA HPL,zA HE] <;> rfl,zA HB⟩
 | false=>
  have hs':¬pl.form.kind=8∧¬pl.form.kind=9∧¬pl.form.kind=10∧¬pl.form.kind=11∧¬pl.form.kind=5∧¬pl.form.kind=7∧¬pl.form.kind=12∧¬pl.form.kind=13:=by
   simp[Rt.zAL]at hs
   omega
  obtain⟨n8,n9,n10,n11,n5,n7,n12,n13⟩:=hs'
  have b8:(pl.form.kind==8)=false:=by simpa using n8
  have b9:(pl.form.kind==9)=false:=by simpa using n9
  have b10:(pl.form.kind==10)=false:=by simpa using n10
  have b11:(pl.form.kind==11)=false:=by simpa using n11
  have b5:(pl.form.kind==5)=false:=by simpa using n5
  have b7:(pl.form.kind==7)=false:=by simpa using n7
  have b12:(pl.form.kind==12)=false:=by simpa using n12
  have b13:(pl.form.kind==13)=false:=by simpa using n13
  clear n8 n9 n10 n11 n5 n7 n12 n13
  by_cases n4:pl.form.kind=4
  ·have b4:(pl.form.kind==4)=true:=by simpa using n4
   have HE:=zB (show Rt.zAK pls pl=decide ((Rt.zT pls pl.opener).kind=3) by unfold Rt.zAK;rw[if_neg (by rw[hs];simp),if_pos n4])
   clear hs n4
   go_wp2_with fail
   refine(zF0 _ _ _ _ _ _ _ pl.opener h0).mono ?_
   rintro e w2 ⟨ad0,ad1,ad2,ad3,cap0,cap1,cap2,cap3,rfl,_,_,hb2⟩
   rw[Rt.zCX]
   generalize (Rt.zAy lk pl.opener).1=ye at *
   generalize (Rt.zAy lk pl.opener).2=yf at *
   generalize (Rt.zd pls pl.opener).depth=dp at *
   generalize (Rt.zd pls pl.opener).opener=opn at *
   generalize (Rt.zd pls pl.opener).proc=pr at *
   generalize (Rt.zd pls pl.opener).zf.length=tl at *
   have HB:=zB (hb0.trans (hb2.mono (B':=w.heap.size) hsz0))
   clear h0 hb0 hb2
   generalize (Rt.zT pls pl.opener)=fo at *
   have hf1:=Tryz.zGI ad0 tl cap0 fo.kind fo.name fo.cells ad1 fo.params.length cap1 ad2 fo.index.length cap2 ad3 fo.values.length cap3 dp opn ye yf pr
   have hfl:=Tryz.zJG fo.kind (.string fo.name) (.int .i64 fo.cells) (.slice ad1 fo.params.length cap1) (.slice ad2 fo.index.length cap2) (.slice ad3 fo.values.length cap3)
   go_wp2_with fail
   go_ret
   exact⟨by rw[zA HPL,zA HE];exact zj (by rw[beq_eq_decide]),zA HB⟩
  ·have b4:(pl.form.kind==4)=false:=by simpa using n4
   have HE:=zB (show Rt.zAK pls pl=false by unfold Rt.zAK;rw[if_neg (by rw[hs];simp),if_neg n4])
   have HB:=zB hb0
   clear hs n4 h0 hb0 hsz0
   go_wp2_with fail
   go_ret
   exact⟨by rw[zA HPL,zA HE] <;> rfl,zA HB⟩
end Go.Proofs.YthleadfkfnnadaaGreat
