/- The machine in memory: a cell is stored. -/
import Derived.Test.YthleadfkfnnadaaGreatPrgM
import Derived.Test.YthleadfkfnnadaaGreatRefK
set_option maxHeartbeats 4000000
set_option maxRecDepth 100000
namespace Go.Proofs.YthleadfkfnnadaaGreat
open Go.RowKit
attribute [local go_sem ↓] Go.wp_at_zero Go.wp_at_succ
def zz (l:List Int):List Value:=l.map (Value.int .i64)
structure McX where
 lv:Value
 iv:Value
 fv:Value
 vv:Value
 ov:Value
 fps:List Value
 vps:List Value
 cs:List (List Value)
def zQ (v:Value) (l:List Int):Rw:=⟨3,1,v,l.length,zz l⟩
def fCells:List Value→List Rt.Fm→List Value
 | v::vs,f::fs=>v::.int .i64 f.call::fCells vs fs
 | _,_=>[]
theorem zG0:∀(vs:List Value) (fs:List Rt.Fm),vs.length=fs.length→(fCells vs fs).length=fs.length*2
 | [],[],_=>rfl
 | [],_::_,h=>by simp at h
 | _::_,[],h=>by simp at h
 | v::vs,f::fs,h=>by
  have:=zG0 vs fs (by simpa using h)
  simp only[fCells,List.length_cons,this]
  omega
theorem zFo:∀(vs:List Value) (fs:List Rt.Fm) (v:Value) (f:Rt.Fm),vs.length=fs.length→fCells (vs++[v]) (fs++[f])=fCells vs fs++[v,.int .i64 f.call]
 | [],[],_,_,_=>rfl
 | [],_::_,_,_,h=>by simp at h
 | _::_,[],_,_,h=>by simp at h
 | v::vs,f::fs,v',f',h=>by
  have:=zFo vs fs v' f' (by simpa using h)
  simp only[List.cons_append,fCells,this]
theorem zFB:∀(vs:List Value) (fs:List Rt.Fm) (h:vs.length=fs.length) (i:Nat) (hi:i < fs.length),(fCells vs fs)[i*2]?=some (vs[i]'(by rw[h];exact hi))∧(fCells vs fs)[i*2+1]?=some (.int .i64 fs[i].call)
 | [],[],_,i,hi=>by simp at hi
 | [],_::_,h,_,_=>by simp at h
 | _::_,[],h,_,_=>by simp at h
 | v::vs,f::fs,h,0,hi=>by simp[fCells]
 | v::vs,f::fs,h,i+1,hi=>by
  have:=zFB vs fs (by simpa using h) i (by simpa using hi)
  simp only[fCells,show (i+1)*2=i*2+2 by omega]
  simpa using this
def rowsOf (inp:List Int) (X:McX) (m:Rt.Mc):List Rw:=
 [zQ X.iv inp,⟨153,2,X.fv,m.zD.length,fCells X.fps m.zD⟩,⟨24,1,X.vv,m.values.length,X.vps⟩,zQ X.ov m.output]++(List.zipWith zQ X.fps (m.zD.map Rt.Fm.params)++List.zipWith zQ X.vps m.values)
def TyOk (t:TypeId):Prop:=t≠3∧t≠153∧t≠24∧t≠145∧t≠188∧t≠9∧t≠236∧t≠140
structure McS (w:World) (M B:Nat) (ty:TypeId) (tail:List Value) (S:Rt.Src) (m:Rt.Mc) (X:McX):Prop where
 block:w.heap[M]?=some (.cells ([X.lv,X.iv,X.fv,X.vv,.int .i64 m.taken,X.ov,.int .i64 m.line,.int .i64 m.fin]++tail).toArray ty (0,0))
 prog:zB5 w M B S.pls S.lk X.lv X.cs
 own:Own w (rowsOf S.input X m)
 fl:X.fps.length=m.zD.length
 vl:X.vps.length=m.values.length
 ty:TyOk ty
structure Mok (S:Rt.Src) (m:Rt.Mc):Prop where
 pls:S.pls.length≤101
 input:S.input.length≤100
 zD:m.zD.length≤1000
 values:m.values.length≤101
 output:m.output.length≤1000
 params:∀f∈m.zD,f.params.length≤1000
 cells:∀l∈m.values,l.length≤1000
 zBp:∀p∈S.pls,Rt.Small p.form
theorem McS.zH {w w':World} {M B:Nat} {ty:TypeId} {tail:List Value} {S:Rt.Src} {m:Rt.Mc} {X:McX} (h:McS w M B ty tail S m X) (hb:Below w.heap.size w w'):McS w' M B ty tail S m X:=
 ⟨zK h.block hb,h.prog.zH hb,h.own.zH hb,h.fl,h.vl,h.ty⟩
section
variable {w : World} {M B : Nat} {ty : TypeId} {tail : List Value} {S : Rt.Src} {m : Rt.Mc} {X : McX} (h : McS w M B ty tail S m X)
include h
theorem McS.c1:w.cell? ⟨M,1,none⟩=some X.iv:=by have:=zC h.block 1 (by simp);simpa using this
theorem McS.c2:w.cell? ⟨M,2,none⟩=some X.fv:=by have:=zC h.block 2 (by simp);simpa using this
theorem McS.c3:w.cell? ⟨M,3,none⟩=some X.vv:=by have:=zC h.block 3 (by simp);simpa using this
theorem McS.c4:w.cell? ⟨M,4,none⟩=some (.int .i64 m.taken):=by have:=zC h.block 4 (by simp);simpa using this
theorem McS.c5:w.cell? ⟨M,5,none⟩=some X.ov:=by have:=zC h.block 5 (by simp);simpa using this
theorem McS.c6:w.cell? ⟨M,6,none⟩=some (.int .i64 m.line):=by have:=zC h.block 6 (by simp);simpa using this
theorem McS.c7:w.cell? ⟨M,7,none⟩=some (.int .i64 m.fin):=by have:=zC h.block 7 (by simp);simpa using this
theorem McS.fz (i:Nat):w.frozen? ⟨M,i,none⟩=false:=zI h.block i
theorem McS.input:w.ownsRow 0 3 1 X.iv S.input.length (zz S.input):=h.own.rows (zQ X.iv S.input) (by simp[rowsOf])
theorem McS.zD:w.ownsRow 0 153 2 X.fv m.zD.length (fCells X.fps m.zD):=h.own.rows ⟨153,2,X.fv,m.zD.length,fCells X.fps m.zD⟩ (by simp[rowsOf])
theorem McS.zGO:w.ownsRow 0 24 1 X.vv m.values.length X.vps:=h.own.rows ⟨24,1,X.vv,m.values.length,X.vps⟩ (by simp[rowsOf])
theorem McS.out:w.ownsRow 0 3 1 X.ov m.output.length (zz m.output):=h.own.rows (zQ X.ov m.output) (by simp[rowsOf])
theorem McS.zOU (i:Nat) (hi:i < m.zD.length):w.ownsRow 0 3 1 (X.fps[i]'(by rw[h.fl];exact hi)) m.zD[i].params.length (zz m.zD[i].params):=by
 have hi':i < X.fps.length:=by rw[h.fl];exact hi
 refine h.own.rows (zQ X.fps[i] m.zD[i].params) ?_
 unfold rowsOf
 refine List.mem_append_right _ (List.mem_append_left _ ?_)
 have:(List.zipWith zQ X.fps (m.zD.map Rt.Fm.params))[i]?=some (zQ X.fps[i] m.zD[i].params):=by
  rw[List.getElem?_zipWith,List.getElem?_eq_getElem hi',List.getElem?_map,List.getElem?_eq_getElem hi]
  rfl
 exact List.mem_of_getElem? this
theorem McS.valRow (i:Nat) (hi:i < m.values.length):w.ownsRow 0 3 1 (X.vps[i]'(by rw[h.vl];exact hi)) m.values[i].length (zz m.values[i]):=by
 have hi':i < X.vps.length:=by rw[h.vl];exact hi
 refine h.own.rows (zQ X.vps[i] m.values[i]) ?_
 unfold rowsOf
 refine List.mem_append_right _ (List.mem_append_right _ ?_)
 have:(List.zipWith zQ X.vps m.values)[i]?=some (zQ X.vps[i] m.values[i]):=by
  rw[List.getElem?_zipWith,List.getElem?_eq_getElem hi',List.getElem?_eq_getElem hi]
 exact List.mem_of_getElem? this
end
def zCx (X:McX) (m:Rt.Mc) (l:Int):Value:=
 if 0 < l∧l < m.values.length then (X.vps[l.toNat]?).getD (.slice none 0 0)
 else if l=0∧0 < m.zD.length then (X.fps[m.zD.length-1]?).getD (.slice none 0 0)
 else .slice none 0 0
theorem McS.zHr {w:World} {M B:Nat} {ty:TypeId} {tail:List Value} {S:Rt.Src} {m:Rt.Mc} {X:McX} (h:McS w M B ty tail S m X) (l:Int):w.ownsRow 0 3 1 (zCx X m l) (Rt.cellsOf m l).length (zz (Rt.cellsOf m l)):=by
 unfold zCx Rt.cellsOf
 by_cases h1:0 < l∧l < m.values.length
 ·rw[if_pos h1,if_pos h1]
  have hi:l.toNat < m.values.length:=by omega
  rw[List.getElem?_eq_getElem hi,List.getElem?_eq_getElem (by rw[h.vl];exact hi)]
  exact h.valRow _ hi
 ·rw[if_neg h1,if_neg h1]
  by_cases h2:l=0∧0 < m.zD.length
  ·rw[if_pos h2,if_pos h2]
   have hi:m.zD.length-1 < m.zD.length:=by omega
   rw[List.getElem?_eq_getElem (by rw[h.fl];exact hi)]
   have e:m.zD.getLastD Rt.zEU=m.zD[m.zD.length-1]:=by
    rw[List.getLastD_eq_getLast?,List.getLast?_eq_getElem?,List.getElem?_eq_getElem hi]
    rfl
   rw[e]
   exact h.zOU _ hi
  ·rw[if_neg h2,if_neg h2]
   exact World.ownsRow_nil _ _ _ _
theorem zIP {S:Rt.Src} {m:Rt.Mc} (h:Mok S m) (l:Int):(Rt.cellsOf m l).length≤1000:=by
 unfold Rt.cellsOf
 split
 ·cases e:m.values[l.toNat]? with
  | none=>simp
  | some x=>exact h.cells x (List.mem_of_getElem? e)
 ·split
  ·next h2=>
   have hne:m.zD≠[]:=by intro e;rw[e]at h2;simp at h2
   rw[List.getLastD_eq_getLast?,List.getLast?_eq_some_getLast hne]
   exact h.params _ (List.getLast_mem hne)
  ·simp
theorem zIQ (w:World) (M B:Nat) (ty:TypeId) (tail:List Value) (S:Rt.Src) (m:Rt.Mc) (X:McX) (l:Int) (h:McS w M B ty tail S m X) (hm:Mok S m) :
  Calls Tryz.prog 192 #[.pointer (some ⟨M,0,none⟩),.int .i64 l] w fun e w'=>e=.returned (zCx X m l)∧Below w.heap.size w w':=by
 have c2:=h.c2
 have c3:=h.c3
 obtain⟨fad,fcap,hfv⟩:=zE h.zD
 obtain⟨vad,vcap,hvv⟩:=zE h.zGO
 rw[hfv]at c2
 rw[hvv]at c3
 by_cases h1:0 < l∧l < m.values.length
 ·obtain⟨k,rfl⟩:=Int.eq_ofNat_of_zero_le (show 0≤l by omega)
  have hk:k < m.values.length:=by omega
  have hk':(k:Int) < (m.values.length:Int):=by omega
  have hk1:(0:Int) < (k:Int):=h1.1
  have hk0:(0:Int)≤(k:Int):=by omega
  obtain⟨g,gcap,hgv,_,_,ca⟩:=zW h.zGO (j:=k) (u:=X.vps[k]'(by rw[h.vl];exact hk)) (List.getElem?_eq_getElem _)
  rw[hvv]at hgv
  injection hgv with e1 _ e2
  subst e1 e2
  have HE:=zB (show zCx X m (k:Int)=X.vps[k]'(by rw[h.vl];exact hk) by
   unfold zCx
   rw[if_pos h1]
   simp only[Int.toNat_natCast]
   rw[List.getElem?_eq_getElem (by rw[h.vl];exact hk)]
   rfl)
  have hrow:=h.valRow k hk
  obtain⟨ad,cap,hv⟩:=zE hrow
  rw[hv]at ca HE
  clear h hm h1 hrow hv hvv hfv
  go_enter Tryz.func192,Tryz.ntmps192
  go_wp2_with fail
  go_ret
  exact⟨by rw[zA HE];rfl,Below.refl _ _⟩
 ·by_cases h2:l=0∧0 < m.zD.length
  ·obtain⟨rfl,hpos⟩:=h2
   have hlen:=hm.zD
   obtain⟨k,hk⟩:∃k,m.zD.length=k+1:=⟨m.zD.length-1,by omega⟩
   have hkl:k < m.zD.length:=by omega
   have hkf:k < X.fps.length:=by rw[h.fl];exact hkl
   have HE:=zB (show zCx X m 0=X.fps[k] by
    unfold zCx
    rw[if_neg (by omega),if_pos ⟨rfl,hpos⟩,show m.zD.length-1=k by omega,List.getElem?_eq_getElem hkf]
    rfl)
   have hrow:=h.zOU k hkl
   obtain⟨ad,cap,hv⟩:=zE hrow
   have hfc:(fCells X.fps m.zD)[k*2]?=some X.fps[k]:=(zFB X.fps m.zD h.fl k hkl).1
   obtain⟨g,gcap,hgv,_,_,ca⟩:=zW h.zD hfc
   rw[hfv]at hgv
   injection hgv with e1 _ e2
   subst e1 e2
   rw[hv]at ca HE
   rw[hk]at c2
   clear h hm h1 hrow hv hvv hfv hfc hpos
   have hk1:k+1≤1000:=by omega
   generalize m.zD[k].params.length=pn at *
   have hm0:(0:Int)≤(k:Int):=by omega
   have hm1:(k:Int) < (k:Int)+1:=by omega
   have hm2:(k:Int)≤1000:=by omega
   have hm3:=zH0 k hk1
   have hm4:=zH1 k hk1
   have hm5:(0:Int) < (k:Int)+1:=by omega
   clear hk hkl hkf hlen
   go_enter Tryz.func192,Tryz.ntmps192
   go_wp2_with fail
   go_region_held3 (fun w'=>w'.cell? ⟨M,2,none⟩=some (.slice (some ⟨g,0,none⟩) (k+1) fcap)∧w'.cell? ⟨g,k*2,none⟩=some (.slice ad pn cap)) (go_keep) (fail)
   go_wp2_with fail
   go_ret
   exact⟨by rw[zA HE];rfl,(Below.refl _ _).drew⟩
  ·have HE:=zB (show zCx X m l=.slice none 0 0 by unfold zCx;rw[if_neg h1,if_neg h2])
   clear h hm hvv hfv
   by_cases h3:0 < l
   ·have h4:¬l < (m.values.length:Int):=fun e=>h1 ⟨h3,e⟩
    have h5:(l==0)=false:=by rw[beq_eq_false_iff_ne];omega
    clear h1 h2
    go_enter Tryz.func192,Tryz.ntmps192
    go_wp2_with fail
    go_ret
    exact⟨by rw[zA HE];rfl,Below.refl _ _⟩
   ·by_cases h0:l=0
    ·subst h0
     have h6:m.zD.length=0:=by omega
     rw[h6]at c2
     clear h1 h2 h3 h6
     go_enter Tryz.func192,Tryz.ntmps192
     go_wp2_with fail
     go_ret
     exact⟨by rw[zA HE];rfl,Below.refl _ _⟩
    ·have h5:(l==0)=false:=by rw[beq_eq_false_iff_ne];omega
     clear h1 h2 h0
     go_enter Tryz.func192,Tryz.ntmps192
     go_wp2_with fail
     go_ret
     exact⟨by rw[zA HE];rfl,Below.refl _ _⟩
theorem Tryz.fieldL6 (a0:Option Addr) (n0 k0:Nat) (kd:Int) (nm:ByteArray) (cl:Int) (a1:Option Addr) (n1 k1:Nat) (a2:Option Addr) (n2 k2:Nat) (a3:Option Addr) (n3 k3:Nat) (d o x y p:Int) (w:World) :
  (Instr.field 145 (.agg #[.slice a0 n0 k0,.int .i64 kd,.string nm,.int .i64 cl,.slice a1 n1 k1,.slice a2 n2 k2,.slice a3 n3 k3,.int .i64 d,.int .i64 o,.int .i64 x,.int .i64 y,.int .i64 p]) 6).run Tryz.prog w=.ok (.int .i64 p) w:=by kernel_rfl
theorem proc_any (w:World) (M B:Nat) (ty:TypeId) (tail:List Value) (S:Rt.Src) (m:Rt.Mc) (X:McX) (h:McS w M B ty tail S m X) :
  Calls Tryz.prog 162 #[.pointer (some ⟨M,0,none⟩)] w fun e w'=>e=.returned (.int .i64 (Rt.zAR S m))∧Below w.heap.size w w':=by
 have c6:=h.c6
 have HH:=zB h.prog
 have HE:=zB (show Rt.zAR S m=(Rt.zd S.pls m.line).proc from rfl)
 clear h
 go_enter Tryz.func162,Tryz.ntmps162
 go_wp2_with fail
 go_region_with ((go_at_call 90;refine(zF0 _ _ _ _ _ _ _ m.line ((zA HH).zH (zS _))).mono ?_;rintro e w1 ⟨a0,a1,a2,a3,k0,k1,k2,k3,rfl,_,_,hb⟩;have hf:=Tryz.fieldL6 a0 (Rt.zd S.pls m.line).zf.length k0 (Rt.zd S.pls m.line).form.kind (Rt.zd S.pls m.line).form.name (Rt.zd S.pls m.line).form.cells a1 (Rt.zd S.pls m.line).form.params.length k1 a2 (Rt.zd S.pls m.line).form.index.length k2 a3 (Rt.zd S.pls m.line).form.values.length k3 (Rt.zd S.pls m.line).depth (Rt.zd S.pls m.line).opener (Rt.zAy S.lk m.line).1 (Rt.zAy S.lk m.line).2 (Rt.zd S.pls m.line).proc))
 all_goals
  have HB:=zB (zm hb)
  clear hb
  go_wp2_with fail
  go_ret
  exact⟨by rw[zA HE];rfl,zA HB⟩
theorem zMZ (w:World) (M B:Nat) (ty:TypeId) (tail:List Value) (S:Rt.Src) (m:Rt.Mc) (X:McX) (s:Rt.zEu) (h:McS w M B ty tail S m X) (hm:Mok S m) :
  Calls Tryz.prog 165 #[.pointer (some ⟨M,0,none⟩),.agg #[.int .i64 s.line,.int .i64 s.cell]] w fun e w'=>e=.returned (.int .i64 (Rt.zCF m s))∧Below w.heap.size w w':=by
 have hcl:=zIP hm s.line
 have hbA:=(Below.refl w.heap.size w).alloc (Nat.le_refl _) (.cells #[.int .i64 s.line,.int .i64 s.cell] 160)
 have hA:=h.zH hbA
 clear h
 go_enter Tryz.func165,Tryz.ntmps165
 go_wp2_with fail
 refine(zIQ _ M B ty tail S m X s.line hA hm).mono ?_
 rintro e w1 ⟨rfl,hb⟩
 have hrow:=zZ (hA.zHr s.line) hb
 have HB:=zB (hbA.trans (hb.mono (B':=w.heap.size) (by simp)))
 have hS:=zK (heap_alloc_new w (.cells #[.int .i64 s.line,.int .i64 s.cell] 160)) hb
 have cS:=zC hS 1 (by simp)
 simp at cS
 obtain⟨ad,cap,hv⟩:=zE hrow
 rw[hv]at hrow ⊢
 clear hb hA hm hbA hS hv
 generalize HC:Rt.cellsOf m s.line=l at *
 generalize HCell:s.cell=c at *
 have HG:=zB (show Rt.zCF m s=if c < 0 then 0 else (l[c.toNat]?).getD 0 by unfold Rt.zCF;rw[HC,HCell])
 clear HC HCell
 by_cases h1:c < 0
 ·have HE:=zB (show Rt.zCF m s=0 by rw[zA HG,if_pos h1])
  clear hrow HG
  go_wp2_with fail
  go_ret
  exact⟨by rw[zA HE];rfl,zA HB⟩
 ·obtain⟨k,rfl⟩:=Int.eq_ofNat_of_zero_le (show 0≤c by omega)
  by_cases h2:k < l.length
  ·obtain⟨g,gcap,hgv,_,_,ca⟩:=zW hrow (j:=k) (u:=.int .i64 l[k]) (by simp[zz,h2])
   injection hgv with e1 _ e2
   subst e1 e2
   have HE:=zB (show Rt.zCF m s=l[k] by rw[zA HG,if_neg h1];simp[h2])
   have h2':¬(l.length:Int)≤(k:Int):=by omega
   have h3':(k:Int) < (l.length:Int):=by omega
   have h0':(0:Int)≤(k:Int):=by omega
   clear hrow HG
   generalize l[k]=x at *
   go_wp2_with fail
   go_ret
   exact⟨by rw[zA HE];rfl,zA HB⟩
  ·have HE:=zB (show Rt.zCF m s=0 by rw[zA HG,if_neg h1];simp[List.getElem?_eq_none (show l.length≤k by omega)])
   have h2':(l.length:Int)≤(k:Int):=by omega
   clear hrow HG
   go_wp2_with fail
   go_ret
   exact⟨by rw[zA HE];rfl,zA HB⟩
end Go.Proofs.YthleadfkfnnadaaGreat
namespace Go.Proofs.YthleadfkfnnadaaGreat
open Go.RowKit
theorem zEc {α β γ:Type} (f:α→β→γ):∀(a:List α) (b:List β) (i:Nat) (ha:i < a.length) (hb:i < b.length),∃P Q,List.zipWith f a b=P++f a[i] b[i]::Q∧∀g:β→β,List.zipWith f a (b.modify i g)=P++f a[i] (g b[i])::Q
 | [],_,_,ha,_=>by simp at ha
 | _::_,[],_,_,hb=>by simp at hb
 | x::a,y::b,0,_,_=>⟨[],List.zipWith f a b,rfl,fun g=>by simp⟩
 | x::a,y::b,i+1,ha,hb=>by
  obtain⟨P,Q,h1,h2⟩:=zEc f a b i (by simpa using ha) (by simpa using hb)
  refine⟨f x y::P,Q,?_,fun g=>?_⟩
  ·simp only[List.zipWith_cons_cons,h1,List.getElem_cons_succ,List.cons_append]
  ·simp only[List.modify_succ_cons,List.zipWith_cons_cons,h2 g,List.getElem_cons_succ,List.cons_append]
theorem zKN:∀(vs:List Value) (fs:List Rt.Fm) (i:Nat) (g:List Int→List Int),fCells vs (fs.modify i (fun f=>⟨g f.params,f.call⟩))=fCells vs fs
 | [],_,_,_=>by cases ‹List Rt.Fm› <;> rfl
 | _::_,[],i,_=>by cases i <;> rfl
 | v::vs,f::fs,0,g=>by simp[fCells]
 | v::vs,f::fs,i+1,g=>by simp only[List.modify_succ_cons,fCells,zKN vs fs i g]
theorem map_mod (fs:List Rt.Fm) (i:Nat) (g:List Int→List Int):(fs.modify i (fun f=>⟨g f.params,f.call⟩)).map Rt.Fm.params=(fs.map Rt.Fm.params).modify i g:=by
 induction fs generalizing i with
 | nil=>cases i <;> rfl
 | cons f fs ih=>cases i with
  | zero=>rfl
  | succ i=>simp[ih]
theorem zQi (l:List Int) (c:Nat) (v:Int):zz (l.set c v)=(zz l).set c (.int .i64 v):=by simp[zz,List.map_set]
def PTy (t:TypeId):Prop:=t=145∨t=188∨t=9∨t=236∨t=140
theorem McS.next {w w':World} {M B:Nat} {ty:TypeId} {tail tail':List Value} {S:Rt.Src} {m m':Rt.Mc} {X X':McX} (h:McS w M B ty tail S m X)
  (hM:w'.heap[M]?=some (.cells ([X'.lv,X'.iv,X'.fv,X'.vv,.int .i64 m'.taken,X'.ov,.int .i64 m'.line,.int .i64 m'.fin]++tail').toArray ty (0,0))) (hs:w.heap.size≤w'.heap.size)
  (hk:∀(k:Nat) (x:Obj),w.heap[k]?=some x→k≠M→(∃c t,x=Obj.cells c t (0,0)∧PTy t)→w'.heap[k]?=some x) (ho:Own w' (rowsOf S.input X' m')) (hl:X'.lv=X.lv) (hc:X'.cs=X.cs)
  (fl:X'.fps.length=m'.zD.length) (vl:X'.vps.length=m'.values.length):McS w' M B ty tail' S m' X':=by
 have hr:∀(B:Nat) (t:TypeId) (size n:Nat) (v:Value) (xs:List Value),t≠ty→PTy t→w.ownsRow B t size v n xs→w'.ownsRow B t size v n xs:=by
  intro B t size n v xs n0 n1 hv
  refine zAZ hv (fun g hg=>?_)
  obtain⟨c,hc⟩:=zAj hv hg
  rw[hc]
  refine hk g _ hc ?_ ⟨_,_,rfl,n1⟩
  intro e
  rw[e,h.block]at hc
  injection hc with hc
  injection hc with _ hc
  exact n0 hc.symm
 obtain⟨_,_,_,t1,t2,t3,t4,t5⟩:=h.ty
 have hK:∀{v:Array Value} {fm:Rt.zAU},zAd w B v fm→zAd w' B v fm:=by
  intro v fm hf
  obtain⟨pv,iv,vv,vs,rfl,h1,h2,h3,h4⟩:=hf
  exact⟨pv,iv,vv,vs,rfl,hr _ _ _ _ _ _ (Ne.symm t3) (Or.inr (Or.inr (Or.inl rfl))) h1,hr _ _ _ _ _ _ (Ne.symm t4) (Or.inr (Or.inr (Or.inr (Or.inl rfl)))) h2,hr _ _ _ _ _ _ (Ne.symm t5) (Or.inr (Or.inr (Or.inr (Or.inr rfl)))) h3,zAc.map (fun x o hh=>hr _ _ _ _ _ _ (Ne.symm t4) (Or.inr (Or.inr (Or.inr (Or.inl rfl)))) hh) _ _ h4⟩
 have hlines:∀ps cs,zA5 w B ps cs→zA5 w' B ps cs:=by
  intro ps
  induction ps with
  | nil=>intro cs h;cases cs with
   | nil=>trivial
   | cons _ _=>exact h.elim
  | cons p ps ih=>intro cs h;cases cs with
   | nil=>exact h.elim
   | cons c cs=>
    obtain⟨⟨tv,fv,xe,xf,e,g1,g2⟩,h2⟩:=h
    exact⟨⟨tv,fv,xe,xf,e,hr _ _ _ _ _ _ (Ne.symm t2) (Or.inr (Or.inl rfl)) g1,hK g2⟩,ih cs h2⟩
 have hcell:w'.cell? ⟨M,0,none⟩=some X'.lv:=by have:=zC hM 0 (by simp);simpa using this
 refine⟨hM,⟨Nat.lt_of_lt_of_le h.prog.lt hs,hcell,?_,?_,?_,h.prog.len⟩,ho,fl,vl,h.ty⟩
 ·rw[hl,hc];exact hr _ _ _ _ _ _ (Ne.symm t1) (Or.inl rfl) h.prog.own
 ·rw[hc];exact hlines _ _ h.prog.lines
 ·rw[hl]
  refine h.prog.zJ7.same (fun g hg=>?_)
  obtain⟨c,hc⟩:=zAj h.prog.own hg
  rw[hc]
  refine hk g _ hc ?_ ⟨_,_,rfl,Or.inl rfl⟩
  intro e
  rw[e,h.block]at hc
  injection hc with hc
  injection hc with _ hc
  exact t1 hc
theorem zLF {w:World} {A C:List Rw} {v:Value} {l:List Int} (h:Own w (A++zQ v l::C)) {g:Nat} (hg:v.ownBlock=some g) (c:Nat) (x:Int) :
  Own (w.setCell ⟨g,c,none⟩ (.int .i64 x)) (A++zQ v (l.set c x)::C)∧Frm w (w.setCell ⟨g,c,none⟩ (.int .i64 x)) (zAJ (A++zQ v l::C)):=by
 have hrow:w.ownsRow 0 3 1 v l.length (zz l):=h.rows (zQ v l) (by simp)
 obtain⟨ad,cap,rfl⟩:=zE hrow
 have hv:ad=some ⟨g,0,none⟩:=by
  rcases hrow.2 with⟨h',_⟩| ⟨g',cap',cur,h',_⟩
  ·rw[h']at hg;cases hg
  ·rw[h']at hg
   simp[Value.ownBlock]at hg
   injection h' with h' _ _
   rw[h',hg]
 subst hv
 have hother:∀k,k≠g→(w.setCell ⟨g,c,none⟩ (.int .i64 x)).heap[k]?=w.heap[k]?:=fun k hk=>Below.heap_setCell w ⟨g,c,none⟩ _ k hk
 have hst:=(hrow.stored c (.int .i64 x)).1
 rw[←zQi]at hst
 refine⟨(h.swap (r':=zQ (.slice (some ⟨g,0,none⟩) l.length cap) (l.set c x)) (fun k _ hk=>hother k (fun e=>hk (by rw[e];rfl))) ?_ (fun g' hg'=>Or.inl hg')).1,⟨rfl,rfl,rfl,by simp[World.setCell],fun k hk hn=>hother k (fun e=>hn ?_)⟩⟩
 ·show World.ownsRow _ 0 3 1 _ (l.set c x).length _
  rw[List.length_set]
  exact hst
 ·rw[e]
  exact zAf (r:=zQ (.slice (some ⟨g,0,none⟩) l.length cap) l) (by simp) rfl
theorem zJh {inp:List Int} {X:McX} {m:Rt.Mc} {r:Rw} (h:r∈rowsOf inp X m):r.t=3∨r.t=153∨r.t=24:=by
 unfold rowsOf at h
 have hz:∀(a:List Value) (b:List (List Int)),r∈List.zipWith zQ a b→r.t=3:=by
  intro a
  induction a with
  | nil=>intro b hb;simp at hb
  | cons x a ih=>intro b hb;cases b with
   | nil=>simp at hb
   | cons y b=>
    rw[List.zipWith_cons_cons]at hb
    rcases List.mem_cons.mp hb with rfl | hb
    ·rfl
    ·exact ih b hb
 rcases List.mem_append.mp h with h | h
 ·simp only[List.mem_cons,List.not_mem_nil,or_false]at h
  rcases h with rfl | rfl | rfl | rfl
  ·exact Or.inl rfl
  ·exact Or.inr (Or.inl rfl)
  ·exact Or.inr (Or.inr rfl)
  ·exact Or.inl rfl
 ·rcases List.mem_append.mp h with h | h
  ·exact Or.inl (hz _ _ h)
  ·exact Or.inl (hz _ _ h)
theorem McS.stored {w:World} {M B:Nat} {ty:TypeId} {tail:List Value} {S:Rt.Src} {m:Rt.Mc} {X:McX} (h:McS w M B ty tail S m X) (s:Rt.zEu) (hs:Rt.zEY m s=true) (x:Int) :
  ∃g cap,zCx X m s.line=.slice (some ⟨g,0,none⟩) (Rt.cellsOf m s.line).length cap∧g < w.heap.size∧McS (w.setCell ⟨g,s.cell.toNat,none⟩ (.int .i64 x)) M B ty tail S (Rt.zA4 m s x) X∧Frm w (w.setCell ⟨g,s.cell.toNat,none⟩ (.int .i64 x)) (zAJ (rowsOf S.input X m)):=by
 have hin:0≤s.cell∧s.cell < (Rt.cellsOf m s.line).length:=of_decide_eq_true hs
 have hcr:=h.zHr s.line
 have hpos:0 < (Rt.cellsOf m s.line).length:=by omega
 obtain⟨g,cap,hgv,_,hglt,_⟩:=zW hcr (j:=0) (u:=.int .i64 ((Rt.cellsOf m s.line)[0])) (by simp[zz,List.getElem?_eq_getElem hpos])
 have hgb:(zCx X m s.line).ownBlock=some g:=by rw[hgv];rfl
 have hgI:∃c,w.heap[g]?=some (.cells c 3 (0,0)):=zAj hcr hgb
 have hMg:M≠g:=by
  intro e
  obtain⟨c,hc⟩:=hgI
  rw[←e,h.block]at hc
  injection hc with hc
  injection hc with _ hc
  exact h.ty.1 hc
 have hk:∀(k:Nat) (y:Obj),w.heap[k]?=some y→k≠M→(∃c t,y=Obj.cells c t (0,0)∧PTy t)→(w.setCell ⟨g,s.cell.toNat,none⟩ (.int .i64 x)).heap[k]?=some y:=by
  intro k y hy _ hne
  rw[Below.heap_setCell w ⟨g,s.cell.toNat,none⟩ _ k (fun e=>by
   obtain⟨c,hc⟩:=hgI
   have e':k=g:=e
   rw[e',hc]at hy
   injection hy with hy
   obtain⟨c',t',e2,ht⟩:=hne
   rw[←hy]at e2
   injection e2 with _ e2
   rw[←e2]at ht
   exact absurd ht (by unfold PTy;decide))]
  exact hy
 have hMM:(w.setCell ⟨g,s.cell.toNat,none⟩ (.int .i64 x)).heap[M]?=w.heap[M]?:=Below.heap_setCell w ⟨g,s.cell.toNat,none⟩ _ M hMg
 have hsz:w.heap.size≤(w.setCell ⟨g,s.cell.toNat,none⟩ (.int .i64 x)).heap.size:=by simp[World.setCell]
 have key:∃A C l v,rowsOf S.input X m=A++zQ v l::C∧v=zCx X m s.line∧rowsOf S.input X (Rt.zA4 m s x)=A++zQ v (l.set s.cell.toNat x)::C∧(Rt.zA4 m s x).taken=m.taken∧(Rt.zA4 m s x).line=m.line∧(Rt.zA4 m s x).fin=m.fin∧(Rt.zA4 m s x).zD.length=m.zD.length∧(Rt.zA4 m s x).values.length=m.values.length:=by
  by_cases h1:0 < s.line∧s.line < m.values.length
  ·have hi:s.line.toNat < m.values.length:=by omega
   have hi':s.line.toNat < X.vps.length:=by rw[h.vl];exact hi
   obtain⟨P,Q,z1,z2⟩:=zEc zQ X.vps m.values s.line.toNat hi' hi
   have ep:Rt.zA4 m s x={ m with values:=m.values.modify s.line.toNat (fun c=>c.set s.cell.toNat x) }:=by
    unfold Rt.zA4;rw[if_pos hs,if_pos h1.1]
   refine⟨[zQ X.iv S.input,⟨153,2,X.fv,m.zD.length,fCells X.fps m.zD⟩,⟨24,1,X.vv,m.values.length,X.vps⟩,zQ X.ov m.output]++(List.zipWith zQ X.fps (m.zD.map Rt.Fm.params)++P),Q,m.values[s.line.toNat],X.vps[s.line.toNat],?_,?_,?_,?_⟩
   ·unfold rowsOf;rw[z1];simp
   ·unfold zCx;rw[if_pos h1,List.getElem?_eq_getElem hi'];rfl
   ·rw[ep]
    unfold rowsOf
    simp only[List.length_modify]
    rw[z2 (fun c=>c.set s.cell.toNat x)]
    simp
   ·rw[ep];exact⟨rfl,rfl,rfl,rfl,by simp⟩
  ·have h2:s.line=0∧0 < m.zD.length:=by
    have hp:=hpos
    unfold Rt.cellsOf at hp
    rw[if_neg h1]at hp
    by_cases h2:s.line=0∧0 < m.zD.length
    ·exact h2
    ·rw[if_neg h2]at hp;simp at hp
   have hi:m.zD.length-1 < (m.zD.map Rt.Fm.params).length:=by simp;omega
   have hi':m.zD.length-1 < X.fps.length:=by rw[h.fl];omega
   obtain⟨P,Q,z1,z2⟩:=zEc zQ X.fps (m.zD.map Rt.Fm.params) (m.zD.length-1) hi' hi
   have ep:Rt.zA4 m s x={ m with zD:=m.zD.modify (m.zD.length-1) (fun f=>⟨f.params.set s.cell.toNat x,f.call⟩) }:=by
    unfold Rt.zA4;rw[if_pos hs,if_neg (by omega)]
   refine⟨[zQ X.iv S.input,⟨153,2,X.fv,m.zD.length,fCells X.fps m.zD⟩,⟨24,1,X.vv,m.values.length,X.vps⟩,zQ X.ov m.output]++P,Q++List.zipWith zQ X.vps m.values,(m.zD.map Rt.Fm.params)[m.zD.length-1],X.fps[m.zD.length-1],?_,?_,?_,?_⟩
   ·unfold rowsOf;rw[z1];simp
   ·unfold zCx;rw[if_neg h1,if_pos h2,List.getElem?_eq_getElem hi'];rfl
   ·rw[ep]
    unfold rowsOf
    simp only[List.length_modify]
    rw[map_mod m.zD (m.zD.length-1) (fun p=>p.set s.cell.toNat x),zKN X.fps m.zD (m.zD.length-1) (fun p=>p.set s.cell.toNat x),z2 (fun p=>p.set s.cell.toNat x)]
    simp
   ·rw[ep];exact⟨rfl,rfl,rfl,by simp,rfl⟩
 obtain⟨A,C,l,v,k1,k2,k3,k4,k5,k6,k7,k8⟩:=key
 have ho:=h.own
 rw[k1]at ho
 obtain⟨o1,o2⟩:=zLF ho (g:=g) (by rw[k2];exact hgb) s.cell.toNat x
 refine⟨g,cap,hgv,hglt,h.next (by rw[hMM,h.block,k4,k5,k6]) hsz hk (by rw[k3];exact o1) rfl rfl (by rw[k7];exact h.fl) (by rw[k8];exact h.vl),?_⟩
 rw[k1]
 exact o2
theorem McS.aside {w:World} {M B:Nat} {ty:TypeId} {tail:List Value} {S:Rt.Src} {m:Rt.Mc} {X:McX} (h:McS w M B ty tail S m X) {N:Nat} {cs:Array Value} {t:TypeId} (hN:w.heap[N]?=some (.cells cs t (0,0))) (hM:N≠M) (ht:¬PTy t∧t≠3∧t≠153∧t≠24) (i:Nat) (v:Value):McS (w.setCell ⟨N,i,none⟩ v) M B ty tail S m X:=by
 have hother:∀k,k≠N→(w.setCell ⟨N,i,none⟩ v).heap[k]?=w.heap[k]?:=fun k hk=>Below.heap_setCell w ⟨N,i,none⟩ _ k hk
 have hrow:∀r∈rowsOf S.input X m,∀g,r.v.ownBlock=some g→g≠N:=by
  intro r hr g hg e
  obtain⟨c,hc⟩:=zAj (h.own.rows r hr) hg
  rw[e,hN]at hc
  injection hc with hc
  injection hc with _ hc
  have:=zJh hr
  rw[←hc]at this
  rcases this with e | e | e
  ·exact ht.2.1 e
  ·exact ht.2.2.1 e
  ·exact ht.2.2.2 e
 refine h.next ?_ (by simp[World.setCell]) (fun k x hk _ hp=>?_) ⟨fun r hr=>zAZ (h.own.rows r hr) (fun g hg=>hother g (hrow r hr g hg)),h.own.apart⟩ rfl rfl h.fl h.vl
 ·rw[hother M (Ne.symm hM)];exact h.block
 ·rw[hother k (fun e=>by
   rw[e,hN]at hk
   injection hk with hk
   obtain⟨c',t',e2,hp⟩:=hp
   rw[←hk]at e2
   injection e2 with _ e2
   rw[←e2]at hp
   exact ht.1 hp)]
  exact hk
end Go.Proofs.YthleadfkfnnadaaGreat
