/- Both looks at the names agree. -/
import Derived.Test.YthleadfkfnnadaaGreatEqvA
set_option maxHeartbeats 4000000
set_option maxRecDepth 100000
namespace Go.Proofs.YthleadfkfnnadaaGreat
namespace Rf
open Rt
theorem zBk (k:Int):(idx k=0↔k=0)∧(idx k=1↔k=1)∧(idx k=2↔k=2)∧(idx k=3↔k=3)∧(idx k=4↔k=5)∧(idx k=5↔k=7)∧(idx k=6↔k=6)∧(idx k=7↔k=4):=by
 unfold idx
 by_cases h0:k=0
 ·subst h0;decide
 by_cases h1:k=1
 ·subst h1;decide
 by_cases h2:k=2
 ·subst h2;decide
 by_cases h3:k=3
 ·subst h3;decide
 by_cases h5:k=5
 ·subst h5;decide
 by_cases h7:k=7
 ·subst h7;decide
 by_cases h6:k=6
 ·subst h6;decide
 by_cases h4:k=4
 ·subst h4;decide
 simp[h0,h1,h2,h3,h4,h5,h6,h7]
def cnt (ls:List (List ByteArray)):Nat→Int
 | 0=>0
 | k+1=>cnt ls k+(if zBN (zAA ls k)=true then 1 else 0)-(if ((first (zAA ls k)).toList==[101,110,100])=true then 1 else 0)
theorem cnt_i {ls:List (List ByteArray)} {k i:Nat} (h:k < ls.length) (hf:HF (first ls[k]) i):cnt ls (k+1)=cnt ls k+(if i=3∨i=4∨i=5 then 1 else 0)-(if i=7 then 1 else 0):=by
 obtain⟨f0,f1,f2,f3,f4,f5,f6,f7⟩:=hf
 have ho:(zBN ls[k]=true)↔(i=3∨i=4∨i=5):=by
  unfold zBN;rw[f3,f4,f5];simp[or_assoc]
 rw[cnt,zr h,f7]
 simp only[ho,decide_eq_true_eq]
theorem zMU {ls:List (List ByteArray)} {k i:Nat} (h:k < ls.length) (hf:HF (first ls[k]) i):home ls (k+1)=if i=3 then k+1 else home ls k:=by
 rw[zDn,zr h,hf.2.2.2.1]
 simp
structure SR (ls:List (List ByteArray)) (k:Nat) (bs:List Blk) (op sp:List Nat):Prop where
 opE:op=bs.map (·.line)
 spE:sp=(bs.filter (·.els)).map (·.line)
 inv:zFJ ls k op
 home:∀x,op.head?=some x→home ls k=x
 rng:∀b∈bs,1≤b.line∧b.line≤k
 inc:bs.Pairwise (fun a b=>a.line < b.line)
 kind:∀b∈bs,((first (zAA ls (b.line-1))).toList==[105,102])=decide (b.kind=5)
 cnt:(op.length:Int)=cnt ls k
theorem SR.same {ls:List (List ByteArray)} {k i:Nat} {bs:List Blk} {op sp:List Nat} (h:SR ls k bs op sp) (hk:k < ls.length) (hf:HF (first ls[k]) i) (h1:¬(i=3∨i=4∨i=5)) (h2:¬i=7):SR ls (k+1) bs op sp:=by
 refine⟨h.opE,h.spE,h.inv.same hk hf h1 h2,fun x hx=>?_,fun b hb=>by have:=h.rng b hb;omega,h.inc,h.kind,?_⟩
 ·rw[zMU hk hf,if_neg (by omega)];exact h.home x hx
 ·rw[cnt_i hk hf,if_neg h1,if_neg h2,h.cnt];omega
theorem SR.push {ls:List (List ByteArray)} {k i:Nat} {bs:List Blk} {op sp:List Nat} {kd:Int} (h:SR ls k bs op sp) (hk:k < ls.length) (hf:HF (first ls[k]) i) (h1:i=3∨i=4∨i=5) (h3:i=3↔bs=[]) (hkd:i=4↔kd=5):SR ls (k+1) (bs++[⟨k+1,kd,false⟩]) (op++[k+1]) sp:=by
 refine⟨by rw[h.opE];simp,by rw[h.spE];simp,h.inv.push hk hf h1,fun x hx=>?_,fun b hb=>?_,?_,fun b hb=>?_,?_⟩
 ·rw[zMU hk hf]
  by_cases hb:bs=[]
  ·rw[if_pos (h3.mpr hb)]
   rw[h.opE,hb]at hx
   simpa using hx
  ·rw[if_neg (fun e=>hb (h3.mp e))]
   refine h.home x ?_
   have hne:op≠[]:=by rw[h.opE];simpa using hb
   cases hop:op with
   | nil=>exact absurd hop hne
   | cons y r=>rw[hop]at hx;simpa using hx
 ·simp at hb
  rcases hb with hb | rfl
  ·have:=h.rng b hb;omega
  ·exact⟨by simp,by simp⟩
 ·rw[List.pairwise_append]
  refine⟨h.inc,by simp,fun a ha b hb=>?_⟩
  simp at hb
  subst hb
  have:=h.rng a ha
  show a.line < k+1
  omega
 ·simp at hb
  rcases hb with hb | rfl
  ·exact h.kind b hb
  ·show ((first (zAA ls (k+1-1))).toList==[105,102])=decide (kd=5)
   rw[Nat.add_sub_cancel,zr hk,hf.2.2.2.2.1,Bool.eq_iff_iff]
   simpa using hkd
 ·rw[cnt_i hk hf,if_pos h1,if_neg (by omega),List.length_append,←h.cnt]
  simp
theorem zKi (bs:List Blk):bs=[]∨∃pre b,bs=pre++[b]:=by
 rcases List.eq_nil_or_concat bs with h | ⟨a,b,h⟩
 ·exact Or.inl h
 ·exact Or.inr ⟨a,b,by simpa using h⟩
theorem zHV (pre:List Blk) (b:Blk):zAq (pre++[b])=b:=by simp[zAq]
theorem SR.spent {ls:List (List ByteArray)} {k:Nat} {pre:List Blk} {b:Blk} {op sp:List Nat} (h:SR ls k (pre++[b]) op sp):(0 < sp.length∧zBt sp=zBt op)↔b.els=true:=by
 have hop:zBt op=b.line:=by rw[h.opE];simp[zBt]
 have hsp:=h.spE
 rw[List.filter_append,List.map_append]at hsp
 rw[hop]
 cases hb:b.els with
 | true=>
  simp[hb]at hsp
  rw[hsp]
  simp[zBt]
 | false=>
  simp[hb]at hsp
  constructor
  ·rintro ⟨h1,h2⟩
   rcases zKi (pre.filter (·.els))with he | ⟨p2,c,he⟩
   ·rw[hsp,he]at h1;simp at h1
   ·rw[hsp,he]at h2
    simp[zBt]at h2
    have hc:c∈pre:=by
     have:c∈pre.filter (·.els):=by rw[he];simp
     exact(List.mem_filter.mp this).1
    have:=(List.pairwise_append.mp h.inc).2.2 c hc b (by simp)
    omega
  ·intro h;cases h
theorem SR.els {ls:List (List ByteArray)} {k i:Nat} {pre:List Blk} {b:Blk} {op sp:List Nat} (h:SR ls k (pre++[b]) op sp) (hk:k < ls.length) (hf:HF (first ls[k]) i) (h6:i=6) (hb:b.els=false):SR ls (k+1) (pre++[⟨b.line,b.kind,true⟩]) op (sp++[zBt op]):=by
 have h':=h.same hk hf (by omega) (by omega)
 have hop:zBt op=b.line:=by rw[h.opE];simp[zBt]
 refine⟨by rw[h.opE];simp,?_,h'.inv,h'.home,fun c hc=>?_,?_,fun c hc=>?_,h'.cnt⟩
 ·rw[hop,h.spE];simp[hb]
 ·simp at hc
  rcases hc with hc | rfl
  ·exact h'.rng c (by simp[hc])
  ·exact h'.rng b (by simp)
 ·have:=List.pairwise_append.mp h.inc
  rw[List.pairwise_append]
  refine⟨this.1,by simp,fun a ha c hc=>?_⟩
  simp at hc
  subst hc
  exact this.2.2 a ha b (by simp)
 ·simp at hc
  rcases hc with hc | rfl
  ·exact h.kind c (by simp[hc])
  ·exact h.kind b (by simp)
theorem SR.pop {ls:List (List ByteArray)} {k i:Nat} {pre:List Blk} {b:Blk} {op sp:List Nat} (h:SR ls k (pre++[b]) op sp) (hk:k < ls.length) (hf:HF (first ls[k]) i) (h7:i=7):SR ls (k+1) pre op.dropLast (if 0 < sp.length∧zBt sp=zBt op then sp.dropLast else sp):=by
 have hop:op=pre.map (·.line)++[b.line]:=by rw[h.opE];simp
 have hd:op.dropLast=pre.map (·.line):=by rw[hop,List.dropLast_concat]
 have hi:=h.inv
 rw[hop]at hi
 refine⟨hd,?_,by rw[hd];exact hi.pop hk hf h7,fun x hx=>?_,fun c hc=>by have:=h.rng c (by simp[hc]);omega,(List.pairwise_append.mp h.inc).1,fun c hc=>h.kind c (by simp[hc]),?_⟩
 ·cases hb:b.els with
  | true=>
   rw[if_pos (h.spent.mpr hb),h.spE]
   simp[hb]
  | false=>
   rw[if_neg (fun e=>by have:=h.spent.mp e;rw[hb]at this;cases this),h.spE]
   simp[hb]
 ·rw[zMU hk hf,if_neg (by omega)]
  refine h.home x ?_
  rw[hd]at hx
  rw[hop]
  cases hp:pre with
  | nil=>rw[hp]at hx;simp at hx
  | cons y r=>rw[hp]at hx;simpa using hx
 ·rw[cnt_i hk hf,if_neg (by omega),if_pos h7,←h.cnt,hd,hop]
  simp
structure RelN (ls:List (List ByteArray)) (l:Nat) (p:PL) (t:List ByteArray):Prop where
 line:zBV t p.form
 zf:tx p.zf=t
 proc:¬(idx p.form.kind=0∨idx p.form.kind=1∨idx p.form.kind=2∨idx p.form.kind=3)→p.proc=(home ls (l+1):Nat)
 opener:idx p.form.kind=7→p.opener=(openerFrom ls l 1:Nat)
 els:idx p.form.kind=6→p.opener=(openerFrom ls l 1:Nat)
 depth:p.depth=if idx p.form.kind=6∨idx p.form.kind=7 then cnt ls l-1 else cnt ls l
inductive LN (ls:List (List ByteArray)):Nat→List PL→List (List ByteArray)→Prop
 | nil (k:Nat):LN ls k [] []
 | cons (k:Nat) (p:PL) (t:List ByteArray) (ps:List PL) (us:List (List ByteArray)):RelN ls k p t→LN ls (k+1) ps us→LN ls k (p::ps) (t::us)
theorem zOJ {ls:List (List ByteArray)} {k:Nat} {bs:List Blk} {op sp:List Nat} {p:PL} (h:SR ls k bs op sp) (hk:k < ls.length) (hp:Rel0 p ls[k]) (had:adm bs p.form.kind=true):RelN ls k (zo bs p) ls[k]:=by
 obtain⟨hl,ht,hd,ho,hpr⟩:=hp
 have hf:=zCt hl
 obtain⟨i0,i1,i2,i3,i4,i5,i6,i7⟩:=zBk p.form.kind
 rcases zKi bs with rfl | ⟨pre,b,rfl⟩
 ·have hpl:zo [] p=p:=by simp[zo]
  have hc:cnt ls k=0:=by rw[←h.cnt,h.opE];rfl
  unfold adm at had
  have hk4:p.form.kind=0∨p.form.kind=1∨p.form.kind=2∨p.form.kind=3:=by
   by_cases hx:p.form.kind=0
   ·exact Or.inl hx
   ·rw[if_neg hx]at had
    by_cases hy:p.form.kind=1∨p.form.kind=2∨p.form.kind=3
    ·exact Or.inr hy
    ·rw[if_neg hy,if_pos rfl]at had;cases had
  rw[hpl]
  refine⟨hl,ht,fun hn=>?_,fun h7=>?_,fun h6=>?_,?_⟩
  ·exfalso;apply hn;rcases hk4 with h | h | h | h
   ·exact Or.inl (i0.mpr h)
   ·exact Or.inr (Or.inl (i1.mpr h))
   ·exact Or.inr (Or.inr (Or.inl (i2.mpr h)))
   ·exact Or.inr (Or.inr (Or.inr (i3.mpr h)))
  ·have:=i7.mp h7;omega
  ·have:=i6.mp h6;omega
  ·rw[hd,hc,if_neg]
   rintro (h | h)
   ·have:=i6.mp h;omega
   ·have:=i7.mp h;omega
 ·have hne:¬(pre++[b])=[]:=by simp
  have hop:op=pre.map (·.line)++[b.line]:=by rw[h.opE];simp
  have hlo:=zHV pre b
  have hcl:((pre++[b]).length:Int)=cnt ls k:=by rw[←h.cnt,h.opE];simp
  have hop1:openerFrom ls k 1=b.line:=h.inv (pre.map (·.line)) b.line [] (by rw[hop])
  have hhome:home ls k=(zBg (pre++[b])).line:=by
   refine h.home _ ?_
   rw[h.opE]
   cases pre with
   | nil=>simp[zBg]
   | cons c r=>simp[zBg]
  have hh1:¬idx p.form.kind=3→home ls (k+1)=(zBg (pre++[b])).line:=fun hn=>by rw[zMU hk hf,if_neg hn];exact hhome
  by_cases h46:p.form.kind=6∨p.form.kind=4
  ·have hpl:zo (pre++[b]) p=⟨p.zf,p.form,((pre++[b]).length:Int)-1,b.line,(zBg (pre++[b])).line⟩:=by
    rw[zo,if_neg hne,if_pos h46,hlo]
   rw[hpl]
   refine⟨hl,ht,fun hn=>?_,fun h7=>?_,fun h6=>?_,?_⟩
   ·show ((zBg (pre++[b])).line:Int)=_
    rw[hh1 (fun e=>hn (Or.inr (Or.inr (Or.inr e))))]
   ·show (b.line:Int)=_
    rw[hop1]
   ·show (b.line:Int)=_
    rw[hop1]
   ·show ((pre++[b]).length:Int)-1=_
    rw[if_pos (h46.imp i6.mpr i7.mpr),hcl]
  ·have hpl:zo (pre++[b]) p=⟨p.zf,p.form,(pre++[b]).length,p.opener,(zBg (pre++[b])).line⟩:=by
    rw[zo,if_neg hne,if_neg h46]
   rw[hpl]
   refine⟨hl,ht,fun hn=>?_,fun h7=>?_,fun h6=>?_,?_⟩
   ·show ((zBg (pre++[b])).line:Int)=_
    rw[hh1 (fun e=>hn (Or.inr (Or.inr (Or.inr e))))]
   ·exact absurd (Or.inr (i7.mp h7)) h46
   ·exact absurd (Or.inl (i6.mp h6)) h46
   ·show ((pre++[b]).length:Int)=_
    rw[if_neg (fun e=>h46 (e.imp i6.mp i7.mp)),hcl]
def zJN (ls:List (List ByteArray)) (k:Nat) (acc:List PL) (Z:Nat×List PL×List Blk) (X:Nat):Prop:=
 (Z.1=0∧Z.2.2=[]∧X=0∧∃ps,Z.2.1=acc++ps∧LN ls k ps (ls.drop k))∨(Z.1=0∧¬Z.2.2=[]∧X=ls.length)∨(¬Z.1=0∧X=Z.1)
theorem zPV {ls:List (List ByteArray)}:∀(rem:List PL) (k:Nat) (bs:List Blk) (acc:List PL) (op sp:List Nat),LR Rel0 rem (ls.drop k)→SR ls k bs op sp→k≤ls.length→
  zJN ls k acc (Rt.nestFrom rem (k+1) bs acc) (nestFrom ls (ls.drop k) k op sp)
 | [],k,bs,acc,op,sp,hr,hs,hkl=>by
  have hk:ls.drop k=[]:=by
   generalize ls.drop k=d at hr
   cases hr
   rfl
  have hkn:k=ls.length:=by
   have:=congrArg List.length hk
   simp at this;omega
  rw[hk]
  by_cases hb:bs=[]
  ·refine Or.inl ⟨rfl,hb,?_,[],by simp[Rt.nestFrom],by rw[hk];exact .nil k⟩
   rw[nestFrom,if_pos (by rw[hs.opE,hb];rfl)]
  ·refine Or.inr (Or.inl ⟨rfl,hb,?_⟩)
   rw[nestFrom,if_neg (by rw[hs.opE];simpa using hb),hkn]
 | p::rem,k,bs,acc,op,sp,hr,hs,hkl=>by
  have hk:k < ls.length:=by
   have:=hr.len
   simp at this;omega
  have hdrop:=List.drop_eq_getElem_cons hk
  rw[hdrop]at hr
  cases hr with
  | cons _ _ _ _ hp hr=>
  have hf:=zCt hp.1
  obtain⟨i0,i1,i2,i3,i4,i5,i6,i7⟩:=zBk p.form.kind
  have hol:op.length=bs.length:=by rw[hs.opE];simp
  have fault:adm bs p.form.kind=false→zJN ls k acc (Rt.nestFrom (p::rem) (k+1) bs acc) (k+1):=by
   intro ha
   rw[Rt.nestFrom,if_neg (by rw[ha];simp)]
   exact Or.inr (Or.inr ⟨by simp,rfl⟩)
  have go:∀op' sp',adm bs p.form.kind=true→SR ls (k+1) (zAS bs (k+1) p.form.kind) op' sp'→zJN ls k acc (Rt.nestFrom (p::rem) (k+1) bs acc) (nestFrom ls (ls.drop (k+1)) (k+1) op' sp'):=by
   intro op' sp' ha hs'
   have hrel:=zOJ hs hk hp ha
   rw[Rt.nestFrom,if_pos ha]
   rcases zPV rem (k+1) _ (acc++[zo bs p]) op' sp' hr hs' hk with⟨a1,a2,a3,ps,a4,a5⟩| a | a
   ·exact Or.inl ⟨a1,a2,a3,zo bs p::ps,by rw[a4];simp,by rw[hdrop];exact .cons k _ _ _ _ hrel a5⟩
   ·exact Or.inr (Or.inl a)
   ·exact Or.inr (Or.inr a)
  rw[zGr hk hf]
  by_cases e0:p.form.kind=0
  ·have ha:adm bs p.form.kind=true:=by rw[adm,if_pos e0]
   have hpa:zAS bs (k+1) p.form.kind=bs:=by simp[zAS,e0]
   have h0:=i0.mpr e0
   rw[if_pos h0]
   exact go op sp ha (by rw[hpa];exact hs.same hk hf (by omega) (by omega))
  rw[if_neg (fun e=>e0 (i0.mp e))]
  by_cases et:p.form.kind=1∨p.form.kind=2∨p.form.kind=3
  ·have ei:idx p.form.kind=1∨idx p.form.kind=2∨idx p.form.kind=3:=et.imp i1.mpr (Or.imp i2.mpr i3.mpr)
   by_cases hb:bs=[]
   ·have ha:adm bs p.form.kind=true:=by rw[adm,if_neg e0,if_pos et];simp[hb]
    rw[if_neg (by rw[hol,hb];simp[ei])]
    by_cases e3:p.form.kind=3
    ·have h3:=i3.mpr e3
     have hpa:zAS bs (k+1) p.form.kind=bs++[⟨k+1,3,false⟩]:=by simp[zAS,e3]
     rw[if_pos (Or.inl h3)]
     refine go (op++[k+1]) sp ha ?_
     rw[hpa]
     exact hs.push hk hf (Or.inl h3) ⟨fun _=>hb,fun _=>h3⟩ ⟨fun e=>by omega,fun e=>by omega⟩
    ·have hpa:zAS bs (k+1) p.form.kind=bs:=by
      rw[zAS,if_neg (by omega),if_neg (by omega),if_neg (by omega)]
     have n3:¬(idx p.form.kind=3∨idx p.form.kind=4∨idx p.form.kind=5):=by omega
     have n6:¬idx p.form.kind=6:=by omega
     have n7:¬idx p.form.kind=7:=by omega
     rw[if_neg n3,if_neg n6,if_neg n7]
     refine go op sp ha ?_
     rw[hpa]
     exact hs.same hk hf n3 n7
   ·have ha:adm bs p.form.kind=false:=by rw[adm,if_neg e0,if_pos et];simp[hb]
    have:¬op.length=0:=by rw[hol];simpa using hb
    rw[if_pos (by simp[ei,this])]
    exact fault ha
  ·have ni:¬(idx p.form.kind=1∨idx p.form.kind=2∨idx p.form.kind=3):=fun e=>et (e.imp i1.mp (Or.imp i2.mp i3.mp))
   rcases zKi bs with rfl | ⟨pre,b,rfl⟩
   ·have ha:adm [] p.form.kind=false:=by rw[adm,if_neg e0,if_neg et,if_pos rfl]
    have:op.length=0:=by rw[hol];rfl
    rw[if_pos (by simp[ni,this])]
    exact fault ha
   ·have hne:¬(pre++[b])=[]:=by simp
    have hlo:=zHV pre b
    have nol:¬op.length=0:=by rw[hol];simp
    rw[if_neg (by simp[ni,nol])]
    have n3:¬p.form.kind=3:=fun e=>et (Or.inr (Or.inr e))
    by_cases e57:p.form.kind=5∨p.form.kind=7
    ·have ha:adm (pre++[b]) p.form.kind=true:=by rw[adm,if_neg e0,if_neg et,if_neg hne,if_neg (by omega)]
     have hi:idx p.form.kind=3∨idx p.form.kind=4∨idx p.form.kind=5:=Or.inr (e57.imp i4.mpr i5.mpr)
     have hpa:zAS (pre++[b]) (k+1) p.form.kind=(pre++[b])++[⟨k+1,p.form.kind,false⟩]:=by rw[zAS,if_pos (Or.inr e57)]
     rw[if_pos hi]
     refine go (op++[k+1]) sp ha ?_
     rw[hpa]
     exact hs.push hk hf hi ⟨fun e=>absurd (i3.mp e) n3,fun e=>absurd e hne⟩ i4
    ·have ni3:¬(idx p.form.kind=3∨idx p.form.kind=4∨idx p.form.kind=5):=by
      rintro (e | e | e)
      ·exact n3 (i3.mp e)
      ·exact e57 (Or.inl (i4.mp e))
      ·exact e57 (Or.inr (i5.mp e))
     rw[if_neg ni3]
     by_cases e6:p.form.kind=6
     ·have h6:=i6.mpr e6
      rw[if_pos h6]
      have hop:zBt op=b.line:=by rw[hs.opE];simp[zBt]
      have hkb:=hs.kind b (by simp)
      have had:adm (pre++[b]) p.form.kind=(decide (b.kind=5) && !b.els):=by rw[adm,if_neg e0,if_neg et,if_neg hne,if_pos e6,hlo]
      have hpa:zAS (pre++[b]) (k+1) p.form.kind=pre++[⟨b.line,b.kind,true⟩]:=by
       rw[zAS,if_neg (by omega),if_pos e6,if_neg hne,hlo];simp
      by_cases hc:b.kind=5∧b.els=false
      ·have ha:adm (pre++[b]) p.form.kind=true:=by rw[had];simp[hc.1,hc.2]
       rw[if_neg]
       ·refine go op (sp++[zBt op]) ha ?_
        rw[hpa];exact hs.els hk hf h6 hc.2
       ·rintro (h | h)
        ·rw[hop,hkb]at h;simp[hc.1]at h
        ·have:=hs.spent.mp h;rw[hc.2]at this;cases this
      ·have ha:adm (pre++[b]) p.form.kind=false:=by
        rw[had]
        cases hb:b.els with
        | true=>simp
        | false=>
         have:¬b.kind=5:=fun e=>hc ⟨e,hb⟩
         simp[this]
       rw[if_pos]
       ·exact fault ha
       ·by_cases h5:b.kind=5
        ·refine Or.inr (hs.spent.mpr ?_)
         cases hb:b.els with
         | true=>rfl
         | false=>exact absurd ⟨h5,hb⟩ hc
        ·refine Or.inl ?_
         rw[hop,hkb];simp[h5]
     ·rw[if_neg (fun e=>e6 (i6.mp e))]
      have ha:adm (pre++[b]) p.form.kind=true:=by rw[adm,if_neg e0,if_neg et,if_neg hne,if_neg e6]
      by_cases e4:p.form.kind=4
      ·have h7:=i7.mpr e4
       have hpa:zAS (pre++[b]) (k+1) p.form.kind=pre:=by
        rw[zAS,if_neg (by omega),if_neg e6,if_pos e4];simp
       rw[if_pos h7]
       refine go _ _ ha ?_
       rw[hpa]
       exact hs.pop hk hf h7
      ·have hpa:zAS (pre++[b]) (k+1) p.form.kind=pre++[b]:=by
        rw[zAS,if_neg (by omega),if_neg e6,if_neg e4]
       have n7:¬idx p.form.kind=7:=fun e=>e4 (i7.mp e)
       rw[if_neg n7]
       refine go op sp ha ?_
       rw[hpa]
       exact hs.same hk hf ni3 n7
open Rt
theorem LN.len {ls:List (List ByteArray)} {k:Nat} {ps:List PL} {us:List (List ByteArray)} (h:LN ls k ps us):ps.length=us.length:=by
 induction h with
 | nil=>rfl
 | cons k p t ps us _ _ ih=>simp[ih]
theorem LN.get {ls:List (List ByteArray)} {k:Nat} {ps:List PL} {us:List (List ByteArray)} (h:LN ls k ps us):∀j (h1:j < ps.length) (h2:j < us.length),RelN ls (k+j) ps[j] us[j]:=by
 induction h with
 | nil=>intro j h1;simp at h1
 | cons k p t ps us hp _ ih=>
  intro j h1 h2
  cases j with
  | zero=>exact hp
  | succ j=>
   have:=ih j (by simpa using h1) (by simpa using h2)
   rw[show k+1+j=k+(j+1) by omega]at this
   exact this
theorem zPN {t:List ByteArray} {i:Nat} (hf:HF (first t) i):zDb t=decide (i=1∨i=2∨i=3):=by
 obtain⟨f0,f1,f2,f3,_⟩:=hf
 unfold zDb;rw[f1,f2,f3,Bool.eq_iff_iff];simp[or_assoc]
theorem zQw {t:List ByteArray} {fm:zAU} (h:zBV t fm) (hk:fm.kind=1∨fm.kind=2∨fm.kind=3):at' t 1=fm.name:=by
 cases h with
 | var x hx=>rfl
 | array x n hx hn h1 h2=>rfl
 | proc x ps hx hps hl=>rfl
 | _=>simp at hk
theorem decl_rel {p:PL} {t:List ByteArray} (h:zBV t p.form) (x:ByteArray):isDecl p x=zFu t x:=by
 obtain⟨i0,i1,i2,i3,i4,i5,i6,i7⟩:=zBk p.form.kind
 rw[isDecl,zFu,zPN (zCt h)]
 by_cases hk:p.form.kind=1∨p.form.kind=2∨p.form.kind=3
 ·have hi:idx p.form.kind=1∨idx p.form.kind=2∨idx p.form.kind=3:=hk.imp i1.mpr (Or.imp i2.mpr i3.mpr)
  rw[zQw h hk,zL3,decide_eq_true hi]
  rcases hk with hk | hk | hk <;> simp[hk]
 ·have hi:¬(idx p.form.kind=1∨idx p.form.kind=2∨idx p.form.kind=3):=fun e=>hk (e.imp i1.mp (Or.imp i2.mp i3.mp))
  rw[decide_eq_false hi]
  have a1:¬p.form.kind=1:=fun e=>hk (Or.inl e)
  have a2:¬p.form.kind=2:=fun e=>hk (Or.inr (Or.inl e))
  have a3:¬p.form.kind=3:=fun e=>hk (Or.inr (Or.inr e))
  simp[a1,a2,a3]
theorem decl_eq {ls:List (List ByteArray)} {k:Nat} {ps:List PL} {us:List (List ByteArray)} (h:LN ls k ps us) (x:ByteArray):∀n,Rt.declFrom n ps x=declFrom n us x:=by
 induction h with
 | nil=>intro n;rfl
 | cons k p t ps us hp _ ih=>
  intro n
  rw[Rt.declFrom,declFrom,decl_rel hp.line,ih]
structure zCS (pls:List PL) (ls:List (List ByteArray)):Prop where
 ex:∃ps,pls=zPL::ps∧LN ls 0 ps ls
 nested:nested ls=0
theorem zCS.len {pls:List PL} {ls:List (List ByteArray)} (h:zCS pls ls):pls.length=ls.length+1:=by
 obtain⟨ps,rfl,h1⟩:=h.ex
 simp[h1.len]
theorem zCS.get {pls:List PL} {ls:List (List ByteArray)} (h:zCS pls ls) {l:Nat} (hl:l < ls.length):∃p,pls[l+1]?=some p∧RelN ls l p ls[l]:=by
 obtain⟨ps,rfl,h1⟩:=h.ex
 have:=h1.len
 refine⟨ps[l]'(by omega),by simp,?_⟩
 have:=h1.get l (by omega) hl
 simpa using this
theorem zCS.zDZ {pls:List PL} {ls:List (List ByteArray)} (h:zCS pls ls) (x:ByteArray):zAE pls x=decl ls x:=by
 obtain⟨ps,rfl,h1⟩:=h.ex
 exact decl_eq h1 x 1
theorem zCS.form0 {pls:List PL} {ls:List (List ByteArray)} (h:zCS pls ls):zT pls (0:Nat)=zF:=by
 obtain⟨ps,rfl,h1⟩:=h.ex
 rfl
theorem zCS.form {pls:List PL} {ls:List (List ByteArray)} (h:zCS pls ls) {l:Nat} (hl:l < ls.length):zBV ls[l] (zT pls ((l+1:Nat):Int)):=by
 obtain⟨p,h1,h2⟩:=h.get hl
 have:zT pls ((l+1:Nat):Int)=p.form:=by
  rw[zT,if_neg (by omega),Int.toNat_natCast,h1];rfl
 rw[this]
 exact h2.line
theorem zCS.zHl {pls:List PL} {ls:List (List ByteArray)} (h:zCS pls ls) (x:ByteArray) :
  (decl ls x=0∧zX pls x=zF)∨(¬decl ls x=0∧∃hd:decl ls x-1 < ls.length,zBV ls[decl ls x-1] (zX pls x)):=by
 have hb:=zEG ls x
 rw[zX,h.zDZ]
 by_cases h0:decl ls x=0
 ·exact Or.inl ⟨h0,by rw[h0];exact h.form0⟩
 ·refine Or.inr ⟨h0,by omega,?_⟩
  have:=h.form (l:=decl ls x-1) (by omega)
  rw[show decl ls x-1+1=decl ls x by omega]at this
  exact this
theorem zFX {t:List ByteArray} {fm:zAU} (h:zBV t fm) (hk:((first t).toList==[112,114,111,99])=true):fm.kind=3∧fm.params=t.drop 2:=by
 have hf:=zCt h
 have h3:idx fm.kind=3:=by
  have:=hf.2.2.2.1
  rw[hk]at this
  simpa using this.symm
 have hk3:=(zBk fm.kind).2.2.2.1.mp h3
 refine⟨hk3,?_⟩
 cases h with
 | proc x ps hx hps hl=>rfl
 | _=>simp at hk3
theorem zCS.par {pls:List PL} {ls:List (List ByteArray)} (h:zCS pls ls) {l:Nat} (hh:0 < home ls (l+1)) (hl:l < ls.length) (x:ByteArray):zGU pls ((home ls (l+1):Nat):Int) x=inB (zGo ls l) x:=by
 have hb:=zO0 ls (l+1)
 have hp:=zMT ls (l+1) hh
 obtain⟨d,hd⟩:∃d,home ls (l+1)=d+1:=⟨home ls (l+1)-1,by omega⟩
 have hdl:d < ls.length:=by omega
 rw[hd,Nat.add_sub_cancel,zr hdl]at hp
 have:=zFX (h.form hdl) hp
 rw[zGU,zGo,hd,Nat.add_sub_cancel,zr hdl,this.2]
 rfl
theorem zCS.named {pls:List PL} {ls:List (List ByteArray)} (h:zCS pls ls) {l:Nat} (hh:0 < home ls (l+1)) (hl:l < ls.length) {x:ByteArray} (hx:zi x=true) (c:Bool) :
  zD1 ls l x c=if c=true then Rt.zCN pls ((home ls (l+1):Nat):Int) x else Rt.isVar pls ((home ls (l+1):Nat):Int) x:=by
 rw[zD1,if_neg (by rw[hx];simp),Rt.zCN,Rt.isVar,h.par hh hl]
 cases hp:inB (zGo ls l) x with
 | true=>rw[if_pos rfl];cases c <;> rfl
 | false=>
  rw[if_neg (by simp)]
  rcases h.zHl x with⟨h0,hz⟩| ⟨h0,hd,hli⟩
  ·rw[if_pos h0,hz]
   cases c <;> rfl
  ·rw[if_neg h0]
   obtain⟨f0,f1,f2,_⟩:=zCt hli
   obtain⟨_,i1,i2,_⟩:=zBk (zX pls x).kind
   rw[zr hd,f1,f2]
   cases c with
   | true=>simp[i2]
   | false=>simp[i1]
theorem zHS {pls:List PL} {ls:List (List ByteArray)} (h:zCS pls ls) {l:Nat} (hh:0 < home ls (l+1)) (hl:l < ls.length) (t:List ByteArray):∀f k,k+f=t.length→
  namesFrom ls l t f k=toksOK (Rt.isVar pls ((home ls (l+1):Nat):Int)) (Rt.zCN pls ((home ls (l+1):Nat):Int)) (t.drop k)
 | 0,k,hk=>by rw[List.drop_eq_nil_of_le (by omega)];rfl
 | f+1,k,hk=>by
  have hkl:k < t.length:=by omega
  rw[namesFrom,List.drop_eq_getElem_cons hkl,toksOK,zHS h hh hl t f (k+1) (by omega),zAi hkl]
  congr 1
  have hc:(cellAt t k=true)↔first (t.drop (k+1))=zAQ:=by
   rw[cellAt,zCC,decide_eq_true_iff]
   have:first (t.drop (k+1))=at' t (k+1):=by simp[first,at']
   rw[this];rfl
  by_cases hx:zi t[k]=true
  ·rw[h.named hh hl hx,if_pos hx]
   by_cases hcc:cellAt t k=true
   ·rw[if_pos hcc,if_pos (hc.mp hcc)]
   ·rw[if_neg hcc,if_neg (fun e=>hcc (hc.mpr e))]
  ·rw[if_neg hx,zD1,if_pos (by simpa using hx)]
theorem zC9 (pls:List PL) (proc:Int) (e:List Pop):zDO pls proc e=zCD (Rt.isVar pls proc) (Rt.zCN pls proc) e:=rfl
theorem zFO (V A:ByteArray→Bool) {x:ByteArray} (hx:zi x=true) (r:List ByteArray):toksOK V A (x::r)=((if first r=zAQ then A x else V x) && toksOK V A r):=by rw[toksOK,if_pos hx]
theorem zIi (l:List UInt8) (h:(⟨l.toArray⟩:ByteArray)∈zFV):zi ⟨l.toArray⟩=false:=by
 have:inB zFV ⟨l.toArray⟩=true:=by simp[inB];exact h
 simp[zi,this]
theorem zG8 (V A:ByteArray→Bool):∀(es:List (List Pop)) (args:List (List ByteArray)),Exs es args→toksOK V A (joinC args)=es.all (zCD V A)
 | _,_,.nil=>rfl
 | _,_,.cons e p [] [] he .nil=>by simp[joinC,he.2.1]
 | _,_,.cons e p (e2::es) (q::qs) he h=>by
  have ih:=zG8 V A (e2::es) (q::qs) h
  rw[joinC,zCI V A (by show ¬zBU=zAQ;simp[zBU,zAQ]),zAs V A (show zi zBU=false from zCM 44 (by decide)),ih,←he.2.1]
  simp only[List.all_cons]
theorem zBm {ls:List (List ByteArray)} {l:Nat} {x:ByteArray} {r:List ByteArray} (lt:List UInt8) (h:x=⟨lt.toArray⟩) (h1:(lt==[118,97,114])=false) (h2:(lt==[97,114,114,97,121])=false) (h3:(lt==[112,114,111,99])=false) (h4:(lt==[99,97,108,108])=false) :
  zA3 ls l (x::r)=namesFrom ls l (x::r) r.length 1:=by
 have e:(first (x::r)).toList=lt:=by show x.toList=lt;rw[h,zBB]
 rw[zA3,e,h1,h2,h3,h4]
 simp
theorem zJV {t:List ByteArray}:∀f k,k+f=t.length→(twiceFrom t f k=false↔∀i,k≤i→i < t.length→inB (t.take i) (at' t i)=false)
 | 0,k,hk=>by
  constructor
  ·intro _ i h1 h2;omega
  ·intro _;rfl
 | f+1,k,hk=>by
  rw[twiceFrom,Bool.or_eq_false_iff,zJV f (k+1) (by omega)]
  constructor
  ·rintro ⟨h1,h2⟩ i h3 h4
   by_cases e:i=k
   ·subst e;exact h1
   ·exact h2 i (by omega) h4
  ·intro h
   exact⟨h k (Nat.le_refl _) (by omega),fun i h1 h2=>h i (by omega) h2⟩
theorem zPY {t:List ByteArray} {i:Nat} (hi:i < t.length):inB (t.take i) (at' t i)=false↔∀j,j < i→¬t[i]?=t[j]?:=by
 rw[zAi hi,Bool.eq_false_iff]
 constructor
 ·intro h j hj e
  apply h
  rw[List.getElem?_eq_getElem hi,List.getElem?_eq_getElem (show j < t.length by omega)]at e
  simp[inB]
  rw[List.mem_take_iff_getElem]
  exact⟨j,by omega,by simpa using e.symm⟩
 ·intro h e
  simp[inB]at e
  rw[List.mem_take_iff_getElem]at e
  obtain⟨j,hj,e⟩:=e
  have:=h j (by omega)
  rw[List.getElem?_eq_getElem hi,List.getElem?_eq_getElem (show j < t.length by omega)]at this
  exact this (by rw[e])
theorem zIX (t:List ByteArray):zGR t=false↔zHx t t.length:=by
 rw[zGR,zJV t.length 0 (by omega)]
 constructor
 ·intro h i j hj hi _
  exact(zPY hi).mp (h i (by omega) hi) j hj
 ·intro h i _ hi
  exact(zPY hi).mpr (fun j hj=>h i j hj hi hi)
open Classical in
theorem right_eq {pls:List PL} {ls:List (List ByteArray)} (h:zCS pls ls) {l:Nat} (hl:l < ls.length) {p:PL} (hp:RelN ls l p ls[l]):zA3 ls l ls[l]=zAk pls (l+1) p:=by
 have hh:zDb ls[l]=false→((first ls[l]).toList==[])=false→0 < home ls (l+1):=fun a b=>zIj h.nested hl a b
 have hpr:=hp.proc
 have hli:=hp.line
 clear hp
 have hdecl:=h.zDZ
 generalize ls[l]=t at *
 obtain⟨tk,fm,dp,opn,pr⟩:=p
 simp only at hli hpr
 have hkf:=zCt hli
 have hfit:¬(idx fm.kind=0∨idx fm.kind=1∨idx fm.kind=2∨idx fm.kind=3)→∀k f,k+f=t.length→namesFrom ls l t f k=toksOK (Rt.isVar pls pr) (Rt.zCN pls pr) (t.drop k):=by
  intro hn k f hk
  have hho:0 < home ls (l+1):=hh (by rw[zPN hkf,decide_eq_false];intro e;exact hn (Or.inr e)) (by rw[hkf.1,decide_eq_false];intro e;exact hn (Or.inl e))
  rw[hpr hn]
  exact zHS h hho hl t f k hk
 unfold zAk
 cases hli with
 | empty=>simp[zA3,first,at',namesFrom,zAr,zDO]
 | var x hx=>
  have e:(first [varB,x]).toList=[118,97,114]:=zBB [118,97,114]
  rw[zA3,e,if_pos (by decide),if_pos (Or.inl rfl)]
  show decide (decl ls x=l+1)=decide (zAE pls x=l+1)
  rw[hdecl]
 | array x n hx hn h1 h2=>
  have e:(first [zMh,x,n]).toList=[97,114,114,97,121]:=zBB [97,114,114,97,121]
  rw[zA3,e,if_neg (by decide),if_pos (by decide),if_pos (Or.inr rfl)]
  show decide (decl ls x=l+1)=decide (zAE pls x=l+1)
  rw[hdecl]
 | proc x ps hx hps hpl=>
  have e:(first (zLJ::x::ps)).toList=[112,114,111,99]:=zBB [112,114,111,99]
  rw[zA3,e,if_neg (by decide),if_neg (by decide),if_pos (by decide),if_neg (by simp),if_pos rfl]
  show (decide (decl ls x=l+1) && !zGR ps && (!(x.toList==[109,97,105,110])|| decide ((zLJ::x::ps).length=2)))=(decide (zAE pls x=l+1) && (!((x.toList==zD4) && decide (0 < ps.length)) && decide (zHx ps ps.length)))
  rw[hdecl,show zD4=[109,97,105,110]from rfl]
  have ht:zGR ps=!decide (zHx ps ps.length):=by
   by_cases hd:zHx ps ps.length
   ·rw[(zIX ps).mpr hd,decide_eq_true hd];rfl
   ·rw[decide_eq_false hd]
    cases htw:zGR ps with
    | true=>rfl
    | false=>exact absurd ((zIX ps).mp htw) hd
  rw[ht]
  have hz:decide ((zLJ::x::ps).length=2)=!decide (0 < ps.length):=by
   rw[Bool.eq_iff_iff];simp
  rw[hz]
  cases decide (decl ls x=l+1) <;> cases (x.toList==[109,97,105,110]) <;> cases decide (zHx ps ps.length) <;> cases decide (0 < ps.length) <;> rfl
 | end_=>
  rw[zBm (x:=endB) [101,110,100] rfl (by decide) (by decide) (by decide) (by decide)]
  simp[namesFrom,zAr,zDO]
 | if_ q e he=>
  rw[zBm (x:=ifB) [105,102] rfl (by decide) (by decide) (by decide) (by decide),hfit (by simp[idx]) 1 _ (by simp;omega)]
  show toksOK _ _ q=_
  rw[←he.2.1]
  simp[zAr,zC9,zCD]
 | zKQ=>
  rw[zBm (x:=elseB) [101,108,115,101] rfl (by decide) (by decide) (by decide) (by decide)]
  simp[namesFrom,zAr,zDO]
 | zGf q e he=>
  rw[zBm (x:=zJU) [119,104,105,108,101] rfl (by decide) (by decide) (by decide) (by decide),hfit (by simp[idx]) 1 _ (by simp;omega)]
  show toksOK _ _ q=_
  rw[←he.2.1]
  simp[zAr,zC9,zCD]
 | set1 x q e hx he=>
  rw[zBm (x:=zCc) [115,101,116] rfl (by decide) (by decide) (by decide) (by decide),hfit (by simp[idx]) 1 _ (by simp;omega)]
  show toksOK _ _ (x::toW::q)=_
  rw[zFO _ _ hx,if_neg (show ¬first (toW::q)=zAQ by show ¬toW=zAQ;simp[toW,zAQ]),zAs _ _ (show zi toW=false from zIi [116,111] (by simp[zFV])),←he.2.1]
  simp[zAr,zC9,zCD]
 | set2 x q i u e hx hi he=>
  rw[zBm (x:=zCc) [115,101,116] rfl (by decide) (by decide) (by decide) (by decide),hfit (by simp[idx]) 1 _ (by simp;omega)]
  show toksOK _ _ (x::zAQ::(q++zBQ::toW::u))=_
  rw[zFO _ _ hx,if_pos (show first (zAQ::(q++zBQ::toW::u))=zAQ from rfl),zAs _ _ (show zi zAQ=false from zCM 91 (by decide)),zCI _ _ (show ¬first (zBQ::toW::u)=zAQ by show ¬zBQ=zAQ;simp[zBQ,zAQ]),
   zAs _ _ (show zi zBQ=false from zCM 93 (by decide)),zAs _ _ (show zi toW=false from zIi [116,111] (by simp[zFV])),←hi.2.1,←he.2.1]
  simp[zAr,zC9,zCD]
 | print q e he=>
  rw[zBm (x:=zJm) [112,114,105,110,116] rfl (by decide) (by decide) (by decide) (by decide),hfit (by simp[idx]) 1 _ (by simp;omega)]
  show toksOK _ _ q=_
  rw[←he.2.1]
  simp[zAr,zC9,zCD]
 | read x hx=>
  rw[zBm (x:=zMw) [114,101,97,100] rfl (by decide) (by decide) (by decide) (by decide),hfit (by simp[idx]) 1 _ (by simp)]
  show toksOK _ _ [x]=_
  rw[zFO _ _ hx,if_neg (show ¬first []=zAQ by simp[first,at',zAQ])]
  simp[zAr,zC9,zCD,toksOK]
 | call x args vs hx hv=>
  have e:(first (zGZ::x::joinC args)).toList=[99,97,108,108]:=zBB [99,97,108,108]
  rw[zA3,e,if_neg (by decide),if_neg (by decide),if_neg (by decide),if_pos (by decide),hfit (by simp[idx]) 2 _ (by simp;omega)]
  show (zDf ls (zGZ::x::joinC args) && toksOK _ _ (joinC args))=_
  rw[zG8 _ _ _ _ hv]
  have hc:zDf ls (zGZ::x::joinC args)=zDg pls ⟨12,x,0,[],[],vs⟩:=by
   rw[zDf,zDg]
   show (if decl ls x=0 then false else if ((first (zAA ls (decl ls x-1))).toList==[112,114,111,99])=false then false else decide ((parts (joinC args)).length=((zAA ls (decl ls x-1)).drop 2).length))=(decide ((zX pls x).kind=3) && decide ((zX pls x).params.length=vs.length))
   rcases h.zHl x with⟨h0,hz⟩| ⟨h0,hd,hli⟩
   ·rw[if_pos h0,hz];rfl
   ·rw[if_neg h0,zr hd]
    cases hpc:((first ls[decl ls x-1]).toList==[112,114,111,99])with
    | false=>
     rw[if_pos rfl]
     have:=(zCt hli).2.2.2.1
     rw[hpc]at this
     have h3:=(zBk (zX pls x).kind).2.2.2.1
     have:¬(zX pls x).kind=3:=fun e=>by rw[h3.mpr e]at this;cases this
     simp[this]
    | true=>
     rw[if_neg (by decide)]
     have:=zFX hli hpc
     rw[this.1,this.2,zHJ args hv.is,←hv.len]
     simp[eq_comm]
  rw[hc]
  simp[zAr,zC9]
  rfl
 | zEw=>
  rw[zBm (x:=zHD) [114,101,116,117,114,110] rfl (by decide) (by decide) (by decide) (by decide)]
  simp[namesFrom,zAr,zDO]
end Rf
end Go.Proofs.YthleadfkfnnadaaGreat
