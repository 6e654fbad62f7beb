/- The program's lines in memory. -/
import Derived.Test.YthleadfkfnnadaaGreatLine
import Derived.Test.YthleadfkfnnadaaGreatRefK
set_option maxHeartbeats 4000000
set_option maxRecDepth 100000
namespace Go.Proofs.YthleadfkfnnadaaGreat
open Go.RowKit
theorem tokR_of {w:World} {B R:Nat} {tv:Value} {ts:List Rt.Tk} (h:w.ownsRow B 188 2 tv ts.length (Rt.zAX ts)) (hne:0 < ts.length) (hR:w.heap.size≤R):TokR w R tv ts:=by
 obtain⟨g,cap,rfl,_,hlt,_⟩:=zW h (Rt.zDB ts 0 hne).1
 refine⟨g,cap,rfl,by omega,fun i hi=>⟨?_,?_⟩⟩
 ·obtain⟨g',cap',he,_,_,hc⟩:=zW h (Rt.zDB ts i hi).1
  simp at he
  rw[he.1]
  exact hc
 ·obtain⟨g',cap',he,_,_,hc⟩:=zW h (Rt.zDB ts i hi).2
  simp at he
  rw[he.1]
  exact hc
theorem RFr.toBelow {R:Nat} {ov:Value} {w w':World} (h:RFr R zL ov w w') {B:Nat} (hB:B≤R) (hs:B≤w.heap.size):Below B w w':=
 ⟨h.os,h.tape,h.output,h.size,fun k hk=>h.block k (by omega) (by omega) (by simp[Value.ownBlock])⟩
theorem zEH {B N:Nat} {w w1:World} (h:Below B w w1) (hN:B≤N) (a b c d e f:Value):Below B w (W6 w1 N a b c d e f):=
 (((((h.setCell (p:=⟨N,0,none⟩) hN a).setCell (p:=⟨N,1,none⟩) hN b).setCell (p:=⟨N,2,none⟩) hN c).setCell (p:=⟨N,3,none⟩) hN d).setCell (p:=⟨N,4,none⟩) hN e).setCell (p:=⟨N,5,none⟩) hN f
theorem zIv {w w':World} {B B':Nat} (hx:∀(t:TypeId) (size n:Nat) (v:Value) (xs:List Value),w.ownsRow B t size v n xs→w'.ownsRow B' t size v n xs):∀xs os,zAc w B xs os→zAc w' B' xs os
 | [],[],_=>trivial
 | _::xs,_::os,⟨h1,h2⟩=>⟨hx _ _ _ _ _ h1,zIv hx xs os h2⟩
 | [],_::_,h=>h.elim
 | _::_,[],h=>h.elim
theorem zF2 {w w':World} {B B':Nat} {v:Array Value} {fm:Rt.zAU} (h:zAd w B v fm) (hx:∀(t:TypeId) (size n:Nat) (v:Value) (xs:List Value),w.ownsRow B t size v n xs→w'.ownsRow B' t size v n xs):zAd w' B' v fm:=by
 obtain⟨pv,iv,vv,vs,rfl,h1,h2,h3,h4⟩:=h
 refine⟨pv,iv,vv,vs,rfl,hx _ _ _ _ _ h1,hx _ _ _ _ _ h2,hx _ _ _ _ _ h3,?_⟩
 exact zIv hx _ _ h4
def LineAll (ts:List Rt.Tk) (w:World) (e:Ending) (w':World):Prop:=
 Below w.heap.size w w'∧((∃fm fv,Rt.pLineAll ts=some fm∧e=.returned (.tuple #[.agg fv,.bool true])∧zAd w' w.heap.size fv fm)∨(Rt.pLineAll ts=none∧e=.returned (.tuple #[.agg zp,.bool false])))
theorem zK1 (w:World) (tv:Value) (ts:List Rt.Tk) (B:Nat) (ht:w.ownsRow B 188 2 tv ts.length (Rt.zAX ts)) (hfew:ts.length≤24) (hsm:∀t∈ts,t.text.size≤40000) :
  Calls Tryz.prog 122 #[tv] w (LineAll ts w):=by
 obtain⟨ad,cap,rfl⟩:=zE ht
 match ts,ht,hfew,hsm with
 | [],ht,_,_=>
  have HB:=zB ((Below.refl w.heap.size w).alloc (Nat.le_refl _) (.cells zp 143))
  clear ht
  go_enter Tryz.func122,Tryz.ntmps122
  go_wp2_with fail
  refine bodyPost_ret (v:=.tuple #[.agg zp,.bool true]) ?_ rfl ⟨zA HB,Or.inl ⟨_,_,rfl,rfl,zBr _ _ _ _ _⟩⟩
  simp[results,Tryz.results122,go_sem]
 | t::r,ht,hfew,hsm=>
  have HSM:=zB hsm
  clear hsm
  have htk:=tokR_of (R:=w.heap.size) ht (by simp) (Nat.le_refl _)
  obtain⟨b,cap',he,hb,hc⟩:=htk
  obtain⟨hc0,hc1⟩:=hc 0 (by simp)
  simp at he hc0 hc1
  obtain⟨rfl,rfl⟩:=he
  have hbel:=((Below.refl w.heap.size w).alloc (Nat.le_refl _) (.cells zp 143)).alloc (by simp) (.cells #[.slice (some ⟨b,0,none⟩) (t::r).length cap,.int .i64 1,zL] 208)
  have hr:RdS ((w.alloc (.cells zp 143)).alloc (.cells #[.slice (some ⟨b,0,none⟩) (t::r).length cap,.int .i64 1,zL] 208)) (w.heap.size+1) (.slice (some ⟨b,0,none⟩) (t::r).length cap) (t::r) 1 zL []:=by
   refine⟨by simp,hfew,by simp,?_,?_,World.ownsRow_nil _ _ _ _⟩
   ·have:=heap_alloc_new (w.alloc (.cells zp 143)) (.cells #[.slice (some ⟨b,0,none⟩) (t::r).length cap,.int .i64 1,zL] 208)
    simpa using this
   ·exact⟨b,cap,rfl,by omega,fun i hi=>⟨cell_later hbel (hc i hi).1,cell_later hbel (hc i hi).2⟩⟩
  have hN0:((w.alloc (.cells zp 143)).alloc (.cells #[.slice (some ⟨b,0,none⟩) (t::r).length cap,.int .i64 1,zL] 208)).heap[w.heap.size]?=some (.cells zp 143 (0,0)):=zV (heap_alloc_new w _) _
  clear hc
  have hlen:(((t::r).length:Int)==0)=false:=by rw[beq_eq_false_iff_ne];simp only[List.length_cons];omega
  have hlen2:(0:Int) < ((t::r).length:Int):=by simp only[List.length_cons];omega
  generalize hLN:(t::r).length=LN at *
  go_enter Tryz.func122,Tryz.ntmps122
  go_wp2_with fail
  refine(line_any _ _ _ _ _ t.text hr (zA HSM)).mono ?_
  rintro e w1 (⟨fm,n1,fv,hs,rfl,hr1,hfv,hfr1⟩| ⟨hs,rfl,ov,hfr1⟩)
  ·have hN1:=hfr1.zAa hN0 (by omega)
   have hz1:w.heap.size+2≤w1.heap.size:=by have:=hfr1.size;simp at this;omega
   have hfv2:=hfv
   obtain⟨pv,iv,vv,vs,rfl,b1,b2,b3,_⟩:=hfv
   obtain⟨ad1,cap1,rfl⟩:=zE b1
   obtain⟨ad2,cap2,rfl⟩:=zE b2
   obtain⟨ad3,cap3,rfl⟩:=zE b3
   have hbelA:=hbel.trans (hfr1.toBelow (B:=w.heap.size) (by omega) (by simp <;> omega))
   have hA:=hr1.zH ((Below.refl w1.heap.size w1).alloc (Nat.le_refl _) (.cells #[.int .i64 fm.kind,.string fm.name,.int .i64 fm.cells,.slice ad1 fm.params.length cap1,.slice ad2 fm.index.length cap2,.slice ad3 fm.values.length cap3] 143))
   have hbelB:=hbelA.alloc (by omega) (.cells #[.int .i64 fm.kind,.string fm.name,.int .i64 fm.cells,.slice ad1 fm.params.length cap1,.slice ad2 fm.index.length cap2,.slice ad3 fm.values.length cap3] 143)
   have hN2:=zV hN1 (.cells #[.int .i64 fm.kind,.string fm.name,.int .i64 fm.cells,.slice ad1 fm.params.length cap1,.slice ad2 fm.index.length cap2,.slice ad3 fm.values.length cap3] 143)
   have hM2:=heap_alloc_new w1 (.cells #[.int .i64 fm.kind,.string fm.name,.int .i64 fm.cells,.slice ad1 fm.params.length cap1,.slice ad2 fm.index.length cap2,.slice ad3 fm.values.length cap3] 143)
   have hfvB:zAd (w1.alloc (.cells #[.int .i64 fm.kind,.string fm.name,.int .i64 fm.cells,.slice ad1 fm.params.length cap1,.slice ad2 fm.index.length cap2,.slice ad3 fm.values.length cap3] 143)) (w.heap.size+2) _ fm:=zF2 hfv2 (fun t size n v xs h=>zh (h.alloc _) (by simp <;> omega))
   have HS:=zB hs
   clear hr hr1 hN0 hN1 hfr1 hbel hbelA hs hfv2 b1 b2 b3
   go_wp2_with fail
   refine(more' _ _ _ _ _ _ _ hA.1).mono ?_
   rintro e w3 ⟨rfl,hr3,hfr3⟩
   have hN3:=hfr3.zAa hN2 (by omega)
   have hM3:=hfr3.zAa hM2 (by omega)
   have hfv3:=zF2 hfvB (w':=w3) (B':=w.heap.size+2) (fun t size n v xs h=>hfr3.zCE h (by omega))
   have hbel3:=hbelB.trans (hfr3.toBelow (B:=w.heap.size) (by omega) (by simp <;> omega))
   obtain⟨c0,c1,c2,c3,c4,c5,f0,f1,f2,f3,f4,f5⟩:=six hN3
   have ⟨d0,d1,d2,d3,d4,d5,_,_,_,_,_,_⟩:=six hM3
   have hne:¬w1.heap.size=w.heap.size:=by omega
   by_cases hmore:n1 < (t::r).length
   ·have hd:decide (n1 < (t::r).length)=true:=by simpa using hmore
    rw[hd]
    have HE:Hid (Rt.pLineAll (t::r)=none):=by
     refine zB ?_
     have h:=zA HS
     simp only[List.drop_one,List.tail_cons]at h
     rw[Rt.pLineAll,h]
     simp only
     rw[if_neg (fun e=>by rw[zAe hmore]at e;cases e)]
    have HB:=zB hbel3
    clear hr3 hfr3 hN3 hM3 hfv3 hbel3 hA hbelB hN2 hM2 hfvB hmore
    go_wp2_with fail
    refine bodyPost_ret (v:=.tuple #[.agg zp,.bool false]) ?_ rfl ⟨zEH (zA HB) (Nat.le_refl _) _ _ _ _ _ _,Or.inr ⟨zA HE,rfl⟩⟩
    simp[results,Tryz.results122,go_sem,c0,c1,c2,c3,c4,c5]
   ·have hd:decide (n1 < (t::r).length)=false:=by simpa using hmore
    rw[hd]
    have HE:Hid (Rt.pLineAll (t::r)=some fm):=by
     refine zB ?_
     have h:=zA HS
     simp only[List.drop_one,List.tail_cons]at h
     rw[Rt.pLineAll,h]
     simp only
     rw[if_pos (zBw hmore)]
    have HB:=zB hbel3
    have HV:=zB hfv3
    clear hr3 hfr3 hN3 hM3 hfv3 hbel3 hA hbelB hN2 hM2 hfvB hmore
    go_wp2_with fail
    refine bodyPost_ret (v:=.tuple #[.agg #[.int .i64 fm.kind,.string fm.name,.int .i64 fm.cells,.slice ad1 fm.params.length cap1,.slice ad2 fm.index.length cap2,.slice ad3 fm.values.length cap3],.bool true]) ?_ rfl
     ⟨zEH (zA HB) (Nat.le_refl _) _ _ _ _ _ _,Or.inl ⟨fm,_,zA HE,rfl,zBs (zA HV) (by omega) (by omega) _ _ _ _ _ _⟩⟩
    simp[results,Tryz.results122,go_sem,c0,c1,c2,c3,c4,c5]
  ·have hN1:=hfr1.zAa hN0 (by omega)
   have hz1:w.heap.size < w1.heap.size:=by have:=hfr1.size;simp at this;omega
   have HE:Hid (Rt.pLineAll (t::r)=none):=by
    refine zB ?_
    simp only[List.drop_one,List.tail_cons]at hs
    rw[Rt.pLineAll,hs]
   have HB:=zB (hbel.trans (hfr1.toBelow (B:=w.heap.size) (by omega) (by simp <;> omega)))
   obtain⟨c0,c1,c2,c3,c4,c5,f0,f1,f2,f3,f4,f5⟩:=six hN1
   clear hr hN0 hN1 hfr1 hbel hs
   go_wp2_with fail
   refine bodyPost_ret (v:=.tuple #[.agg zp,.bool false]) ?_ rfl ⟨(zEH (zA HB) (Nat.le_refl _) _ _ _ _ _ _).alloc (by rw[zJA];omega) _,Or.inr ⟨zA HE,rfl⟩⟩
   simp[results,Tryz.results122,go_sem,c0,c1,c2,c3,c4,c5,hz1]
namespace Rt
structure PL where
 zf:List Tk
 form:zAU
 depth:Int
 opener:Int
 proc:Int
def zPL:PL:=⟨[],⟨0,⟨#[]⟩,0,[],[],[]⟩,0,0,0⟩
def rdLine (s:ByteArray):Option PL:=
 match zf s with
 | none=>none
 | some ts=>
  match pLineAll ts with
  | none=>none
  | some fm=>some ⟨ts,fm,0,0,0⟩
def rForms:Nat→List ByteArray→List PL→Nat×List PL
 | _,[],acc=>(0,acc)
 | i,s::r,acc=>
  match rdLine s with
  | none=>(i+1,acc)
  | some pl=>rForms (i+1) r (acc++[pl])
structure Blk where
 line:Nat
 kind:Int
 els:Bool
def zHt (b:Blk):List Value:=[.int .i64 b.line,.int .i64 b.kind,.bool b.els]
def zBH (bs:List Blk):List Value:=bs.flatMap zHt
theorem zBc (bs:List Blk) (b:Blk):zBH (bs++[b])=zBH bs++[.int .i64 b.line,.int .i64 b.kind,.bool b.els]:=by simp[zBH,zHt]
theorem zDA (bs:List Blk):(zBH bs).length=bs.length*3:=by
 induction bs with
 | nil=>rfl
 | cons t r ih=>simp only[zBH,List.flatMap_cons,List.length_append,List.length_cons]at ih ⊢;simp[zHt]at ih ⊢;omega
def zAq (bs:List Blk):Blk:=bs.getLastD ⟨0,0,false⟩
def adm (bs:List Blk) (kind:Int):Bool:=
 if kind=0 then true
 else if kind=1∨kind=2∨kind=3 then decide (bs=[])
 else if bs=[]then false
 else if kind=6 then decide ((zAq bs).kind=5) && !(zAq bs).els
 else true
def zAS (bs:List Blk) (n:Nat) (kind:Int):List Blk:=
 if kind=3∨kind=5∨kind=7 then bs++[⟨n,kind,false⟩]
 else if kind=6 then (if bs=[]then []else bs.dropLast++[⟨(zAq bs).line,(zAq bs).kind,true⟩])
 else if kind=4 then bs.dropLast
 else bs
def zBg (bs:List Blk):Blk:=bs.headD ⟨0,0,false⟩
def zo (bs:List Blk) (pl:PL):PL:=
 if bs=[]then pl
 else if pl.form.kind=6∨pl.form.kind=4 then ⟨pl.zf,pl.form,(bs.length:Int)-1,(zAq bs).line,(zBg bs).line⟩
 else ⟨pl.zf,pl.form,bs.length,pl.opener,(zBg bs).line⟩
def nestFrom:List PL→Nat→List Blk→List PL→Nat×List PL×List Blk
 | [],_,bs,acc=>(0,acc,bs)
 | p::r,n,bs,acc=>if adm bs p.form.kind=true then nestFrom r (n+1) (zAS bs n p.form.kind) (acc++[zo bs p])else (n,acc++p::r,bs)
theorem zDG (bs:List Blk) (p:PL):(zo bs p).zf=p.zf∧(zo bs p).form=p.form:=by
 unfold zo
 split
 ·exact⟨rfl,rfl⟩
 ·split <;> exact⟨rfl,rfl⟩
theorem zON (bs:List Blk) (n:Nat) (kind:Int):(zAS bs n kind).length≤bs.length+1:=by
 unfold zAS
 split
 ·simp
 ·split
  ·split
   ·simp
   ·simp <;> omega
  ·split
   ·simp <;> omega
   ·omega
def zF:zAU:=⟨0,⟨#[]⟩,0,[],[],[]⟩
def isDecl (p:PL) (x:ByteArray):Bool:=(decide (p.form.kind=1)|| decide (p.form.kind=2)|| decide (p.form.kind=3)) && decide (p.form.name=x)
def declFrom:Nat→List PL→ByteArray→Nat
 | _,[],_=>0
 | n,p::r,x=>if isDecl p x=true then n else declFrom (n+1) r x
def zAE (pls:List PL) (x:ByteArray):Nat:=declFrom 1 (pls.drop 1) x
def zT (pls:List PL) (n:Int):zAU:=if n < 0 then zF else (pls[n.toNat]?.map (·.form)).getD zF
def zX (pls:List PL) (x:ByteArray):zAU:=zT pls (zAE pls x)
def zGU (pls:List PL) (proc:Int) (x:ByteArray):Bool:=(zT pls proc).params.any (fun y=>decide (y=x))
def isVar (pls:List PL) (proc:Int) (x:ByteArray):Bool:=zGU pls proc x || decide ((zX pls x).kind=1)
def zCN (pls:List PL) (proc:Int) (x:ByteArray):Bool:=!zGU pls proc x && decide ((zX pls x).kind=2)
def opFit (pls:List PL) (proc:Int) (o:Pop):Bool:=if o.code=2 then isVar pls proc o.name else if o.code=3 then zCN pls proc o.name else true
def zDO (pls:List PL) (proc:Int) (ops:List Pop):Bool:=ops.all (opFit pls proc)
def zAr (pls:List PL) (p:PL):Bool:=zDO pls p.proc p.form.index && p.form.values.all (zDO pls p.proc)
structure Small (fm:zAU):Prop where
 params:fm.params.length≤4
 index:fm.index.length≤900
 values:fm.values.length≤900
 each:∀o∈fm.values,o.length≤900
 cells:0≤fm.cells∧fm.cells≤32
def zDg (pls:List PL) (fm:zAU):Bool:=decide ((zX pls fm.name).kind=3) && decide ((zX pls fm.name).params.length=fm.values.length)
def zHx (ps:List ByteArray) (k:Nat):Prop:=∀i j,j < i→i < k→i < ps.length→¬ps[i]?=ps[j]?
def zD4:List UInt8:=[109,97,105,110]
open Classical in
noncomputable def zDz (fm:zAU):Bool:=!((fm.name.toList==zD4) && decide (0 < fm.params.length)) && decide (zHx fm.params fm.params.length)
noncomputable def zAk (pls:List PL) (n:Nat) (p:PL):Bool:=
 if p.form.kind=1∨p.form.kind=2 then decide (zAE pls p.form.name=n)
 else if p.form.kind=3 then decide (zAE pls p.form.name=n) && zDz p.form
 else if p.form.kind=8∨p.form.kind=11 then isVar pls p.proc p.form.name && zAr pls p
 else if p.form.kind=9 then zCN pls p.proc p.form.name && zAr pls p
 else if p.form.kind=12 then zDg pls p.form && zAr pls p
 else zAr pls p
noncomputable def nameErr (pls:List PL):Nat→List PL→Nat
 | _,[]=>0
 | n,p::r=>if zAk pls n p=true then nameErr pls (n+1) r else n
def zy:ByteArray:=⟨#[109,97,105,110]⟩
theorem zHC {pls:List PL} (h:∀p∈pls,Small p.form) (n:Int):(zT pls n).params.length≤1000:=by
 unfold zT
 split
 ·simp[zF]
 ·cases e:pls[n.toNat]? with
  | none=>simp[zF]
  | some p=>
   have:=(h p (List.mem_of_getElem? e)).params
   simp only[Option.map_some,Option.getD_some]
   omega
def zAL (k:Int):Bool:=decide (k=8)|| decide (k=9)|| decide (k=10)|| decide (k=11)|| decide (k=5)|| decide (k=7)|| decide (k=12)|| decide (k=13)
def zAK (pls:List PL) (p:PL):Bool:=if zAL p.form.kind=true then true else if p.form.kind=4 then decide ((zT pls p.opener).kind=3)else false
def Dec (pf:List Tk→Got):Prop:=∀rem em r,pf rem=some (em,r)→em.length+r.length≤rem.length
theorem zNO {pf:List Tk→Got} (h:Dec pf) (lo hi:Int):∀g,Dec (pLoop pf lo hi g)
 | 0,rem,em,r,e=>by simp[pLoop]at e
 | g+1,[],em,r,e=>by simp[pLoop]at e;obtain⟨rfl,rfl⟩:=e;simp
 | g+1,t::rem,em,r,e=>by
  rw[pLoop]at e
  split at e
  ·cases h1:pf rem with
   | none=>rw[h1]at e;simp at e
   | some x=>
    obtain⟨e1,r1⟩:=x
    rw[h1]at e
    simp only at e
    cases h2:pLoop pf lo hi g r1 with
    | none=>rw[h2]at e;simp at e
    | some y=>
     obtain⟨e2,r2⟩:=y
     rw[h2]at e
     simp at e
     have a:=h _ _ _ h1
     have b:=zNO h lo hi g _ _ _ h2
     rw[←e.1,←e.2]
     simp
     omega
  ·simp at e
   obtain⟨rfl,rfl⟩:=e
   simp
theorem zLq {pf:List Tk→Got} (h:Dec pf) (lo hi:Int):Dec (zDT pf lo hi):=by
 intro rem em r e
 rw[zDT]at e
 cases h1:pf rem with
 | none=>rw[h1]at e;simp at e
 | some x=>
  obtain⟨e1,r1⟩:=x
  rw[h1]at e
  simp only at e
  cases h2:pLoop pf lo hi 25 r1 with
  | none=>rw[h2]at e;simp[zCu]at e
  | some y=>
   obtain⟨e2,r2⟩:=y
   rw[h2]at e
   simp[zCu]at e
   have a:=h _ _ _ h1
   have b:=zNO h lo hi 25 _ _ _ h2
   rw[←e.1,←e.2]
   simp
   omega
theorem zNq {pf:List Tk→Got} (h:Dec pf):Dec (pComp pf):=by
 have hs:Dec (zGP pf):=zLq (zLq h 7 9) 5 6
 intro rem em r e
 rw[pComp]at e
 cases h1:zGP pf rem with
 | none=>rw[h1]at e;simp at e
 | some x=>
  obtain⟨e1,r1⟩:=x
  have a:=hs _ _ _ h1
  rw[h1]at e
  cases r1 with
  | nil=>simp at e;obtain⟨rfl,rfl⟩:=e;exact a
  | cons t r1=>
   simp only at e
   split at e
   ·cases h2:zGP pf r1 with
    | none=>rw[h2]at e;simp at e
    | some y=>
     obtain⟨e2,r2⟩:=y
     rw[h2]at e
     simp at e
     have b:=hs _ _ _ h2
     rw[←e.1,←e.2]
     simp at a ⊢
     omega
   ·simp at e;rw[←e.1,←e.2];exact a
theorem zKb {x:ByteArray} {last:List Pop} {y:Got} {em:List Pop} {r:List Tk} (h:closed x last y=some (em,r)):∃e t,y=some (e,t::r)∧em=e++last:=by
 cases y with
 | none=>simp[closed]at h
 | some z=>
  obtain⟨e,r1⟩:=z
  cases r1 with
  | nil=>simp[closed]at h
  | cons t r1=>
   rw[closed]at h
   split at h
   ·simp at h
    exact⟨e,t,by rw[h.2],h.1.symm⟩
   ·cases h
theorem zGz:∀f,Dec (ze f)
 | 0,rem,em,r,e=>by simp[ze]at e
 | f+1,[],em,r,e=>by simp[ze]at e
 | f+1,t::rem,em,r,e=>by
  have hc:Dec (pComp (ze f)):=zNq (zGz f)
  rw[ze]at e
  split at e
  ·cases h1:ze f rem with
   | none=>rw[h1]at e;simp at e
   | some x=>
    obtain⟨e1,r1⟩:=x
    rw[h1]at e
    simp at e
    have a:=zGz f _ _ _ h1
    rw[←e.1,←e.2]
    simp
    omega
  ·split at e
   ·obtain⟨e1,t1,h1,h2⟩:=zKb e
    have a:=hc _ _ _ h1
    rw[h2]
    simp at a ⊢
    omega
   ·split at e
    ·simp at e
     rw[←e.1,←e.2]
     simp
     omega
    ·split at e
     ·cases rem with
      | nil=>simp[pVar]at e;obtain⟨rfl,rfl⟩:=e;simp
      | cons t1 rem=>
       rw[pVar]at e
       split at e
       ·obtain⟨e1,t2,h1,h2⟩:=zKb e
        have a:=hc _ _ _ h1
        rw[h2]
        simp at a ⊢
        omega
       ·simp at e
        rw[←e.1,←e.2]
        simp
        omega
     ·cases e
theorem zHd:Dec zCd:=zNq (zGz 24)
theorem zN1:∀(f:Nat) (acc:List (List Pop)) (rem:List Tk) (vs:List (List Pop)) (r:List Tk),pArgs f acc rem=some (vs,r)→rem.length≤24→acc.length+f≤25→(∀o∈acc,o.length≤900)→vs.length≤25∧∀o∈vs,o.length≤900
 | 0,_,_,_,_,h,_,_,_=>by simp[pArgs]at h
 | f+1,acc,rem,vs,r,h,h1,h2,h3=>by
  rw[pArgs]at h
  cases e:zCd rem with
  | none=>rw[e]at h;simp at h
  | some x=>
   obtain⟨em,r1⟩:=x
   rw[e]at h
   simp only at h
   have a:=zHd _ _ _ e
   have h3':∀o∈acc++[em],o.length≤900:=by
    intro o ho
    simp at ho
    rcases ho with ho | rfl
    ·exact h3 o ho
    ·omega
   cases e2:zA6 ⟨#[44]⟩ r1 with
   | none=>
    rw[e2]at h
    simp at h
    rw[←h.1]
    exact⟨by simp;omega,h3'⟩
   | some r2=>
    rw[e2]at h
    simp only at h
    have hr2:r2.length≤r1.length:=by
     cases r1 with
     | nil=>simp[zA6]at e2
     | cons t r1=>simp[zA6]at e2;rw[e2.2];simp
    exact zN1 f (acc++[em]) r2 vs r h (by omega) (by simp;omega) h3'
theorem zJp:∀(rem:List Tk) (acc ps:List ByteArray),zAw acc rem=some ps→acc.length≤4→ps.length≤4
 | [],acc,ps,h,h1=>by simp[zAw]at h;rw[←h];exact h1
 | t::r,acc,ps,h,h1=>by
  rw[zAw]at h
  split at h
  ·next hc=>exact zJp r (acc++[t.text]) ps h (by simp;omega)
  ·cases h
theorem zNH {rem r:List Tk} {nm:ByteArray} (h:zBK rem=some (nm,r)):r.length≤rem.length:=by
 cases rem with
 | nil=>simp[zBK]at h
 | cons t rem=>
  rw[zBK]at h
  split at h
  ·simp at h;rw[←h.2];simp
  ·cases h
theorem take_len {x:ByteArray} {rem r:List Tk} (h:zA6 x rem=some r):r.length≤rem.length:=by
 cases rem with
 | nil=>simp[zA6]at h
 | cons t rem=>
  rw[zA6]at h
  split at h
  ·simp at h;rw[←h];simp
  ·cases h
theorem zCJ (k:Int) (nm:ByteArray) (c:Int) (hc:0≤c∧c≤32):Small ⟨k,nm,c,[],[],[]⟩:=⟨by simp,by simp,by simp,by simp,hc⟩
theorem zMm {kind:Int} {nm:ByteArray} {ix:List Pop} {rem r:List Tk} {fm:zAU} (h:pTo kind nm ix rem=some (fm,r)) (hl:rem.length≤24) (hi:ix.length≤900):Small fm:=by
 rw[pTo]at h
 cases e:zA6 ⟨#[116,111]⟩ rem with
 | none=>rw[e]at h;simp at h
 | some r1=>
  rw[e]at h
  simp only at h
  have a:=take_len e
  cases e2:zCd r1 with
  | none=>rw[e2]at h;simp at h
  | some y=>
   obtain⟨em,r2⟩:=y
   rw[e2]at h
   simp at h
   have b:=zHd _ _ _ e2
   rw[←h.1]
   exact⟨by simp,hi,by simp,by simp;omega,by simp⟩
theorem zOq {first:ByteArray} {rem r:List Tk} {fm:zAU} (h:zAC first rem=some (fm,r)) (hl:rem.length≤24):Small fm:=by
 have named:∀k,pNamed k rem=some (fm,r)→Small fm:=by
  intro k h
  rw[pNamed]at h
  cases e:zBK rem with
  | none=>rw[e]at h;simp at h
  | some x=>obtain⟨nm,r1⟩:=x;rw[e]at h;simp at h;rw[←h.1];exact zCJ _ _ _ (by omega)
 have valued:∀k,zBf k rem=some (fm,r)→Small fm:=by
  intro k h
  rw[zBf]at h
  cases e:zCd rem with
  | none=>rw[e]at h;simp at h
  | some x=>
   obtain⟨em,r1⟩:=x
   rw[e]at h
   simp at h
   have b:=zHd _ _ _ e
   rw[←h.1]
   exact⟨by simp,by simp,by simp,by simp;omega,by simp⟩
 have plain:∀k:Int,(some ((⟨k,⟨#[]⟩,0,[],[],[]⟩:zAU),rem):zI3)=some (fm,r)→Small fm:=by
  intro k h
  simp at h
  rw[←h.1]
  exact zCJ _ _ _ (by omega)
 rw[zAC]at h
 by_cases h1:(first.toList==[118,97,114])=true
 ·rw[if_pos h1]at h;exact named _ h
 rw[if_neg h1]at h
 by_cases h2:(first.toList==[97,114,114,97,121])=true
 ·rw[if_pos h2,pArray]at h
  cases e:zBK rem with
  | none=>rw[e]at h;simp at h
  | some x=>
   obtain⟨nm,r1⟩:=x
   rw[e]at h
   simp only at h
   cases e2:zDD r1 with
   | none=>rw[e2]at h;simp at h
   | some y=>
    obtain⟨v,r2⟩:=y
    rw[e2]at h
    simp only at h
    split at h
    ·cases h
    ·next hv=>simp at h;rw[←h.1];exact zCJ _ _ _ (by omega)
 rw[if_neg h2]at h
 by_cases h3:(first.toList==[112,114,111,99])=true
 ·rw[if_pos h3,pProc]at h
  cases e:zBK rem with
  | none=>rw[e]at h;simp at h
  | some x=>
   obtain⟨nm,r1⟩:=x
   rw[e]at h
   simp only at h
   cases e2:zAw [] r1 with
   | none=>rw[e2]at h;simp at h
   | some ps=>
    rw[e2]at h
    simp at h
    have b:=zJp _ _ _ e2 (by simp)
    rw[←h.1]
    exact⟨by simp;omega,by simp,by simp,by simp,by simp⟩
 rw[if_neg h3]at h
 by_cases h4:(first.toList==[101,110,100])=true
 ·rw[if_pos h4]at h;exact plain _ h
 rw[if_neg h4]at h
 by_cases h5:(first.toList==[105,102])=true
 ·rw[if_pos h5]at h;exact valued _ h
 rw[if_neg h5]at h
 by_cases h6:(first.toList==[101,108,115,101])=true
 ·rw[if_pos h6]at h;exact plain _ h
 rw[if_neg h6]at h
 by_cases h7:(first.toList==[119,104,105,108,101])=true
 ·rw[if_pos h7]at h;exact valued _ h
 rw[if_neg h7]at h
 by_cases h8:(first.toList==[115,101,116])=true
 ·rw[if_pos h8,zFK]at h
  cases e:zBK rem with
  | none=>rw[e]at h;simp at h
  | some x=>
   obtain⟨nm,r1⟩:=x
   rw[e]at h
   simp only at h
   have a:=zNH e
   cases e2:zA6 ⟨#[91]⟩ r1 with
   | none=>rw[e2]at h;exact zMm h (by omega) (by simp)
   | some r2=>
    rw[e2]at h
    simp only at h
    have b:=take_len e2
    cases e3:zCd r2 with
    | none=>rw[e3]at h;simp at h
    | some y=>
     obtain⟨ix,r3⟩:=y
     rw[e3]at h
     simp only at h
     have c:=zHd _ _ _ e3
     cases e4:zA6 ⟨#[93]⟩ r3 with
     | none=>rw[e4]at h;simp at h
     | some r4=>
      rw[e4]at h
      have d:=take_len e4
      exact zMm h (by omega) (by omega)
 rw[if_neg h8]at h
 by_cases h9:(first.toList==[112,114,105,110,116])=true
 ·rw[if_pos h9]at h;exact valued _ h
 rw[if_neg h9]at h
 by_cases h10:(first.toList==[114,101,97,100])=true
 ·rw[if_pos h10]at h;exact named _ h
 rw[if_neg h10]at h
 by_cases h11:(first.toList==[99,97,108,108])=true
 ·rw[if_pos h11,pCall]at h
  cases e:zBK rem with
  | none=>rw[e]at h;simp at h
  | some x=>
   obtain⟨nm,r1⟩:=x
   rw[e]at h
   simp only at h
   have a:=zNH e
   cases e2:zCK r1 with
   | none=>rw[e2]at h;simp at h
   | some y=>
    obtain⟨vs,r2⟩:=y
    rw[e2]at h
    simp at h
    rw[←h.1]
    rw[zCK]at e2
    split at e2
    ·simp at e2;obtain⟨rfl,_⟩:=e2;exact zCJ _ _ _ (by omega)
    ·obtain⟨g1,g2⟩:=zN1 _ _ _ _ _ e2 (by omega) (by simp) (by simp)
     exact⟨by simp,by simp,by simp;omega,g2,by simp⟩
 rw[if_neg h11]at h
 by_cases h12:(first.toList==[114,101,116,117,114,110])=true
 ·rw[if_pos h12]at h;exact plain _ h
 rw[if_neg h12]at h
 cases h
theorem zMF {s:ByteArray} {p:PL} (hs:s.size≤40000) (h:rdLine s=some p):Small p.form:=by
 rw[rdLine]at h
 cases e:zf s with
 | none=>rw[e]at h;simp at h
 | some ts=>
  rw[e]at h
  simp only at h
  have hf:=(zEv hs e).1
  cases e2:pLineAll ts with
  | none=>rw[e2]at h;simp at h
  | some fm=>
   rw[e2]at h
   simp at h
   rw[←h]
   cases ts with
   | nil=>simp[pLineAll]at e2;rw[←e2];exact zCJ _ _ _ (by omega)
   | cons t r=>
    rw[pLineAll]at e2
    cases e3:zAC t.text r with
    | none=>rw[e3]at e2;simp at e2
    | some y=>
     obtain⟨fm',r'⟩:=y
     rw[e3]at e2
     simp only at e2
     split at e2
     ·simp at e2;rw[←e2];exact zOq e3 (by simp at hf;omega)
     ·cases e2
theorem zDc:∀(texts:List ByteArray) (i:Nat) (acc pls:List PL),(∀t∈texts,t.size≤40000)→(∀p∈acc,Small p.form)→rForms i texts acc=(0,pls)→pls.length=acc.length+texts.length∧(∀p∈pls,Small p.form)∧∃rest,pls=acc++rest
 | [],_,acc,pls,_,h2,h=>by simp[rForms]at h;rw[←h];exact⟨by simp,h2,[],by simp⟩
 | s::r,i,acc,pls,h1,h2,h=>by
  rw[rForms]at h
  cases e:rdLine s with
  | none=>rw[e]at h;simp at h
  | some p=>
   rw[e]at h
   simp only at h
   obtain⟨a,b,rest,c⟩:=zDc r (i+1) (acc++[p]) pls (fun t ht=>h1 t (by simp[ht])) (fun q hq=>by
    simp at hq
    rcases hq with hq | rfl
    ·exact h2 q hq
    ·exact zMF (h1 s (by simp)) e) h
   exact⟨by simp at a ⊢;omega,b,p::rest,by rw[c];simp⟩
theorem zGs:∀(rem:List PL) (n:Nat) (bs:List Blk) (acc:List PL) (ls:List PL) (b2:List Blk),(∀p∈acc,Small p.form)→(∀p∈rem,Small p.form)→nestFrom rem n bs acc=(0,ls,b2)→0 < n→ls.length=acc.length+rem.length∧∀p∈ls,Small p.form
 | [],_,_,acc,ls,_,h1,_,h,_=>by simp[nestFrom]at h;rw[←h.1];exact⟨by simp,h1⟩
 | p::r,n,bs,acc,ls,b2,h1,h2,h,hn=>by
  rw[nestFrom]at h
  split at h
  ·obtain⟨a,b⟩:=zGs r (n+1) _ (acc++[zo bs p]) ls b2 (fun q hq=>by
    simp at hq
    rcases hq with hq | rfl
    ·exact h1 q hq
    ·rw[(zDG bs p).2];exact h2 p (by simp)) (fun q hq=>h2 q (by simp[hq])) h (by omega)
   exact⟨by simp at a ⊢;omega,b⟩
  ·simp at h;omega
noncomputable def zA0 (ls:List PL):Int×Int×List PL:=
 if ¬nameErr ls 1 (ls.drop 1)=0 then (4,nameErr ls 1 (ls.drop 1),[])
 else if ¬(zX ls zy).kind=3 then (4,0,[])
 else (0,0,ls)
noncomputable def zBn (er:Nat) (ls:List PL) (bs:List Blk) (len:Nat):Int×Int×List PL:=
 if ¬er=0 then (3,er,[])else if ¬bs=[]then (3,len,[])else zA0 ls
noncomputable def zC1 (ln:Nat) (pls:List PL) (len:Nat):Int×Int×List PL:=
 if ¬ln=0 then (2,ln,[])
 else zBn (nestFrom (pls.drop 1) 1 [] [zPL]).1 (nestFrom (pls.drop 1) 1 [] [zPL]).2.1 (nestFrom (pls.drop 1) 1 [] [zPL]).2.2 len
noncomputable def zAY (s:ByteArray):Int×Int×List PL:=
 if zCB s=true then (1,0,[])else zC1 (rForms 0 (lines s) [zPL]).1 (rForms 0 (lines s) [zPL]).2 (lines s).length
end Rt
def zBX (tv:Value) (fv:Array Value) (xe xf:Int) (pl:Rt.PL):List Value:=tv::(fv.toList++[.int .i64 pl.depth,.int .i64 pl.opener,.int .i64 xe,.int .i64 xf,.int .i64 pl.proc])
def zF1 (w:World) (B:Nat) (pl:Rt.PL) (c:List Value):Prop:=
 ∃tv fv xe xf,c=zBX tv fv xe xf pl∧w.ownsRow B 188 2 tv pl.zf.length (Rt.zAX pl.zf)∧zAd w B fv pl.form
def zA5 (w:World) (B:Nat):List Rt.PL→List (List Value)→Prop
 | [],[]=>True
 | p::ps,c::cs=>zF1 w B p c∧zA5 w B ps cs
 | _,_=>False
def zEI (w w':World) (B B':Nat):Prop:=∀(t:TypeId) (size n:Nat) (v:Value) (xs:List Value),t≠145→w.ownsRow B t size v n xs→w'.ownsRow B' t size v n xs
theorem zEI.exprs {w w':World} {B B':Nat} (hx:zEI w w' B B'):∀xs os,zAc w B xs os→zAc w' B' xs os
 | [],[],_=>trivial
 | _::xs,_::os,⟨h1,h2⟩=>⟨hx _ _ _ _ _ (by decide) h1,hx.exprs xs os h2⟩
 | [],_::_,h=>h.elim
 | _::_,[],h=>h.elim
theorem zEI.form {w w':World} {B B':Nat} (hx:zEI w w' B B') {v:Array Value} {fm:Rt.zAU} (h:zAd w B v fm):zAd w' B' v fm:=by
 obtain⟨pv,iv,vv,vs,rfl,h1,h2,h3,h4⟩:=h
 exact⟨pv,iv,vv,vs,rfl,hx _ _ _ _ _ (by decide) h1,hx _ _ _ _ _ (by decide) h2,hx _ _ _ _ _ (by decide) h3,hx.exprs _ _ h4⟩
theorem zEI.line {w w':World} {B B':Nat} (hx:zEI w w' B B') {pl:Rt.PL} {c:List Value} (h:zF1 w B pl c):zF1 w' B' pl c:=by
 obtain⟨tv,fv,xe,xf,rfl,h1,h2⟩:=h
 exact⟨tv,fv,xe,xf,rfl,hx _ _ _ _ _ (by decide) h1,hx.form h2⟩
theorem zEI.lines {w w':World} {B B':Nat} (hx:zEI w w' B B'):∀ps cs,zA5 w B ps cs→zA5 w' B' ps cs
 | [],[],_=>trivial
 | _::ps,_::cs,⟨h1,h2⟩=>⟨hx.line h1,hx.lines ps cs h2⟩
 | [],_::_,h=>h.elim
 | _::_,[],h=>h.elim
theorem zA5.snoc {w:World} {B:Nat} {p:Rt.PL} {c:List Value} (h:zF1 w B p c):∀ps cs,zA5 w B ps cs→zA5 w B (ps++[p]) (cs++[c])
 | [],[],_=>⟨h,trivial⟩
 | _::ps,_::cs,⟨h1,h2⟩=>⟨h1,zA5.snoc h ps cs h2⟩
 | [],_::_,h=>h.elim
 | _::_,[],h=>h.elim
theorem zAD {w w':World} {B:Nat} (hb:Below w.heap.size w w'):zEI w w' B B:=fun _ _ _ _ _ _ h=>zZ h hb
structure zAP (w:World) (P:Nat) (pls:List Rt.PL) (lv:Value) (cs:List (List Value)):Prop where
 block:w.heap[P]?=some (.cells #[lv] 76 (0,0))
 own:w.ownsRow (P+1) 145 12 lv pls.length cs.flatten
 lines:zA5 w (P+1) pls cs
theorem zAP.zH {w w':World} {P:Nat} {pls:List Rt.PL} {lv:Value} {cs:List (List Value)} (h:zAP w P pls lv cs) (hb:Below w.heap.size w w'):zAP w' P pls lv cs:=
 ⟨zK h.block hb,zZ h.own hb,(zAD hb).lines _ _ h.lines⟩
theorem Tryz.infoLine:(Tryz.prog.info? 145).map (fun i=>(i.zero,i.size,i.bytes))=some (some (.agg #[.slice none 0 0,.int .i64 0,.string ⟨#[]⟩,.int .i64 0,.slice none 0 0,.slice none 0 0,.slice none 0 0,.int .i64 0,.int .i64 0,.int .i64 0,.int .i64 0,.int .i64 0]),12,168):=by kernel_rfl
end Go.Proofs.YthleadfkfnnadaaGreat
