/- The program's lines in memory. -/
import Derived.Test.YthleadfkfnnadaaGreatLine
import Derived.Test.YthleadfkfnnadaaGreatRefK
set_option maxHeartbeats 4000000
set_option maxRecDepth 100000
set_option linter.unusedSimpArgs false
namespace Go.Proofs.YthleadfkfnnadaaGreat
open Go.RowKit
variable {v:Array Value} {x nm:ByteArray} {ts:List Rt.Tk} {c:List Value} {B R B':Nat} {fm:Rt.qS} {tv:Value} {w w':World}
theorem D5 (h:w.ownsRow B 188 2 tv ts.length (Rt.qa ts)) (f:0 < ts.length) (o:w.heap.size<=R):Gs w R tv ts:=by
 obtain⟨g,cap,rfl,_,k,_⟩:=yD h (Rt.Y9 ts 0 f).1
 refine⟨g,cap,rfl,by omega,fun i hi=>⟨?_,?_⟩⟩
 ·obtain⟨g',cap',d,_,_,j⟩:=yD h (Rt.Y9 ts i hi).1
  simp at d
  rw[d.1]
  exact j
 ·obtain⟨g',cap',d,_,_,j⟩:=yD h (Rt.Y9 ts i hi).2
  simp at d
  rw[d.1]
  exact j
theorem ZJ.toBelow {ov:Value} (h:ZJ R zg ov w w') (f:B<=R) (d:B<=w.heap.size):Below B w w':=
 ⟨h.os,h.tape,h.output,h.size,fun k hk=>h.block k (by omega) (by omega) (by simp[Value.ownBlock])⟩
theorem YI {N:Nat} {w1:World} (h:Below B w w1) (i:B<=N) (a b c d e f:Value):Below B w (W6 w1 N a b c d e f):=
 (((((h.setCell (p:=⟨N,0,none⟩) i a).setCell (p:=⟨N,1,none⟩) i b).setCell (p:=⟨N,2,none⟩) i c).setCell (p:=⟨N,3,none⟩) i d).setCell (p:=⟨N,4,none⟩) i e).setCell (p:=⟨N,5,none⟩) i f
theorem du {w w':World} {B B':Nat} (d:∀(t:TypeId) (size n:Nat) (v:Value) (xs:List Value),w.ownsRow B t size v n xs->w'.ownsRow B' t size v n xs):∀xs os,qi w B xs os->qi w' B' xs os
 | [],[],_=>trivial
 | _::xs,_::os,⟨h1,h2⟩=>⟨d _ _ _ _ _ h1,du d xs os h2⟩
 | [],_::_,h=>h.elim
 | _::_,[],h=>h.elim
theorem Kr (h:qk w B v fm) (d:∀(t:TypeId) (size n:Nat) (v:Value) (xs:List Value),w.ownsRow B t size v n xs->w'.ownsRow B' t size v n xs):qk w' B' v fm:=by
 obtain⟨i,iv,vv,f,rfl,x,o,k,j⟩:=h
 refine⟨i,iv,vv,f,rfl,d _ _ _ _ _ x,d _ _ _ _ _ o,d _ _ _ _ _ k,?_⟩
 exact du d _ _ j
def FJ (ts:List Rt.Tk) (w:World) (e:Ending) (w':World):Prop:=
 Below w.heap.size w w'/\((∃fm fv,Rt.pLineAll ts=some fm/\e=.returned (.tuple #[.agg fv,.bool true])/\qk w' w.heap.size fv fm)\/(Rt.pLineAll ts=none/\e=.returned (.tuple #[.agg yo,.bool false])))
theorem ie (ht:w.ownsRow B 188 2 tv ts.length (Rt.qa ts)) (I:ts.length<=24) (M:∀t∈ts,t.text.size<=40000) :
  Calls Tryz.prog 122 #[tv] w (FJ ts w):=by
 obtain⟨ad,cap,rfl⟩:=zK ht
 match ts,ht,I,M with
 | [],ht,_,_=>
  have Z:=zD ((zI w.heap.size w).alloc (zB _) (.cells yo 143))
  clear ht
  go_enter Tryz.func122,Tryz.ntmps122
  go_wp2_with fail
  refine zT (v:=.tuple #[.agg yo,.bool true]) ?_ rfl ⟨Z.u,Or.inl ⟨_,_,rfl,rfl,vM _ _ _ _ _⟩⟩
  simp[results,Tryz.results122,go_sem]
 | t::r,ht,I,M=>
  have a8:=zD M
  clear M
  have a4:=D5 (R:=w.heap.size) ht (by simp) (zB _)
  obtain⟨b,cap',he,hb,hc⟩:=a4
  obtain⟨a7,a6⟩:=hc 0 (by simp)
  simp at he a7 a6
  obtain⟨rfl,rfl⟩:=he
  have j:=((zI w.heap.size w).alloc (zB _) (.cells yo 143)).alloc (by simp) (.cells #[.slice (some ⟨b,0,none⟩) (t::r).length cap,.int .i64 1,zg] 208)
  have hr:kC ((w.alloc (.cells yo 143)).alloc (.cells #[.slice (some ⟨b,0,none⟩) (t::r).length cap,.int .i64 1,zg] 208)) (w.heap.size+1) (.slice (some ⟨b,0,none⟩) (t::r).length cap) (t::r) 1 zg []:=by
   refine⟨by simp,I,by simp,?_,?_,zW _ _ _ _⟩
   ·have:=zN (w.alloc (.cells yo 143)) (.cells #[.slice (some ⟨b,0,none⟩) (t::r).length cap,.int .i64 1,zg] 208)
    simpa using this
   ·exact⟨b,cap,rfl,by omega,fun i hi=>⟨cell_later j (hc i hi).1,cell_later j (hc i hi).2⟩⟩
  have N:((w.alloc (.cells yo 143)).alloc (.cells #[.slice (some ⟨b,0,none⟩) (t::r).length cap,.int .i64 1,zg] 208)).heap[w.heap.size]?=some (.cells yo 143 (0,0)):=yR (zN w _) _
  clear hc
  have a9:(((t::r).length:Int)==0)=false:=by rw[zV];simp only[yE];omega
  have a5:(0:Int) < ((t::r).length:Int):=by simp only[yE];omega
  generalize b4:(t::r).length=LN at *
  go_enter Tryz.func122,Tryz.ntmps122
  go_wp2_with fail
  refine(Cn t.text hr a8.u).mono ?_
  rintro e w1 (⟨fm,n1,fv,hs,rfl,a2,a3,d⟩| ⟨hs,rfl,ov,d⟩)
  ·have L:=d.qT N (by omega)
   have a0:w.heap.size+2<=w1.heap.size:=by have:=d.size;simp at this;omega
   have O:=a3
   obtain⟨pv,iv,vv,vs,rfl,b1,b2,b3,_⟩:=a3
   obtain⟨F,x,rfl⟩:=zK b1
   obtain⟨D,o,rfl⟩:=zK b2
   obtain⟨A,k,rfl⟩:=zK b3
   have J:=j.trans (d.toBelow (B:=w.heap.size) (by omega) (by simp <;> omega))
   have hA:=a2.zP ((zI w1.heap.size w1).alloc (zB _) (.cells #[.int .i64 fm.kind,.string fm.name,.int .i64 fm.cells,.slice F fm.params.length x,.slice D fm.index.length o,.slice A fm.values.length k] 143))
   have z:=J.alloc (by omega) (.cells #[.int .i64 fm.kind,.string fm.name,.int .i64 fm.cells,.slice F fm.params.length x,.slice D fm.index.length o,.slice A fm.values.length k] 143)
   have U:=yR L (.cells #[.int .i64 fm.kind,.string fm.name,.int .i64 fm.cells,.slice F fm.params.length x,.slice D fm.index.length o,.slice A fm.values.length k] 143)
   have W:=zN w1 (.cells #[.int .i64 fm.kind,.string fm.name,.int .i64 fm.cells,.slice F fm.params.length x,.slice D fm.index.length o,.slice A fm.values.length k] 143)
   have G:qk (w1.alloc (.cells #[.int .i64 fm.kind,.string fm.name,.int .i64 fm.cells,.slice F fm.params.length x,.slice D fm.index.length o,.slice A fm.values.length k] 143)) (w.heap.size+2) _ fm:=Kr O (fun t size n v xs h=>yn (h.alloc _) (by simp <;> omega))
   have HS:=zD hs
   clear hr a2 N L d j J hs O b1 b2 b3
   go_wp2_with fail
   refine(Cb hA.1).mono ?_
   rintro e w3 ⟨rfl,a1,f⟩
   have T:=f.qT U (by omega)
   have V:=f.qT W (by omega)
   have H:=Kr G (w':=w3) (B':=w.heap.size+2) (fun t size n v xs h=>f.ZH h (by omega))
   have y:=z.trans (f.toBelow (B:=w.heap.size) (by omega) (by simp <;> omega))
   obtain⟨c0,c1,c2,c3,c4,c5,f0,f1,f2,f3,f4,f5⟩:=YD T
   have ⟨d0,d1,d2,d3,d4,d5,_,_,_,_,_,_⟩:=YD V
   have b0:¬w1.heap.size=w.heap.size:=by omega
   by_cases hmore:n1 < (t::r).length
   ·have hd:decide (n1 < (t::r).length)=true:=by simpa using hmore
    rw[hd]
    have HE:Hd (Rt.pLineAll (t::r)=none):=by
     refine zD ?_
     have h:=HS.u
     simp only[Z7,Zb]at h
     rw[Rt.pLineAll,h]
     simp only
     rw[zA (fun e=>by rw[ql hmore]at e;cases e)]
    have Z:=zD y
    clear a1 f T V H y hA z U W G hmore
    go_wp2_with fail
    refine zT (v:=.tuple #[.agg yo,.bool false]) ?_ rfl ⟨YI Z.u (zB _) _ _ _ _ _ _,Or.inr ⟨HE.u,rfl⟩⟩
    simp[results,Tryz.results122,go_sem,c0,c1,c2,c3,c4,c5]
   ·have hd:decide (n1 < (t::r).length)=false:=by simpa using hmore
    rw[hd]
    have HE:Hd (Rt.pLineAll (t::r)=some fm):=by
     refine zD ?_
     have h:=HS.u
     simp only[Z7,Zb]at h
     rw[Rt.pLineAll,h]
     simp only
     rw[zE (vW hmore)]
    have Z:=zD y
    have HV:=zD H
    clear a1 f T V H y hA z U W G hmore
    go_wp2_with fail
    refine zT (v:=.tuple #[.agg #[.int .i64 fm.kind,.string fm.name,.int .i64 fm.cells,.slice F fm.params.length x,.slice D fm.index.length o,.slice A fm.values.length k],.bool true]) ?_ rfl
     ⟨YI Z.u (zB _) _ _ _ _ _ _,Or.inl ⟨fm,_,HE.u,rfl,vO HV.u (by omega) (by omega) _ _ _ _ _ _⟩⟩
    simp[results,Tryz.results122,go_sem,c0,c1,c2,c3,c4,c5]
  ·have L:=d.qT N (by omega)
   have a0:w.heap.size < w1.heap.size:=by have:=d.size;simp at this;omega
   have HE:Hd (Rt.pLineAll (t::r)=none):=by
    refine zD ?_
    simp only[Z7,Zb]at hs
    rw[Rt.pLineAll,hs]
   have Z:=zD (j.trans (d.toBelow (B:=w.heap.size) (by omega) (by simp <;> omega)))
   obtain⟨c0,c1,c2,c3,c4,c5,f0,f1,f2,f3,f4,f5⟩:=YD L
   clear hr N L d j hs
   go_wp2_with fail
   refine zT (v:=.tuple #[.agg yo,.bool false]) ?_ rfl ⟨(YI Z.u (zB _) _ _ _ _ _ _).alloc (by rw[eO];omega) _,Or.inr ⟨HE.u,rfl⟩⟩
   simp[results,Tryz.results122,go_sem,c0,c1,c2,c3,c4,c5,a0]
namespace Rt
structure PL where
 yY:List Tk
 form:qS
 depth:Int
 opener:Int
 proc:Int
def kb:PL:=⟨[],⟨0,⟨#[]⟩,0,[],[],[]⟩,0,0,0⟩
def rdLine (s:ByteArray):Option PL:=
 match yY s with
 | none=>none
 | some ts=>
  match pLineAll ts with
  | none=>none
  | some fm=>some ⟨ts,fm,0,0,0⟩
def rForms:Nat->List ByteArray->List PL->Nat×List PL
 | _,[],acc=>(0,acc)
 | i,s::r,acc=>
  match rdLine s with
  | none=>(i+1,acc)
  | some pl=>rForms (i+1) r (acc++[pl])
structure Zx where
 line:Nat
 kind:Int
 aB:Bool
def bX (b:Zx):List Value:=[.int .i64 b.line,.int .i64 b.kind,.bool b.aB]
def js (bs:List Zx):List Value:=bs.flatMap bX
theorem kk (d:List Zx) (b:Zx):js (d++[b])=js d++[.int .i64 b.line,.int .i64 b.kind,.bool b.aB]:=by simp[js,bX]
theorem Y5 (bs:List Zx):(js bs).length=bs.length*3:=by
 induction bs with
 | nil=>rfl
 | cons t r ih=>simp only[js,Q0,ze,yE]at ih ⊢;simp[bX]at ih ⊢;omega
def jE (bs:List Zx):Zx:=bs.getLastD ⟨0,0,false⟩
def Yj (bs:List Zx) (kind:Int):Bool:=
 if kind=0 then true
 else if kind=1\/kind=2\/kind=3 then decide (bs=[])
 else if bs=[]then false
 else if kind=6 then decide ((jE bs).kind=5) && !(jE bs).aB
 else true
def qK (bs:List Zx) (n:Nat) (kind:Int):List Zx:=
 if kind=3\/kind=5\/kind=7 then bs++[⟨n,kind,false⟩]
 else if kind=6 then (if bs=[]then []else bs.dropLast++[⟨(jE bs).line,(jE bs).kind,true⟩])
 else if kind=4 then bs.dropLast
 else bs
def kr (bs:List Zx):Zx:=bs.headD ⟨0,0,false⟩
def ym (bs:List Zx) (pl:PL):PL:=
 if bs=[]then pl
 else if pl.form.kind=6\/pl.form.kind=4 then ⟨pl.yY,pl.form,(bs.length:Int)-1,(jE bs).line,(kr bs).line⟩
 else ⟨pl.yY,pl.form,bs.length,pl.opener,(kr bs).line⟩
def nestFrom:List PL->Nat->List Zx->List PL->Nat×List PL×List Zx
 | [],_,bs,acc=>(0,acc,bs)
 | p::r,n,bs,acc=>if Yj bs p.form.kind=true then nestFrom r (n+1) (qK bs n p.form.kind) (acc++[ym bs p])else (n,acc++p::r,bs)
theorem XH (d:List Zx) (p:PL):(ym d p).yY=p.yY/\(ym d p).form=p.form:=by
 unfold ym
 split
 ·exact⟨rfl,rfl⟩
 ·split <;> exact⟨rfl,rfl⟩
theorem sK (f:List Zx) (n:Nat) (d:Int):(qK f n d).length<=f.length+1:=by
 unfold qK
 split
 ·simp
 ·split
  ·split
   ·simp
   ·simp <;> omega
  ·split
   ·simp <;> omega
   ·omega
def zF:qS:=⟨0,⟨#[]⟩,0,[],[],[]⟩
def isDecl (p:PL) (x:ByteArray):Bool:=(decide (p.form.kind=1)|| decide (p.form.kind=2)|| decide (p.form.kind=3)) && decide (p.form.name=x)
def declFrom:Nat->List PL->ByteArray->Nat
 | _,[],_=>0
 | n,p::r,x=>if isDecl p x=true then n else declFrom (n+1) r x
def xb (zL:List PL) (x:ByteArray):Nat:=declFrom 1 (zL.drop 1) x
def yA (zL:List PL) (n:Int):qS:=if n < 0 then zF else (zL[n.toNat]?.map (·.form)).getD zF
def yJ (zL:List PL) (x:ByteArray):qS:=yA zL (xb zL x)
def VS (zL:List PL) (proc:Int) (x:ByteArray):Bool:=(yA zL proc).params.any (fun y=>decide (y=x))
def isVar (zL:List PL) (proc:Int) (x:ByteArray):Bool:=VS zL proc x || decide ((yJ zL x).kind=1)
def ZW (zL:List PL) (proc:Int) (x:ByteArray):Bool:=!VS zL proc x && decide ((yJ zL x).kind=2)
def CS (zL:List PL) (proc:Int) (o:qM):Bool:=if o.code=2 then isVar zL proc o.name else if o.code=3 then ZW zL proc o.name else true
def XP (zL:List PL) (proc:Int) (ops:List qM):Bool:=ops.all (CS zL proc)
def jF (zL:List PL) (p:PL):Bool:=XP zL p.proc p.form.index && p.form.values.all (XP zL p.proc)
structure Small (fm:qS):Prop where
 params:fm.params.length<=4
 index:fm.index.length<=900
 values:fm.values.length<=900
 each:∀o∈fm.values,o.length<=900
 cells:0<=fm.cells/\fm.cells<=32
def XF (zL:List PL) (fm:qS):Bool:=decide ((yJ zL fm.name).kind=3) && decide ((yJ zL fm.name).params.length=fm.values.length)
def bh (ps:List ByteArray) (k:Nat):Prop:=∀i j,j < i->i < k->i < ps.length->¬ps[i]?=ps[j]?
def QN:List UInt8:=[109,97,105,110]
open Classical in
noncomputable def QJ (fm:qS):Bool:=!((fm.name.toList==QN) && decide (0 < fm.params.length)) && decide (bh fm.params fm.params.length)
noncomputable def qh (zL:List PL) (n:Nat) (p:PL):Bool:=
 if p.form.kind=1\/p.form.kind=2 then decide (xb zL p.form.name=n)
 else if p.form.kind=3 then decide (xb zL p.form.name=n) && QJ p.form
 else if p.form.kind=8\/p.form.kind=11 then isVar zL p.proc p.form.name && jF zL p
 else if p.form.kind=9 then ZW zL p.proc p.form.name && jF zL p
 else if p.form.kind=12 then XF zL p.form && jF zL p
 else jF zL p
noncomputable def nameErr (zL:List PL):Nat->List PL->Nat
 | _,[]=>0
 | n,p::r=>if qh zL n p=true then nameErr zL (n+1) r else n
def xP:ByteArray:=⟨#[109,97,105,110]⟩
theorem aJ {zL:List PL} (h:∀p∈zL,Small p.form) (n:Int):(yA zL n).params.length<=1000:=by
 unfold yA
 split
 ·simp[zF]
 ·cases e:zL[n.toNat]? with
  | none=>simp[zF]
  | some p=>
   have:=(h p (qF e)).params
   simp only[Xf,Zn]
   omega
def xy (k:Int):Bool:=decide (k=8)|| decide (k=9)|| decide (k=10)|| decide (k=11)|| decide (k=5)|| decide (k=7)|| decide (k=12)|| decide (k=13)
def xV (zL:List PL) (p:PL):Bool:=if xy p.form.kind=true then true else if p.form.kind=4 then decide ((yA zL p.opener).kind=3)else false
def Dw (pf:List Tk->JX):Prop:=∀rem em r,pf rem=some (em,r)->em.length+r.length<=rem.length
theorem pE {pf:List Tk->JX} (h:Dw pf) (lo hi:Int):∀g,Dw (pLoop pf lo hi g)
 | 0,rem,em,r,e=>by simp[pLoop]at e
 | g+1,[],em,r,e=>by simp[pLoop]at e;obtain⟨rfl,rfl⟩:=e;simp
 | g+1,t::rem,em,r,e=>by
  rw[pLoop]at e
  split at e
  ·cases h1:pf rem with
   | none=>rw[h1]at e;simp at e
   | some x=>
    obtain⟨i,r1⟩:=x
    rw[h1]at e
    simp only at e
    cases h2:pLoop pf lo hi g r1 with
    | none=>rw[h2]at e;simp at e
    | some y=>
     obtain⟨f,d⟩:=y
     rw[h2]at e
     simp at e
     have a:=h _ _ _ h1
     have b:=pE h lo hi g _ _ _ h2
     rw[<-e.1,<-e.2]
     simp
     omega
  ·simp at e
   obtain⟨rfl,rfl⟩:=e
   simp
theorem mO {pf:List Tk->JX} (h:Dw pf) (lo hi:Int):Dw (Xa pf lo hi):=by
 intro rem f r e
 rw[Xa]at e
 cases h1:pf rem with
 | none=>rw[h1]at e;simp at e
 | some x=>
  obtain⟨j,r1⟩:=x
  rw[h1]at e
  simp only at e
  cases h2:pLoop pf lo hi 25 r1 with
  | none=>rw[h2]at e;simp[Yb]at e
  | some y=>
   obtain⟨i,d⟩:=y
   rw[h2]at e
   simp[Yb]at e
   have a:=h _ _ _ h1
   have b:=pE h lo hi 25 _ _ _ h2
   rw[<-e.1,<-e.2]
   simp
   omega
theorem pz {pf:List Tk->JX} (h:Dw pf):Dw (pComp pf):=by
 have d:Dw (VI pf):=mO (mO h 7 9) 5 6
 intro rem i r e
 rw[pComp]at e
 cases h1:VI pf rem with
 | none=>rw[h1]at e;simp at e
 | some x=>
  obtain⟨k,r1⟩:=x
  have a:=d _ _ _ h1
  rw[h1]at e
  cases r1 with
  | nil=>simp at e;obtain⟨rfl,rfl⟩:=e;exact a
  | cons t r1=>
   simp only at e
   split at e
   ·cases h2:VI pf r1 with
    | none=>rw[h2]at e;simp at e
    | some y=>
     obtain⟨j,f⟩:=y
     rw[h2]at e
     simp at e
     have b:=d _ _ _ h2
     rw[<-e.1,<-e.2]
     simp at a ⊢
     omega
   ·simp at e;rw[<-e.1,<-e.2];exact a
theorem gu {last:List qM} {y:JX} {em:List qM} {r:List Tk} (h:closed x last y=some (em,r)):∃e t,y=some (e,t::r)/\em=e++last:=by
 cases y with
 | none=>simp[closed]at h
 | some z=>
  obtain⟨e,r1⟩:=z
  cases r1 with
  | nil=>simp[closed]at h
  | cons t r1=>
   rw[closed]at h
   split at h
   ·simp at h
    exact⟨e,t,by rw[h.2],h.1.symm⟩
   ·cases h
theorem V2:∀f,Dw (yV f)
 | 0,rem,em,r,e=>by simp[yV]at e
 | f+1,[],em,r,e=>by simp[yV]at e
 | f+1,t::rem,em,r,e=>by
  have h:Dw (pComp (yV f)):=pz (V2 f)
  rw[yV]at e
  split at e
  ·cases h1:yV f rem with
   | none=>rw[h1]at e;simp at e
   | some x=>
    obtain⟨i,o⟩:=x
    rw[h1]at e
    simp at e
    have a:=V2 f _ _ _ h1
    rw[<-e.1,<-e.2]
    simp
    omega
  ·split at e
   ·obtain⟨i,j,h1,d⟩:=gu e
    have a:=h _ _ _ h1
    rw[d]
    simp at a ⊢
    omega
   ·split at e
    ·simp at e
     rw[<-e.1,<-e.2]
     simp
     omega
    ·split at e
     ·cases rem with
      | nil=>simp[pVar]at e;obtain⟨rfl,rfl⟩:=e;simp
      | cons j rem=>
       rw[pVar]at e
       split at e
       ·obtain⟨i,k,h1,d⟩:=gu e
        have a:=h _ _ _ h1
        rw[d]
        simp at a ⊢
        omega
       ·simp at e
        rw[<-e.1,<-e.2]
        simp
        omega
     ·cases e
theorem an:Dw Z1:=pz (V2 24)
theorem rN:∀(f:Nat) (acc:List (List qM)) (rem:List Tk) (vs:List (List qM)) (r:List Tk),pArgs f acc rem=some (vs,r)->rem.length<=24->acc.length+f<=25->(∀o∈acc,o.length<=900)->vs.length<=25/\∀o∈vs,o.length<=900
 | 0,_,_,_,_,h,_,_,_=>by simp[pArgs]at h
 | f+1,acc,rem,vs,r,h,h1,h2,h3=>by
  rw[pArgs]at h
  cases e:Z1 rem with
  | none=>rw[e]at h;simp at h
  | some x=>
   obtain⟨i,r1⟩:=x
   rw[e]at h
   simp only at h
   have a:=an _ _ _ e
   have d:∀o∈acc++[i],o.length<=900:=by
    intro o ho
    simp at ho
    rcases ho with ho | rfl
    ·exact h3 o ho
    ·omega
   cases e2:jb ⟨#[44]⟩ r1 with
   | none=>
    rw[e2]at h
    simp at h
    rw[<-h.1]
    exact⟨by simp;omega,d⟩
   | some r2=>
    rw[e2]at h
    simp only at h
    have j:r2.length<=r1.length:=by
     cases r1 with
     | nil=>simp[jb]at e2
     | cons t r1=>simp[jb]at e2;rw[e2.2];simp
    exact rN f (acc++[i]) r2 vs r h (by omega) (by simp;omega) d
theorem fY:∀(rem:List Tk) (acc ps:List ByteArray),jO acc rem=some ps->acc.length<=4->ps.length<=4
 | [],acc,ps,h,h1=>by simp[jO]at h;rw[<-h];exact h1
 | t::r,acc,ps,h,h1=>by
  rw[jO]at h
  split at h
  ·next hc=>exact fY r (acc++[t.text]) ps h (by simp;omega)
  ·cases h
theorem oi {rem r:List Tk} (h:kE rem=some (nm,r)):r.length<=rem.length:=by
 cases rem with
 | nil=>simp[kE]at h
 | cons t rem=>
  rw[kE]at h
  split at h
  ·simp at h;rw[<-h.2];simp
  ·cases h
theorem take_len {rem r:List Tk} (h:jb x rem=some r):r.length<=rem.length:=by
 cases rem with
 | nil=>simp[jb]at h
 | cons t rem=>
  rw[jb]at h
  split at h
  ·simp at h;rw[<-h];simp
  ·cases h
theorem ZS (k:Int) (d:ByteArray) (c:Int) (f:0<=c/\c<=32):Small ⟨k,d,c,[],[],[]⟩:=⟨by simp,by simp,by simp,by simp,f⟩
theorem nr {kind:Int} {ix:List qM} {rem r:List Tk} {fm:qS} (h:pTo kind nm ix rem=some (fm,r)) (i:rem.length<=24) (d:ix.length<=900):Small fm:=by
 rw[pTo]at h
 cases e:jb ⟨#[116,111]⟩ rem with
 | none=>rw[e]at h;simp at h
 | some r1=>
  rw[e]at h
  simp only at h
  have a:=take_len e
  cases e2:Z1 r1 with
  | none=>rw[e2]at h;simp at h
  | some y=>
   obtain⟨j,f⟩:=y
   rw[e2]at h
   simp at h
   have b:=an _ _ _ e2
   rw[<-h.1]
   exact⟨by simp,d,by simp,by simp;omega,by simp⟩
theorem tD {first:ByteArray} {rem r:List Tk} {fm:qS} (h:xY first rem=some (fm,r)) (F:rem.length<=24):Small fm:=by
 have j:∀k,pNamed k rem=some (fm,r)->Small fm:=by
  intro k h
  rw[pNamed]at h
  cases e:kE rem with
  | none=>rw[e]at h;simp at h
  | some x=>obtain⟨o,r1⟩:=x;rw[e]at h;simp at h;rw[<-h.1];exact ZS _ _ _ (by omega)
 have f:∀k,kn k rem=some (fm,r)->Small fm:=by
  intro k h
  rw[kn]at h
  cases e:Z1 rem with
  | none=>rw[e]at h;simp at h
  | some x=>
   obtain⟨H,r1⟩:=x
   rw[e]at h
   simp at h
   have b:=an _ _ _ e
   rw[<-h.1]
   exact⟨by simp,by simp,by simp,by simp;omega,by simp⟩
 have i:∀k:Int,(some ((⟨k,⟨#[]⟩,0,[],[],[]⟩:qS),rem):eG)=some (fm,r)->Small fm:=by
  intro k h
  simp at h
  rw[<-h.1]
  exact ZS _ _ _ (by omega)
 rw[xY]at h
 by_cases h1:(first.toList==[118,97,114])=true
 ·rw[zE h1]at h;exact j _ h
 rw[zA h1]at h
 by_cases h2:(first.toList==[97,114,114,97,121])=true
 ·rw[zE h2,pArray]at h
  cases e:kE rem with
  | none=>rw[e]at h;simp at h
  | some x=>
   obtain⟨o,r1⟩:=x
   rw[e]at h
   simp only at h
   cases e2:XC r1 with
   | none=>rw[e2]at h;simp at h
   | some y=>
    obtain⟨v,r2⟩:=y
    rw[e2]at h
    simp only at h
    split at h
    ·cases h
    ·next hv=>simp at h;rw[<-h.1];exact ZS _ _ _ (by omega)
 rw[zA h2]at h
 by_cases h3:(first.toList==[112,114,111,99])=true
 ·rw[zE h3,pProc]at h
  cases e:kE rem with
  | none=>rw[e]at h;simp at h
  | some x=>
   obtain⟨o,r1⟩:=x
   rw[e]at h
   simp only at h
   cases e2:jO [] r1 with
   | none=>rw[e2]at h;simp at h
   | some ps=>
    rw[e2]at h
    simp at h
    have b:=fY _ _ _ e2 (by simp)
    rw[<-h.1]
    exact⟨by simp;omega,by simp,by simp,by simp,by simp⟩
 rw[zA h3]at h
 by_cases h4:(first.toList==[101,110,100])=true
 ·rw[zE h4]at h;exact i _ h
 rw[zA h4]at h
 by_cases h5:(first.toList==[105,102])=true
 ·rw[zE h5]at h;exact f _ h
 rw[zA h5]at h
 by_cases h6:(first.toList==[101,108,115,101])=true
 ·rw[zE h6]at h;exact i _ h
 rw[zA h6]at h
 by_cases h7:(first.toList==[119,104,105,108,101])=true
 ·rw[zE h7]at h;exact f _ h
 rw[zA h7]at h
 by_cases h8:(first.toList==[115,101,116])=true
 ·rw[zE h8,J6]at h
  cases e:kE rem with
  | none=>rw[e]at h;simp at h
  | some x=>
   obtain⟨o,r1⟩:=x
   rw[e]at h
   simp only at h
   have a:=oi e
   cases e2:jb ⟨#[91]⟩ r1 with
   | none=>rw[e2]at h;exact nr h (by omega) (by simp)
   | some r2=>
    rw[e2]at h
    simp only at h
    have b:=take_len e2
    cases e3:Z1 r2 with
    | none=>rw[e3]at h;simp at h
    | some y=>
     obtain⟨D,r3⟩:=y
     rw[e3]at h
     simp only at h
     have c:=an _ _ _ e3
     cases e4:jb ⟨#[93]⟩ r3 with
     | none=>rw[e4]at h;simp at h
     | some r4=>
      rw[e4]at h
      have d:=take_len e4
      exact nr h (by omega) (by omega)
 rw[zA h8]at h
 by_cases h9:(first.toList==[112,114,105,110,116])=true
 ·rw[zE h9]at h;exact f _ h
 rw[zA h9]at h
 by_cases h10:(first.toList==[114,101,97,100])=true
 ·rw[zE h10]at h;exact j _ h
 rw[zA h10]at h
 by_cases h11:(first.toList==[99,97,108,108])=true
 ·rw[zE h11,pCall]at h
  cases e:kE rem with
  | none=>rw[e]at h;simp at h
  | some x=>
   obtain⟨o,r1⟩:=x
   rw[e]at h
   simp only at h
   have a:=oi e
   cases e2:ZT r1 with
   | none=>rw[e2]at h;simp at h
   | some y=>
    obtain⟨A,r2⟩:=y
    rw[e2]at h
    simp at h
    rw[<-h.1]
    rw[ZT]at e2
    split at e2
    ·simp at e2;obtain⟨rfl,_⟩:=e2;exact ZS _ _ _ (by omega)
    ·obtain⟨G,z⟩:=rN _ _ _ _ _ e2 (by omega) (by simp) (by simp)
     exact⟨by simp,by simp,by simp;omega,z,by simp⟩
 rw[zA h11]at h
 by_cases h12:(first.toList==[114,101,116,117,114,110])=true
 ·rw[zE h12]at h;exact i _ h
 rw[zA h12]at h
 cases h
theorem mw {s:ByteArray} {p:PL} (d:s.size<=40000) (h:rdLine s=some p):Small p.form:=by
 rw[rdLine]at h
 cases e:yY s with
 | none=>rw[e]at h;simp at h
 | some ts=>
  rw[e]at h
  simp only at h
  have f:=(JY d e).1
  cases e2:pLineAll ts with
  | none=>rw[e2]at h;simp at h
  | some fm=>
   rw[e2]at h
   simp at h
   rw[<-h]
   cases ts with
   | nil=>simp[pLineAll]at e2;rw[<-e2];exact ZS _ _ _ (by omega)
   | cons t r=>
    rw[pLineAll]at e2
    cases e3:xY t.text r with
    | none=>rw[e3]at e2;simp at e2
    | some y=>
     obtain⟨i,r'⟩:=y
     rw[e3]at e2
     simp only at e2
     split at e2
     ·simp at e2;rw[<-e2];exact tD e3 (by simp at f;omega)
     ·cases e2
theorem Xn:∀(texts:List ByteArray) (i:Nat) (acc zL:List PL),(∀t∈texts,t.size<=40000)->(∀p∈acc,Small p.form)->rForms i texts acc=(0,zL)->zL.length=acc.length+texts.length/\(∀p∈zL,Small p.form)/\∃rest,zL=acc++rest
 | [],_,acc,zL,_,h2,h=>by simp[rForms]at h;rw[<-h];exact⟨by simp,h2,[],by simp⟩
 | s::r,i,acc,zL,h1,h2,h=>by
  rw[rForms]at h
  cases e:rdLine s with
  | none=>rw[e]at h;simp at h
  | some p=>
   rw[e]at h
   simp only at h
   obtain⟨a,b,rest,c⟩:=Xn r (i+1) (acc++[p]) zL (fun t ht=>h1 t (by simp[ht])) (fun q hq=>by
    simp at hq
    rcases hq with hq | rfl
    ·exact h2 q hq
    ·exact mw (h1 s (by simp)) e) h
   exact⟨by simp at a ⊢;omega,b,p::rest,by rw[c];simp⟩
theorem Vu:∀(rem:List PL) (n:Nat) (bs:List Zx) (acc:List PL) (ls:List PL) (b2:List Zx),(∀p∈acc,Small p.form)->(∀p∈rem,Small p.form)->nestFrom rem n bs acc=(0,ls,b2)->0 < n->ls.length=acc.length+rem.length/\∀p∈ls,Small p.form
 | [],_,_,acc,ls,_,h1,_,h,_=>by simp[nestFrom]at h;rw[<-h.1];exact⟨by simp,h1⟩
 | p::r,n,bs,acc,ls,b2,h1,h2,h,hn=>by
  rw[nestFrom]at h
  split at h
  ·obtain⟨a,b⟩:=Vu r (n+1) _ (acc++[ym bs p]) ls b2 (fun q hq=>by
    simp at hq
    rcases hq with hq | rfl
    ·exact h1 q hq
    ·rw[(XH bs p).2];exact h2 p (by simp)) (fun q hq=>h2 q (by simp[hq])) h (by omega)
   exact⟨by simp at a ⊢;omega,b⟩
  ·simp at h;omega
noncomputable def jV (ls:List PL):Int×Int×List PL:=
 if ¬nameErr ls 1 (ls.drop 1)=0 then (4,nameErr ls 1 (ls.drop 1),[])
 else if ¬(yJ ls xP).kind=3 then (4,0,[])
 else (0,0,ls)
noncomputable def vH (er:Nat) (ls:List PL) (bs:List Zx) (len:Nat):Int×Int×List PL:=
 if ¬er=0 then (3,er,[])else if ¬bs=[]then (3,len,[])else jV ls
noncomputable def Yq (ln:Nat) (zL:List PL) (len:Nat):Int×Int×List PL:=
 if ¬ln=0 then (2,ln,[])
 else vH (nestFrom (zL.drop 1) 1 [] [kb]).1 (nestFrom (zL.drop 1) 1 [] [kb]).2.1 (nestFrom (zL.drop 1) 1 [] [kb]).2.2 len
noncomputable def qx (s:ByteArray):Int×Int×List PL:=
 if ZE s=true then (1,0,[])else Yq (rForms 0 (lines s) [kb]).1 (rForms 0 (lines s) [kb]).2 (lines s).length
end Rt
def kZ (tv:Value) (fv:Array Value) (xe xf:Int) (pl:Rt.PL):List Value:=tv::(fv.toList++[.int .i64 pl.depth,.int .i64 pl.opener,.int .i64 xe,.int .i64 xf,.int .i64 pl.proc])
def Kq (w:World) (B:Nat) (pl:Rt.PL) (c:List Value):Prop:=
 ∃tv fv xe xf,c=kZ tv fv xe xf pl/\w.ownsRow B 188 2 tv pl.yY.length (Rt.qa pl.yY)/\qk w B fv pl.form
def ja (w:World) (B:Nat):List Rt.PL->List (List Value)->Prop
 | [],[]=>True
 | p::ps,c::cs=>Kq w B p c/\ja w B ps cs
 | _,_=>False
def Qc (w w':World) (B B':Nat):Prop:=∀(t:TypeId) (size n:Nat) (v:Value) (xs:List Value),t≠145->w.ownsRow B t size v n xs->w'.ownsRow B' t size v n xs
theorem Qc.exprs {w w':World} {B B':Nat} (d:Qc w w' B B'):∀xs os,qi w B xs os->qi w' B' xs os
 | [],[],_=>trivial
 | _::xs,_::os,⟨h1,h2⟩=>⟨d _ _ _ _ _ (by decide) h1,d.exprs xs os h2⟩
 | [],_::_,h=>h.elim
 | _::_,[],h=>h.elim
theorem Qc.form (d:Qc w w' B B') (h:qk w B v fm):qk w' B' v fm:=by
 obtain⟨i,iv,vv,f,rfl,x,o,k,j⟩:=h
 exact⟨i,iv,vv,f,rfl,d _ _ _ _ _ (by decide) x,d _ _ _ _ _ (by decide) o,d _ _ _ _ _ (by decide) k,d.exprs _ _ j⟩
theorem Qc.line (d:Qc w w' B B') {pl:Rt.PL} (h:Kq w B pl c):Kq w' B' pl c:=by
 obtain⟨tv,fv,i,f,rfl,k,j⟩:=h
 exact⟨tv,fv,i,f,rfl,d _ _ _ _ _ (by decide) k,d.form j⟩
theorem Qc.lines {w w':World} {B B':Nat} (d:Qc w w' B B'):∀ps cs,ja w B ps cs->ja w' B' ps cs
 | [],[],_=>trivial
 | _::ps,_::cs,⟨h1,h2⟩=>⟨d.line h1,d.lines ps cs h2⟩
 | [],_::_,h=>h.elim
 | _::_,[],h=>h.elim
theorem ja.snoc {w:World} {B:Nat} {p:Rt.PL} {c:List Value} (h:Kq w B p c):∀ps cs,ja w B ps cs->ja w B (ps++[p]) (cs++[c])
 | [],[],_=>⟨h,trivial⟩
 | _::ps,_::cs,⟨h1,h2⟩=>⟨h1,ja.snoc h ps cs h2⟩
 | [],_::_,h=>h.elim
 | _::_,[],h=>h.elim
theorem xZ (d:Below w.heap.size w w'):Qc w w' B B:=fun _ _ _ _ _ _ h=>yG h d
structure qH (w:World) (P:Nat) (zL:List Rt.PL) (lv:Value) (cs:List (List Value)):Prop where
 block:w.heap[P]?=some (.cells #[lv] 76 (0,0))
 own:w.ownsRow (P+1) 145 12 lv zL.length cs.flatten
 lines:ja w (P+1) zL cs
theorem qH.zP {P:Nat} {zL:List Rt.PL} {lv:Value} {cs:List (List Value)} (h:qH w P zL lv cs) (d:Below w.heap.size w w'):qH w' P zL lv cs:=
 ⟨zU h.block d,yG h.own d,(xZ d).lines _ _ h.lines⟩
theorem Tryz.C3:(Tryz.prog.info? 145).map (fun i=>(i.zero,i.size,i.bytes))=some (some (.agg #[.slice none 0 0,.int .i64 0,.string ⟨#[]⟩,.int .i64 0,.slice none 0 0,.slice none 0 0,.slice none 0 0,.int .i64 0,.int .i64 0,.int .i64 0,.int .i64 0,.int .i64 0]),12,168):=by kernel_rfl
end Go.Proofs.YthleadfkfnnadaaGreat
