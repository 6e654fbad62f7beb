/- Tidied lines as plain functions: no program, no walk. -/
import Derived.Test.YthleadfkfnnadaaGreatPlainb
set_option maxHeartbeats 4000000
set_option maxRecDepth 100000
set_option linter.unusedSimpArgs false
namespace Go.Proofs.YthleadfkfnnadaaGreat
variable {nm s x:ByteArray} {kind:Int} {t:List ByteArray} {f:Nat}
namespace Rf
theorem QT (h:0 < t.length):xM t=isKind t (first t).toList:=by rw[xM,zA (by omega)]
theorem dr (h:t.length=0):(first t).toList=[]:=by
 have:t=[]:=yu h;subst this;simp[first,ve]
theorem D3 (h:xM t=true) (ht:Xl t=true):2<=t.length:=by
 have d:0 < t.length:=by
  by_cases h0:0 < t.length
  ·exact h0
  ·have:=dr (t:=t) (by omega);simp[Xl,this]at ht
 rw[QT d]at h;unfold Xl at ht;simp only[YC,xw]at ht;rcases ht with (ht | ht)| ht
 ·rw[ht]at h;simp[isKind]at h;omega
 ·rw[ht]at h;simp[isKind,Qn]at h;omega
 ·rw[ht]at h;simp[isKind]at h;omega
theorem Da (h:xM t=true) (ht:((first t).toList==[99,97,108,108])=true):2<=t.length:=by
 rw[xw]at ht;have d:0 < t.length:=by
  by_cases h0:0 < t.length
  ·exact h0
  ·have:=dr (t:=t) (by omega);rw[this]at ht;cases ht
 rw[QT d,ht]at h;simp[isKind,QV]at h;exact h.1
end Rf
section
open Go.RowKit
structure qM where
 code:Int
 number:Int
 name:ByteArray
namespace Rt
abbrev JX:=Option (List qM×List Tk)
def pLoop (pf:List Tk->JX) (lo hi:Int):Nat->List Tk->JX
 | 0,_=>none
 | _+1,[]=>some ([],[])
 | g+1,t::r=>
  if lo<=yI t.text/\yI t.text<=hi then
   match pf r with
   | none=>none
   | some (e,r')=>
    match pLoop pf lo hi g r' with
    | none=>none
    | some (e',r'')=>some (e++⟨yI t.text,0,⟨#[]⟩⟩::e',r'')
  else some ([],t::r)
def Yb (em:List qM):JX->JX
 | none=>none
 | some (e,r)=>some (em++e,r)
def Xa (pf:List Tk->JX) (lo hi:Int) (rem:List Tk):JX:=
 match pf rem with
 | none=>none
 | some (e,r)=>Yb e (pLoop pf lo hi 25 r)
def VQ (pf:List Tk->JX):List Tk->JX:=Xa pf 7 9
def VI (pf:List Tk->JX):List Tk->JX:=Xa (VQ pf) 5 6
def pComp (pf:List Tk->JX) (rem:List Tk):JX:=
 match VI pf rem with
 | none=>none
 | some (e,[])=>some (e,[])
 | some (e,t::r)=>
  if 10<=yI t.text/\yI t.text<=11 then
   match VI pf r with
   | none=>none
   | some (e',r')=>some (e++e'++[⟨yI t.text,0,⟨#[]⟩⟩],r')
  else some (e,t::r)
def closed (x:ByteArray) (last:List qM):JX->JX
 | none=>none
 | some (_,[])=>none
 | some (e,t::r)=>if t.text=x then some (e++last,r)else none
def pVar (pc:List Tk->JX) (name:ByteArray):List Tk->JX
 | []=>some ([⟨2,0,name⟩],[])
 | t::r=>if t.text=⟨#[91]⟩then closed ⟨#[93]⟩ [⟨3,0,name⟩] (pc r)else some ([⟨2,0,name⟩],t::r)
def yV:Nat->List Tk->JX
 | 0,_=>none
 | _+1,[]=>none
 | f+1,t::r=>
  if t.text=⟨#[45]⟩then
   match yV f r with
   | none=>none
   | some (e,r')=>some (e++[⟨4,0,⟨#[]⟩⟩],r')
  else if t.text=⟨#[40]⟩then closed ⟨#[41]⟩ [] (pComp (yV f) r)
  else if t.kind=2 then some ([⟨1,val t.text,⟨#[]⟩⟩],r)
  else if t.kind=1/\aL t.text=false then pVar (pComp (yV f)) t.text r
  else none
def Z1 (rem:List Tk):JX:=pComp (yV 24) rem
structure qS where
 kind:Int
 name:ByteArray
 cells:Int
 params:List ByteArray
 index:List qM
 values:List (List qM)
def kE:List Tk->Option (ByteArray×List Tk)
 | []=>none
 | t::r=>if t.kind=1/\aL t.text=false then some (t.text,r)else none
abbrev eG:=Option (qS×List Tk)
def pNamed (kind:Int) (rem:List Tk):eG:=
 match kE rem with
 | none=>none
 | some (nm,r)=>some (⟨kind,nm,0,[],[],[]⟩,r)
def kn (kind:Int) (rem:List Tk):eG:=
 match Z1 rem with
 | none=>none
 | some (e,r)=>some (⟨kind,⟨#[]⟩,0,[],[],[e]⟩,r)
def XC:List Tk->Option (Int×List Tk)
 | []=>none
 | t::r=>if t.kind=2 then some (val t.text,r)else none
def pArray (rem:List Tk):eG:=
 match kE rem with
 | none=>none
 | some (nm,r)=>
  match XC r with
  | none=>none
  | some (v,r')=>if v < 1\/32 < v then none else some (⟨2,nm,v,[],[],[]⟩,r')
def jO (acc:List ByteArray):List Tk->Option (List ByteArray)
 | []=>some acc
 | t::r=>if (t.kind=1/\aL t.text=false)/\acc.length < 4 then jO (acc++[t.text]) r else none
def pProc (rem:List Tk):eG:=
 match kE rem with
 | none=>none
 | some (nm,r)=>
  match jO [] r with
  | none=>none
  | some ps=>some (⟨3,nm,0,ps,[],[]⟩,[])
def jb (x:ByteArray):List Tk->Option (List Tk)
 | []=>none
 | t::r=>if t.text=x then some r else none
def pTo (kind:Int) (nm:ByteArray) (ix:List qM) (rem:List Tk):eG:=
 match jb ⟨#[116,111]⟩ rem with
 | none=>none
 | some r=>
  match Z1 r with
  | none=>none
  | some (e,r')=>some (⟨kind,nm,0,[],ix,[e]⟩,r')
def J6 (rem:List Tk):eG:=
 match kE rem with
 | none=>none
 | some (nm,r)=>
  match jb ⟨#[91]⟩ r with
  | none=>pTo 8 nm [] r
  | some r1=>
   match Z1 r1 with
   | none=>none
   | some (ix,r2)=>
    match jb ⟨#[93]⟩ r2 with
    | none=>none
    | some r3=>pTo 9 nm ix r3
theorem uK {ix:List qM} {rem:List Tk} (h:jb ⟨#[116,111]⟩ rem=none):pTo kind nm ix rem=none:=by rw[pTo,h]
theorem FM {ix:List qM} {rem r:List Tk} (h:jb ⟨#[116,111]⟩ rem=some r) (d:Z1 r=none):pTo kind nm ix rem=none:=by rw[pTo,h];simp only;rw[d]
theorem FK {ix e:List qM} {rem r r':List Tk} (h:jb ⟨#[116,111]⟩ rem=some r) (d:Z1 r=some (e,r')):pTo kind nm ix rem=some (⟨kind,nm,0,[],ix,[e]⟩,r'):=by rw[pTo,h];simp only;rw[d]
theorem B4 {rem r:List Tk} {x:eG} (h:kE rem=some (nm,r)) (f:jb ⟨#[91]⟩ r=none) (d:pTo 8 nm [] r=x):J6 rem=x:=by rw[J6,h];simp only;rw[f];exact d
theorem B3 {rem r r1 r2 r3:List Tk} {ix:List qM} {x:eG} (h:kE rem=some (nm,r)) (j:jb ⟨#[91]⟩ r=some r1) (i:Z1 r1=some (ix,r2)) (f:jb ⟨#[93]⟩ r2=some r3) (d:pTo 9 nm ix r3=x):J6 rem=x:=by
 rw[J6,h];simp only;rw[j];simp only;rw[i];simp only;rw[f];exact d
theorem Ga {rem r r1 r2:List Tk} {ix:List qM} (h:kE rem=some (nm,r)) (i:jb ⟨#[91]⟩ r=some r1) (f:Z1 r1=some (ix,r2)) (d:jb ⟨#[93]⟩ r2=none):J6 rem=none:=by
 rw[J6,h];simp only;rw[i];simp only;rw[f];simp only;rw[d]
theorem GZ {rem r r1:List Tk} (h:kE rem=some (nm,r)) (f:jb ⟨#[91]⟩ r=some r1) (d:Z1 r1=none):J6 rem=none:=by
 rw[J6,h];simp only;rw[f];simp only;rw[d]
def pArgs:Nat->List (List qM)->List Tk->Option (List (List qM)×List Tk)
 | 0,_,_=>none
 | f+1,acc,rem=>
  match Z1 rem with
  | none=>none
  | some (e,r)=>
   match jb ⟨#[44]⟩ r with
   | none=>some (acc++[e],r)
   | some r'=>pArgs f (acc++[e]) r'
def ZT (r:List Tk):Option (List (List qM)×List Tk):=if r=[]then some ([],r)else pArgs 25 [] r
def pCall (rem:List Tk):eG:=
 match kE rem with
 | none=>none
 | some (nm,r)=>
  match ZT r with
  | none=>none
  | some (vs,r')=>some (⟨12,nm,0,[],[],vs⟩,r')
theorem BT {acc:List (List qM)} {rem:List Tk} (h:Z1 rem=none):pArgs (f+1) acc rem=none:=by rw[pArgs,h]
theorem BS {acc:List (List qM)} {rem r:List Tk} {e:List qM} (h:Z1 rem=some (e,r)) (d:jb ⟨#[44]⟩ r=none):pArgs (f+1) acc rem=some (acc++[e],r):=by rw[pArgs,h];simp only;rw[d]
theorem BU {acc:List (List qM)} {rem r r':List Tk} {e:List qM} (h:Z1 rem=some (e,r)) (d:jb ⟨#[44]⟩ r=some r'):pArgs (f+1) acc rem=pArgs f (acc++[e]) r':=by rw[pArgs,h];simp only;rw[d]
theorem BO {rem r:List Tk} (h:kE rem=some (nm,r)) (d:ZT r=none):pCall rem=none:=by rw[pCall,h];simp only;rw[d]
theorem BN {rem r r':List Tk} {vs:List (List qM)} (h:kE rem=some (nm,r)) (d:ZT r=some (vs,r')):pCall rem=some (⟨12,nm,0,[],[],vs⟩,r'):=by rw[pCall,h];simp only;rw[d]
def xY (first:ByteArray) (rem:List Tk):eG:=
 if first.toList==[118,97,114]then pNamed 1 rem
 else if first.toList==[97,114,114,97,121]then pArray rem
 else if first.toList==[112,114,111,99]then pProc rem
 else if first.toList==[101,110,100]then some (⟨4,⟨#[]⟩,0,[],[],[]⟩,rem)
 else if first.toList==[105,102]then kn 5 rem
 else if first.toList==[101,108,115,101]then some (⟨6,⟨#[]⟩,0,[],[],[]⟩,rem)
 else if first.toList==[119,104,105,108,101]then kn 7 rem
 else if first.toList==[115,101,116]then J6 rem
 else if first.toList==[112,114,105,110,116]then kn 10 rem
 else if first.toList==[114,101,97,100]then pNamed 11 rem
 else if first.toList==[99,97,108,108]then pCall rem
 else if first.toList==[114,101,116,117,114,110]then some (⟨13,⟨#[]⟩,0,[],[],[]⟩,rem)
 else none
def pLineAll:List Tk->Option qS
 | []=>some ⟨0,⟨#[]⟩,0,[],[],[]⟩
 | t::r=>
  match xY t.text r with
  | none=>none
  | some (fm,r')=>if r'=[]then some fm else none
theorem Y9:∀(ts:List Tk) (i:Nat) (h:i < ts.length),(qa ts)[i*2]?=some (.int .i64 ts[i].kind)/\(qa ts)[i*2+1]?=some (.string ts[i].text)
 | [],i,h=>by simp at h
 | t::r,0,_=>by simp[qa,eK]
 | t::r,i+1,h=>by
  have d:=Y9 r i (by simpa using h);have e:qa (t::r)=[Value.int .i64 t.kind,Value.string t.text]++qa r:=by simp[qa,eK]
  have f:(i+1)*2=i*2+2:=by omega
  rw[e,f];simpa using d
theorem X6 (s:ByteArray) (d:s.size<=40000):∀(f a:Nat) (acc ts:List Tk),acc.length<=24->(∀t∈acc,t.text.size<=40000)->toksFrom s f a acc=some ts->ts.length<=24/\∀t∈ts,t.text.size<=40000
 | 0,_,_,_,_,_,h=>by simp[toksFrom]at h
 | f+1,a,acc,ts,h1,h2,h=>by
  rw[toksFrom]at h;split at h
  ·split at h
   ·exact X6 s d f _ _ _ h1 h2 h
   ·split at h
    ·cases h
    ·next hc=>
     refine X6 s d f _ _ _ (by simp;omega) ?_ h;intro t ht;simp at ht;rcases ht with ht | rfl
     ·exact h2 t ht
     ·simp[kV];omega
  ·simp at h;subst h;exact⟨h1,h2⟩
theorem JY {ts:List Tk} (d:s.size<=40000) (h:yY s=some ts):ts.length<=24/\∀t∈ts,t.text.size<=40000:=
 X6 s d _ _ _ _ (by simp) (by simp) h
theorem Xc (s:ByteArray) (d:s.size<=40000):∀(f a i:Nat) (acc:List ByteArray),(∀t∈acc,t.size<=40000)->(∀t∈linesFrom s f a i acc,t.size<=40000)
 | 0,_,_,acc,h=>by simpa[linesFrom] using h
 | f+1,a,i,acc,h=>by
  rw[linesFrom];split
  ·split
   ·refine Xc s d f _ _ _ ?_;intro t ht;simp at ht;rcases ht with ht | rfl
    ·exact h t ht
    ·simp[kV];omega
   ·exact Xc s d f _ _ _ h
  ·intro t ht;simp at ht;rcases ht with ht | rfl
   ·exact h t ht
   ·simp[kV];omega
theorem YM (d:s.size<=40000):∀t∈lines s,t.size<=40000:=Xc s d _ _ _ _ (by simp)
theorem Q4 (s:ByteArray):∀(f a i:Nat) (acc:List ByteArray),i<=s.size->s.size < f+i->(linesFrom s f a i acc).length+nls s i=acc.length+1+nls s s.size
 | 0,_,_,_,h,h2=>by omega
 | f+1,a,i,acc,h,h2=>by
  rw[linesFrom];split
  ·next hlt=>
   have d:nls s (i+1)=nls s i+(if qC s i=10 then 1 else 0):=rfl;split
   ·next hb=>
    have:=Q4 s f (i+1) (i+1) (acc++[s.extract a i]) (by omega) (by omega);rw[zE hb]at d;simp at this;omega
   ·next hb=>
    have:=Q4 s f a (i+1) acc (by omega) (by omega);rw[zA hb]at d;omega
  ·have:i=s.size:=by omega
   subst this;simp
theorem ch (s:ByteArray):(lines s).length=1+nls s s.size:=by
 have:=Q4 s (s.size+1) 0 0 [] (by omega) (by omega);simp[nls]at this;rw[lines];omega
structure PL where
 yY:List Tk
 form:qS
 depth:Int
 opener:Int
 proc:Int
def kb:PL:=⟨[],⟨0,⟨#[]⟩,0,[],[],[]⟩,0,0,0⟩
def rdLine (s:ByteArray):Option PL:=
 match yY s with
 | none=>none
 | some ts=>
  match pLineAll ts with
  | none=>none
  | some fm=>some ⟨ts,fm,0,0,0⟩
def rForms:Nat->List ByteArray->List PL->Nat×List PL
 | _,[],acc=>(0,acc)
 | i,s::r,acc=>
  match rdLine s with
  | none=>(i+1,acc)
  | some pl=>rForms (i+1) r (acc++[pl])
structure Zx where
 line:Nat
 kind:Int
 aB:Bool
def bX (b:Zx):List Value:=[.int .i64 b.line,.int .i64 b.kind,.bool b.aB]
def js (bs:List Zx):List Value:=bs.flatMap bX
theorem kk {bs:List Zx} {b:Zx}:js (bs++[b])=js bs++[.int .i64 b.line,.int .i64 b.kind,.bool b.aB]:=by simp[js,bX]
theorem Y5 (bs:List Zx):(js bs).length=bs.length*3:=by
 induction bs with
 | nil=>rfl
 | cons t r ih=>simp only[js,Q0,ze,yE]at ih ⊢;simp[bX]at ih ⊢;omega
def jE (bs:List Zx):Zx:=bs.getLastD ⟨0,0,false⟩
def Yj (bs:List Zx) (kind:Int):Bool:=
 if kind=0 then true
 else if kind=1\/kind=2\/kind=3 then decide (bs=[])
 else if bs=[]then false
 else if kind=6 then decide ((jE bs).kind=5) && !(jE bs).aB
 else true
def qK (bs:List Zx) (n:Nat) (kind:Int):List Zx:=
 if kind=3\/kind=5\/kind=7 then bs++[⟨n,kind,false⟩]
 else if kind=6 then (if bs=[]then []else bs.dropLast++[⟨(jE bs).line,(jE bs).kind,true⟩])
 else if kind=4 then bs.dropLast
 else bs
def kr (bs:List Zx):Zx:=bs.headD ⟨0,0,false⟩
def ym (bs:List Zx) (pl:PL):PL:=
 if bs=[]then pl
 else if pl.form.kind=6\/pl.form.kind=4 then ⟨pl.yY,pl.form,(bs.length:Int)-1,(jE bs).line,(kr bs).line⟩
 else ⟨pl.yY,pl.form,bs.length,pl.opener,(kr bs).line⟩
def nestFrom:List PL->Nat->List Zx->List PL->Nat×List PL×List Zx
 | [],_,bs,acc=>(0,acc,bs)
 | p::r,n,bs,acc=>if Yj bs p.form.kind=true then nestFrom r (n+1) (qK bs n p.form.kind) (acc++[ym bs p])else (n,acc++p::r,bs)
theorem XH (d:List Zx) (p:PL):(ym d p).yY=p.yY/\(ym d p).form=p.form:=by
 unfold ym;split
 ·exact⟨rfl,rfl⟩
 ·split <;> exact⟨rfl,rfl⟩
theorem sK (f:List Zx) (n:Nat) (d:Int):(qK f n d).length<=f.length+1:=by
 unfold qK;split
 ·simp
 ·split
  ·split
   ·simp
   ·simp <;> omega
  ·split
   ·simp <;> omega
   ·omega
def zF:qS:=⟨0,⟨#[]⟩,0,[],[],[]⟩
def isDecl (p:PL) (x:ByteArray):Bool:=(decide (p.form.kind=1)|| decide (p.form.kind=2)|| decide (p.form.kind=3)) && decide (p.form.name=x)
def declFrom:Nat->List PL->ByteArray->Nat
 | _,[],_=>0
 | n,p::r,x=>if isDecl p x=true then n else declFrom (n+1) r x
def xb (zL:List PL) (x:ByteArray):Nat:=declFrom 1 (zL.drop 1) x
def yA (zL:List PL) (n:Int):qS:=if n < 0 then zF else (zL[n.toNat]?.map (·.form)).getD zF
def yJ (zL:List PL) (x:ByteArray):qS:=yA zL (xb zL x)
def VS (zL:List PL) (proc:Int) (x:ByteArray):Bool:=(yA zL proc).params.any (fun y=>decide (y=x))
def isVar (zL:List PL) (proc:Int) (x:ByteArray):Bool:=VS zL proc x || decide ((yJ zL x).kind=1)
def ZW (zL:List PL) (proc:Int) (x:ByteArray):Bool:=!VS zL proc x && decide ((yJ zL x).kind=2)
def CS (zL:List PL) (proc:Int) (o:qM):Bool:=if o.code=2 then isVar zL proc o.name else if o.code=3 then ZW zL proc o.name else true
def XP (zL:List PL) (proc:Int) (ops:List qM):Bool:=ops.all (CS zL proc)
def jF (zL:List PL) (p:PL):Bool:=XP zL p.proc p.form.index && p.form.values.all (XP zL p.proc)
structure Small (fm:qS):Prop where
 params:fm.params.length<=4
 index:fm.index.length<=900
 values:fm.values.length<=900
 each:∀o∈fm.values,o.length<=900
 cells:0<=fm.cells/\fm.cells<=32
def XF (zL:List PL) (fm:qS):Bool:=decide ((yJ zL fm.name).kind=3) && decide ((yJ zL fm.name).params.length=fm.values.length)
def bh (ps:List ByteArray) (k:Nat):Prop:=∀i j,j < i->i < k->i < ps.length->¬ps[i]?=ps[j]?
def QN:List UInt8:=[109,97,105,110]
open Classical in
noncomputable def QJ (fm:qS):Bool:=!((fm.name.toList==QN) && decide (0 < fm.params.length)) && decide (bh fm.params fm.params.length)
noncomputable def qh (zL:List PL) (n:Nat) (p:PL):Bool:=
 if p.form.kind=1\/p.form.kind=2 then decide (xb zL p.form.name=n)
 else if p.form.kind=3 then decide (xb zL p.form.name=n) && QJ p.form
 else if p.form.kind=8\/p.form.kind=11 then isVar zL p.proc p.form.name && jF zL p
 else if p.form.kind=9 then ZW zL p.proc p.form.name && jF zL p
 else if p.form.kind=12 then XF zL p.form && jF zL p
 else jF zL p
noncomputable def nameErr (zL:List PL):Nat->List PL->Nat
 | _,[]=>0
 | n,p::r=>if qh zL n p=true then nameErr zL (n+1) r else n
def xP:ByteArray:=⟨#[109,97,105,110]⟩
theorem aJ {zL:List PL} (h:∀p∈zL,Small p.form) (n:Int):(yA zL n).params.length<=1000:=by
 unfold yA;split
 ·simp[zF]
 ·cases e:zL[n.toNat]? with
  | none=>simp[zF]
  | some p=>
   have:=(h p (qF e)).params;simp only[Xf,Zn];omega
def xy (k:Int):Bool:=decide (k=8)|| decide (k=9)|| decide (k=10)|| decide (k=11)|| decide (k=5)|| decide (k=7)|| decide (k=12)|| decide (k=13)
def xV (zL:List PL) (p:PL):Bool:=if xy p.form.kind=true then true else if p.form.kind=4 then decide ((yA zL p.opener).kind=3)else false
def Dw (pf:List Tk->JX):Prop:=∀rem em r,pf rem=some (em,r)->em.length+r.length<=rem.length
theorem pE {pf:List Tk->JX} (h:Dw pf) (lo hi:Int):∀g,Dw (pLoop pf lo hi g)
 | 0,rem,em,r,e=>by simp[pLoop]at e
 | g+1,[],em,r,e=>by simp[pLoop]at e;obtain⟨rfl,rfl⟩:=e;simp
 | g+1,t::rem,em,r,e=>by
  rw[pLoop]at e;split at e
  ·cases h1:pf rem with
   | none=>rw[h1]at e;simp at e
   | some x=>
    obtain⟨i,r1⟩:=x;rw[h1]at e;simp only at e;cases h2:pLoop pf lo hi g r1 with
    | none=>rw[h2]at e;simp at e
    | some y=>
     obtain⟨f,d⟩:=y;rw[h2]at e;simp at e;have a:=h _ _ _ h1;have b:=pE h lo hi g _ _ _ h2;rw[<-e.1,<-e.2];simp;omega
  ·simp at e;obtain⟨rfl,rfl⟩:=e;simp
theorem mO {pf:List Tk->JX} (h:Dw pf) (lo hi:Int):Dw (Xa pf lo hi):=by
 intro rem f r e;rw[Xa]at e;cases h1:pf rem with
 | none=>rw[h1]at e;simp at e
 | some x=>
  obtain⟨j,r1⟩:=x;rw[h1]at e;simp only at e;cases h2:pLoop pf lo hi 25 r1 with
  | none=>rw[h2]at e;simp[Yb]at e
  | some y=>
   obtain⟨i,d⟩:=y;rw[h2]at e;simp[Yb]at e;have a:=h _ _ _ h1;have b:=pE h lo hi 25 _ _ _ h2;rw[<-e.1,<-e.2];simp;omega
theorem pz {pf:List Tk->JX} (h:Dw pf):Dw (pComp pf):=by
 have d:Dw (VI pf):=mO (mO h 7 9) 5 6;intro rem i r e;rw[pComp]at e;cases h1:VI pf rem with
 | none=>rw[h1]at e;simp at e
 | some x=>
  obtain⟨k,r1⟩:=x;have a:=d _ _ _ h1;rw[h1]at e;cases r1 with
  | nil=>simp at e;obtain⟨rfl,rfl⟩:=e;exact a
  | cons t r1=>
   simp only at e;split at e
   ·cases h2:VI pf r1 with
    | none=>rw[h2]at e;simp at e
    | some y=>
     obtain⟨j,f⟩:=y;rw[h2]at e;simp at e;have b:=d _ _ _ h2;rw[<-e.1,<-e.2];simp at a ⊢;omega
   ·simp at e;rw[<-e.1,<-e.2];exact a
theorem gu {last:List qM} {y:JX} {em:List qM} {r:List Tk} (h:closed x last y=some (em,r)):∃e t,y=some (e,t::r)/\em=e++last:=by
 cases y with
 | none=>simp[closed]at h
 | some z=>
  obtain⟨e,r1⟩:=z;cases r1 with
  | nil=>simp[closed]at h
  | cons t r1=>
   rw[closed]at h;split at h
   ·simp at h;exact⟨e,t,by rw[h.2],h.1.symm⟩
   ·cases h
theorem V2:∀f,Dw (yV f)
 | 0,rem,em,r,e=>by simp[yV]at e
 | f+1,[],em,r,e=>by simp[yV]at e
 | f+1,t::rem,em,r,e=>by
  have h:Dw (pComp (yV f)):=pz (V2 f);rw[yV]at e;split at e
  ·cases h1:yV f rem with
   | none=>rw[h1]at e;simp at e
   | some x=>
    obtain⟨i,o⟩:=x;rw[h1]at e;simp at e;have a:=V2 f _ _ _ h1;rw[<-e.1,<-e.2];simp;omega
  ·split at e
   ·obtain⟨i,j,h1,d⟩:=gu e;have a:=h _ _ _ h1;rw[d];simp at a ⊢;omega
   ·split at e
    ·simp at e;rw[<-e.1,<-e.2];simp;omega
    ·split at e
     ·cases rem with
      | nil=>simp[pVar]at e;obtain⟨rfl,rfl⟩:=e;simp
      | cons j rem=>
       rw[pVar]at e;split at e
       ·obtain⟨i,k,h1,d⟩:=gu e;have a:=h _ _ _ h1;rw[d];simp at a ⊢;omega
       ·simp at e;rw[<-e.1,<-e.2];simp;omega
     ·cases e
theorem an:Dw Z1:=pz (V2 24)
theorem rN:∀(f:Nat) (acc:List (List qM)) (rem:List Tk) (vs:List (List qM)) (r:List Tk),pArgs f acc rem=some (vs,r)->rem.length<=24->acc.length+f<=25->(∀o∈acc,o.length<=900)->vs.length<=25/\∀o∈vs,o.length<=900
 | 0,_,_,_,_,h,_,_,_=>by simp[pArgs]at h
 | f+1,acc,rem,vs,r,h,h1,h2,h3=>by
  rw[pArgs]at h;cases e:Z1 rem with
  | none=>rw[e]at h;simp at h
  | some x=>
   obtain⟨i,r1⟩:=x;rw[e]at h;simp only at h;have a:=an _ _ _ e;have d:∀o∈acc++[i],o.length<=900:=by
    intro o ho;simp at ho;rcases ho with ho | rfl
    ·exact h3 o ho
    ·omega
   cases e2:jb ⟨#[44]⟩ r1 with
   | none=>
    rw[e2]at h;simp at h;rw[<-h.1];exact⟨by simp;omega,d⟩
   | some r2=>
    rw[e2]at h;simp only at h;have j:r2.length<=r1.length:=by
     cases r1 with
     | nil=>simp[jb]at e2
     | cons t r1=>simp[jb]at e2;rw[e2.2];simp
    exact rN f (acc++[i]) r2 vs r h (by omega) (by simp;omega) d
theorem fY:∀(rem:List Tk) (acc ps:List ByteArray),jO acc rem=some ps->acc.length<=4->ps.length<=4
 | [],acc,ps,h,h1=>by simp[jO]at h;rw[<-h];exact h1
 | t::r,acc,ps,h,h1=>by
  rw[jO]at h;split at h
  ·next hc=>exact fY r (acc++[t.text]) ps h (by simp;omega)
  ·cases h
theorem oi {rem r:List Tk} (h:kE rem=some (nm,r)):r.length<=rem.length:=by
 cases rem with
 | nil=>simp[kE]at h
 | cons t rem=>
  rw[kE]at h;split at h
  ·simp at h;rw[<-h.2];simp
  ·cases h
theorem take_len {rem r:List Tk} (h:jb x rem=some r):r.length<=rem.length:=by
 cases rem with
 | nil=>simp[jb]at h
 | cons t rem=>
  rw[jb]at h;split at h
  ·simp at h;rw[<-h];simp
  ·cases h
theorem ZS {k:Int} {c:Int} (d:0<=c/\c<=32):Small ⟨k,nm,c,[],[],[]⟩:=⟨by simp,by simp,by simp,by simp,d⟩
theorem nr {ix:List qM} {rem r:List Tk} {fm:qS} (h:pTo kind nm ix rem=some (fm,r)) (i:rem.length<=24) (d:ix.length<=900):Small fm:=by
 rw[pTo]at h;cases e:jb ⟨#[116,111]⟩ rem with
 | none=>rw[e]at h;simp at h
 | some r1=>
  rw[e]at h;simp only at h;have a:=take_len e;cases e2:Z1 r1 with
  | none=>rw[e2]at h;simp at h
  | some y=>
   obtain⟨j,f⟩:=y;rw[e2]at h;simp at h;have b:=an _ _ _ e2;rw[<-h.1];exact⟨by simp,d,by simp,by simp;omega,by simp⟩
theorem tD {first:ByteArray} {rem r:List Tk} {fm:qS} (h:xY first rem=some (fm,r)) (F:rem.length<=24):Small fm:=by
 have j:∀k,pNamed k rem=some (fm,r)->Small fm:=by
  intro k h;rw[pNamed]at h;cases e:kE rem with
  | none=>rw[e]at h;simp at h
  | some x=>obtain⟨o,r1⟩:=x;rw[e]at h;simp at h;rw[<-h.1];exact ZS (by omega)
 have f:∀k,kn k rem=some (fm,r)->Small fm:=by
  intro k h;rw[kn]at h;cases e:Z1 rem with
  | none=>rw[e]at h;simp at h
  | some x=>
   obtain⟨H,r1⟩:=x;rw[e]at h;simp at h;have b:=an _ _ _ e;rw[<-h.1];exact⟨by simp,by simp,by simp,by simp;omega,by simp⟩
 have i:∀k:Int,(some ((⟨k,⟨#[]⟩,0,[],[],[]⟩:qS),rem):eG)=some (fm,r)->Small fm:=by
  intro k h;simp at h;rw[<-h.1];exact ZS (by omega)
 rw[xY]at h;by_cases h1:(first.toList==[118,97,114])=true
 ·rw[zE h1]at h;exact j _ h
 rw[zA h1]at h;by_cases h2:(first.toList==[97,114,114,97,121])=true
 ·rw[zE h2,pArray]at h;cases e:kE rem with
  | none=>rw[e]at h;simp at h
  | some x=>
   obtain⟨o,r1⟩:=x;rw[e]at h;simp only at h;cases e2:XC r1 with
   | none=>rw[e2]at h;simp at h
   | some y=>
    obtain⟨v,r2⟩:=y;rw[e2]at h;simp only at h;split at h
    ·cases h
    ·next hv=>simp at h;rw[<-h.1];exact ZS (by omega)
 rw[zA h2]at h;by_cases h3:(first.toList==[112,114,111,99])=true
 ·rw[zE h3,pProc]at h;cases e:kE rem with
  | none=>rw[e]at h;simp at h
  | some x=>
   obtain⟨o,r1⟩:=x;rw[e]at h;simp only at h;cases e2:jO [] r1 with
   | none=>rw[e2]at h;simp at h
   | some ps=>
    rw[e2]at h;simp at h;have b:=fY _ _ _ e2 (by simp);rw[<-h.1];exact⟨by simp;omega,by simp,by simp,by simp,by simp⟩
 rw[zA h3]at h;by_cases h4:(first.toList==[101,110,100])=true
 ·rw[zE h4]at h;exact i _ h
 rw[zA h4]at h;by_cases h5:(first.toList==[105,102])=true
 ·rw[zE h5]at h;exact f _ h
 rw[zA h5]at h;by_cases h6:(first.toList==[101,108,115,101])=true
 ·rw[zE h6]at h;exact i _ h
 rw[zA h6]at h;by_cases h7:(first.toList==[119,104,105,108,101])=true
 ·rw[zE h7]at h;exact f _ h
 rw[zA h7]at h;by_cases h8:(first.toList==[115,101,116])=true
 ·rw[zE h8,J6]at h;cases e:kE rem with
  | none=>rw[e]at h;simp at h
  | some x=>
   obtain⟨o,r1⟩:=x;rw[e]at h;simp only at h;have a:=oi e;cases e2:jb ⟨#[91]⟩ r1 with
   | none=>rw[e2]at h;exact nr h (by omega) (by simp)
   | some r2=>
    rw[e2]at h;simp only at h;have b:=take_len e2;cases e3:Z1 r2 with
    | none=>rw[e3]at h;simp at h
    | some y=>
     obtain⟨D,r3⟩:=y;rw[e3]at h;simp only at h;have c:=an _ _ _ e3;cases e4:jb ⟨#[93]⟩ r3 with
     | none=>rw[e4]at h;simp at h
     | some r4=>
      rw[e4]at h;have d:=take_len e4;exact nr h (by omega) (by omega)
 rw[zA h8]at h;by_cases h9:(first.toList==[112,114,105,110,116])=true
 ·rw[zE h9]at h;exact f _ h
 rw[zA h9]at h;by_cases h10:(first.toList==[114,101,97,100])=true
 ·rw[zE h10]at h;exact j _ h
 rw[zA h10]at h;by_cases h11:(first.toList==[99,97,108,108])=true
 ·rw[zE h11,pCall]at h;cases e:kE rem with
  | none=>rw[e]at h;simp at h
  | some x=>
   obtain⟨o,r1⟩:=x;rw[e]at h;simp only at h;have a:=oi e;cases e2:ZT r1 with
   | none=>rw[e2]at h;simp at h
   | some y=>
    obtain⟨A,r2⟩:=y;rw[e2]at h;simp at h;rw[<-h.1];rw[ZT]at e2;split at e2
    ·simp at e2;obtain⟨rfl,_⟩:=e2;exact ZS (by omega)
    ·obtain⟨G,z⟩:=rN _ _ _ _ _ e2 (by omega) (by simp) (by simp);exact⟨by simp,by simp,by simp;omega,z,by simp⟩
 rw[zA h11]at h;by_cases h12:(first.toList==[114,101,116,117,114,110])=true
 ·rw[zE h12]at h;exact i _ h
 rw[zA h12]at h;cases h
theorem mw {p:PL} (d:s.size<=40000) (h:rdLine s=some p):Small p.form:=by
 rw[rdLine]at h;cases e:yY s with
 | none=>rw[e]at h;simp at h
 | some ts=>
  rw[e]at h;simp only at h;have f:=(JY d e).1;cases e2:pLineAll ts with
  | none=>rw[e2]at h;simp at h
  | some fm=>
   rw[e2]at h;simp at h;rw[<-h];cases ts with
   | nil=>simp[pLineAll]at e2;rw[<-e2];exact ZS (by omega)
   | cons t r=>
    rw[pLineAll]at e2;cases e3:xY t.text r with
    | none=>rw[e3]at e2;simp at e2
    | some y=>
     obtain⟨i,r'⟩:=y;rw[e3]at e2;simp only at e2;split at e2
     ·simp at e2;rw[<-e2];exact tD e3 (by simp at f;omega)
     ·cases e2
theorem Xn:∀(texts:List ByteArray) (i:Nat) (acc zL:List PL),(∀t∈texts,t.size<=40000)->(∀p∈acc,Small p.form)->rForms i texts acc=(0,zL)->zL.length=acc.length+texts.length/\(∀p∈zL,Small p.form)/\∃rest,zL=acc++rest
 | [],_,acc,zL,_,h2,h=>by simp[rForms]at h;rw[<-h];exact⟨by simp,h2,[],by simp⟩
 | s::r,i,acc,zL,h1,h2,h=>by
  rw[rForms]at h;cases e:rdLine s with
  | none=>rw[e]at h;simp at h
  | some p=>
   rw[e]at h;simp only at h;obtain⟨a,b,rest,c⟩:=Xn r (i+1) (acc++[p]) zL (fun t ht=>h1 t (by simp[ht])) (fun q hq=>by
    simp at hq;rcases hq with hq | rfl
    ·exact h2 q hq
    ·exact mw (h1 s (by simp)) e) h
   exact⟨by simp at a ⊢;omega,b,p::rest,by rw[c];simp⟩
theorem Vu:∀(rem:List PL) (n:Nat) (bs:List Zx) (acc:List PL) (ls:List PL) (b2:List Zx),(∀p∈acc,Small p.form)->(∀p∈rem,Small p.form)->nestFrom rem n bs acc=(0,ls,b2)->0 < n->ls.length=acc.length+rem.length/\∀p∈ls,Small p.form
 | [],_,_,acc,ls,_,h1,_,h,_=>by simp[nestFrom]at h;rw[<-h.1];exact⟨by simp,h1⟩
 | p::r,n,bs,acc,ls,b2,h1,h2,h,hn=>by
  rw[nestFrom]at h;split at h
  ·obtain⟨a,b⟩:=Vu r (n+1) _ (acc++[ym bs p]) ls b2 (fun q hq=>by
    simp at hq;rcases hq with hq | rfl
    ·exact h1 q hq
    ·rw[(XH bs p).2];exact h2 p (by simp)) (fun q hq=>h2 q (by simp[hq])) h (by omega)
   exact⟨by simp at a ⊢;omega,b⟩
  ·simp at h;omega
noncomputable def jV (ls:List PL):Int×Int×List PL:=
 if ¬nameErr ls 1 (ls.drop 1)=0 then (4,nameErr ls 1 (ls.drop 1),[])
 else if ¬(yJ ls xP).kind=3 then (4,0,[])
 else (0,0,ls)
noncomputable def vH (er:Nat) (ls:List PL) (bs:List Zx) (len:Nat):Int×Int×List PL:=
 if ¬er=0 then (3,er,[])else if ¬bs=[]then (3,len,[])else jV ls
noncomputable def Yq (ln:Nat) (zL:List PL) (len:Nat):Int×Int×List PL:=
 if ¬ln=0 then (2,ln,[])
 else vH (nestFrom (zL.drop 1) 1 [] [kb]).1 (nestFrom (zL.drop 1) 1 [] [kb]).2.1 (nestFrom (zL.drop 1) 1 [] [kb]).2.2 len
noncomputable def qx (s:ByteArray):Int×Int×List PL:=
 if ZE s=true then (1,0,[])else Yq (rForms 0 (lines s) [kb]).1 (rForms 0 (lines s) [kb]).2 (lines s).length
end Rt
end
namespace Rt
abbrev Qw:=List (Int×Int)
def Zu (len:Nat) (lk:Qw) (pl:PL) (n:Nat):Qw:=
 if 1<=pl.opener/\pl.opener < len then
  if pl.form.kind=6 then lk.modify pl.opener.toNat (fun x=>((n:Int),x.2))
  else if pl.form.kind=4 then lk.modify pl.opener.toNat (fun x=>(x.1,(n:Int)))
  else lk
 else lk
def nestLk (len:Nat):List PL->Nat->List Zx->Qw->Qw
 | [],_,_,lk=>lk
 | p::r,n,bs,lk=>if Yj bs p.form.kind=true then nestLk len r (n+1) (qK bs n p.form.kind) (Zu len lk (ym bs p) n)else lk
theorem Jl {len:Nat} {lk:Qw} {pl:PL} {n:Nat}:(Zu len lk pl n).length=lk.length:=by
 unfold Zu;split
 ·split
  ·simp
  ·split
   ·simp
   ·rfl
 ·rfl
def vS (ps:List PL):Qw:=nestLk (ps.length+1) ps 1 [] (List.replicate (ps.length+1) (0,0))
def Xb (s:ByteArray):Qw:=vS ((rForms 0 (lines s) [kb]).2.drop 1)
end Rt
section
open Go.RowKit
namespace Rt
def parNo (i:Nat):List ByteArray->ByteArray->Int
 | [],_=>-1
 | p::r,x=>if p=x then (i:Int)else parNo (i+1) r x
def vU (zL:List PL) (n:Int):PL:=if n < 0 then kb else (zL[n.toNat]?).getD kb
def jR (lk:Qw) (n:Int):Int×Int:=if n < 0 then (0,0)else (lk[n.toNat]?).getD (0,0)
def goOn (zL:List PL) (lk:Qw):Nat->Int->Int
 | 0,_=>0
 | f+1,n=>
  if 0 < n/\n < zL.length then
   if xV zL (vU zL n)=true then n
   else if (vU zL n).form.kind=4/\(yA zL (vU zL n).opener).kind=7 then (vU zL n).opener
   else if (vU zL n).form.kind=6 then goOn zL lk f (wrap64 ((jR lk (vU zL n).opener).2+1))
   else goOn zL lk f (wrap64 (n+1))
  else 0
def ky (lk:Qw) (n:Int):Int:=if 0 < (jR lk n).1 then wrap64 ((jR lk n).1+1)else wrap64 ((jR lk n).2+1)
structure Fm where
 params:List Int
 call:Int
structure Mc where
 zH:List Fm
 values:List (List Int)
 taken:Int
 output:List Int
 line:Int
 fin:Int
structure Src where
 zL:List PL
 lk:Qw
 input:List Int
structure Q9 where
 line:Int
 cell:Int
def Qe:Fm:=⟨[],0⟩
def cellsOf (m:Mc) (l:Int):List Int:=
 if 0 < l/\l < m.values.length then (m.values[l.toNat]?).getD []
 else if l=0/\0 < m.zH.length then (m.zH.getLastD Qe).params
 else []
def Q6 (m:Mc) (s:Q9):Bool:=decide (0<=s.cell/\s.cell < (cellsOf m s.line).length)
def ZL (m:Mc) (s:Q9):Int:=if s.cell < 0 then 0 else ((cellsOf m s.line)[s.cell.toNat]?).getD 0
def jN (m:Mc) (s:Q9) (v:Int):Mc:=
 if Q6 m s=true then
  if 0 < s.line then { m with values:=m.values.modify s.line.toNat (fun c=>c.set s.cell.toNat v) }
  else { m with zH:=m.zH.modify (m.zH.length-1) (fun f=>⟨f.params.set s.cell.toNat v,f.call⟩) }
 else m
def qJ (S:Src) (m:Mc):Int:=(vU S.zL m.line).proc
def vx (S:Src) (m:Mc) (x:ByteArray):Q9:=
 let i:=parNo 0 (yA S.zL (qJ S m)).params x
 if 0<=i then ⟨0,i⟩else ⟨xb S.zL x,0⟩
def kX (S:Src) (m:Mc) (x:ByteArray) (n:Int):Option Q9:=
 if Q6 m ⟨xb S.zL x,n⟩=true then some ⟨xb S.zL x,n⟩else none
def Vi (b:Bool):Int:=if b then 1 else 0
def xF (code l r:Int):Int×Int:=
 if code=5 then (wrap64 (l+r),0)
 else if code=6 then (wrap64 (l-r),0)
 else if code=7 then (wrap64 (l*r),0)
 else if code=10 then (Vi (decide (l < r)),0)
 else if code=11 then (Vi (decide (l=r)),0)
 else if r=0 then (0,2)
 else if code=8 then (wrap64 (l.tdiv r),0)
 else (l.tmod r,0)
def workI (S:Src) (m:Mc) (st:List Int) (o:qM):List Int×Int:=
 if o.code=1 then (st++[o.number],0)
 else if o.code=2 then (st++[ZL m (vx S m o.name)],0)
 else if o.code=3 then
  match kX S m o.name (st.getLastD 0)with
  | none=>(st.dropLast,3)
  | some s=>(st.dropLast++[ZL m s],0)
 else if o.code=4 then (st.dropLast++[wrap64 (-(st.getLastD 0))],0)
 else
  let r:=st.getLastD 0
  let st1:=st.dropLast
  let l:=st1.getLastD 0
  let st2:=st1.dropLast
  if (xF o.code l r).2=0 then (st2++[(xF o.code l r).1],0)else (st2,(xF o.code l r).2)
def evalI (S:Src) (m:Mc):List qM->List Int->Int×Int
 | [],st=>(st.getLastD 0,0)
 | o::r,st=>if (workI S m st o).2=0 then evalI S m r (workI S m st o).1 else (0,(workI S m st o).2)
def zr (S:Src) (m:Mc) (e:List qM):Int×Int:=evalI S m e []
def kP (S:Src) (m:Mc) (f:qS):Int×Int:=match f.values with
 | []=>(0,0)
 | e::_=>zr S m e
structure Rec where
 kind:Int
 line:Int
 at_:Q9
 value:Int
def YV (r:Rec):List Value:=[.int .i64 r.kind,.int .i64 r.line,.int .i64 r.at_.line,.int .i64 r.at_.cell,.int .i64 r.value]
def stay (n:Int):Rec:=⟨1,n,⟨0,0⟩,0⟩
structure Out where
 fin:Int
 next:Int
 YU:List Rec
 m:Mc
def stored (m:Mc) (s:Q9):Rec:=⟨4,0,s,ZL m s⟩
def argsI (S:Src) (m:Mc):List (List qM)->List Int->List Int×Int
 | [],acc=>(acc,0)
 | e::r,acc=>if (zr S m e).2=0 then argsI S m r (acc++[(zr S m e).1])else (acc,(zr S m e).2)
def ended (m:Mc) (t:Int):Out:=⟨t,0,[],m⟩
def perform (S:Src) (m:Mc) (f:qS):Out:=
 let v:=kP S m f
 let nx:=wrap64 (m.line+1)
 if f.kind=8 then
  if v.2=0 then ⟨0,nx,[stay m.line,stored m (vx S m f.name)],jN m (vx S m f.name) v.1⟩else ended m v.2
 else if f.kind=9 then
  if (zr S m f.index).2=0 then
   if v.2=0 then
    match kX S m f.name (zr S m f.index).1 with
    | none=>ended m 3
    | some s=>⟨0,nx,[stay m.line,stored m s],jN m s v.1⟩
   else ended m v.2
  else ended m (zr S m f.index).2
 else if f.kind=10 then
  if v.2=0 then
   if 50<=m.output.length then ended m 6 else ⟨0,nx,[stay m.line,⟨5,0,⟨0,0⟩,0⟩],{ m with output:=m.output++[v.1] }⟩
  else ended m v.2
 else if f.kind=11 then
  if m.taken < 0\/S.input.length<=m.taken then ended m 4
  else ⟨0,nx,[stay m.line,stored m (vx S m f.name),⟨6,0,⟨0,0⟩,0⟩],{ jN m (vx S m f.name) ((S.input[m.taken.toNat]?).getD 0)with taken:=wrap64 (m.taken+1) }⟩
 else if f.kind=5\/f.kind=7 then
  if v.2=0 then ⟨0,if v.1=0 then ky S.lk m.line else nx,[stay m.line],m⟩else ended m v.2
 else if f.kind=12 then
  if (argsI S m f.values []).2=0 then
   if 6<=m.zH.length then ended m 5
   else ⟨0,wrap64 (xb S.zL f.name+1),[⟨2,m.line,⟨0,0⟩,0⟩],{ m with zH:=m.zH++[⟨(argsI S m f.values []).1,m.line⟩] }⟩
  else ended m (argsI S m f.values []).2
 else if m.zH.length < 2 then ended m 1
 else
  let g:=m.zH.getLastD Qe
  ⟨0,wrap64 (g.call+1),⟨3,m.line,⟨0,0⟩,g.call⟩::g.params.map (fun v=>⟨7,0,⟨0,0⟩,v⟩),{ m with zH:=m.zH.dropLast }⟩
def qd (S:Src) (m:Mc):Mc×List Rec:=
 if m.fin=0 then
  let o:=perform S m (yA S.zL m.line)
  if o.fin=0 then ({ o.m with line:=goOn S.zL S.lk 102 o.next },o.YU)
  else ({ m with fin:=o.fin },[stay m.line])
 else (m,[])
def ji (f:qS):List Int:=List.replicate (if f.kind=1 then 1 else f.cells.toNat) 0
def firstM (S:Src):Mc:=⟨[Qe],S.zL.map (fun p=>ji p.form),0,[],goOn S.zL S.lk 102 (wrap64 (xb S.zL xP+1)),0⟩
def Fit (pl:PL):Prop:=pl.yY.length<=1000/\(∀t∈pl.yY,t.text.size<=40000)/\pl.depth<=1000
end Rt
end
end Go.Proofs.YthleadfkfnnadaaGreat
