/- The document's answer: a source while its lines are read. -/
import Derived.Test.YthleadfkfnnadaaGreatRef1
import Derived.Test.YthleadfkfnnadaaGreatRefI
set_option maxHeartbeats 4000000
set_option maxRecDepth 100000
set_option linter.unusedSimpArgs false
namespace Go.Proofs.YthleadfkfnnadaaGreat
variable {nm s:ByteArray} {kind:Int} {ls:List (List ByteArray)} {t:List ByteArray} {F F1:List Nat} {xs vs:List Value} {f B size n g S:Nat} {e:TypeId} {v lv:Value} {w w' w1 w2:World}
namespace Rf
theorem QT (h:0 < t.length):xM t=isKind t (first t).toList:=by rw[xM,zA (by omega)]
theorem dr (h:t.length=0):(first t).toList=[]:=by
 have:t=[]:=yu h
 subst this
 simp[first,ve]
theorem D3 (h:xM t=true) (ht:Xl t=true):2<=t.length:=by
 have d:0 < t.length:=by
  by_cases h0:0 < t.length
  ·exact h0
  ·have:=dr (t:=t) (by omega)
   simp[Xl,this]at ht
 rw[QT d]at h
 unfold Xl at ht
 simp only[YC,xw]at ht
 rcases ht with (ht | ht)| ht
 ·rw[ht]at h
  simp[isKind]at h
  omega
 ·rw[ht]at h
  simp[isKind,Qn]at h
  omega
 ·rw[ht]at h
  simp[isKind]at h
  omega
theorem Da (h:xM t=true) (ht:((first t).toList==[99,97,108,108])=true):2<=t.length:=by
 rw[xw]at ht
 have d:0 < t.length:=by
  by_cases h0:0 < t.length
  ·exact h0
  ·have:=dr (t:=t) (by omega)
   rw[this]at ht
   cases ht
 rw[QT d,ht]at h
 simp[isKind,QV]at h
 exact h.1
end Rf
namespace Rt
open Go.RowKit
def valTo (s:ByteArray):Nat->Int
 | 0=>0
 | k+1=>wrap64 (wrap64 (valTo s k*10)+(qC s k-48) % 256)
def val (s:ByteArray):Int:=valTo s s.size
end Rt
end Go.Proofs.YthleadfkfnnadaaGreat
namespace Go.Proofs.YthleadfkfnnadaaGreat
open Go.RowKit
variable {nm s:ByteArray} {kind:Int} {ls:List (List ByteArray)} {t:List ByteArray} {F F1:List Nat} {xs vs:List Value} {f B size n g S:Nat} {e:TypeId} {v lv:Value} {w w' w1 w2:World}
structure qM where
 code:Int
 number:Int
 name:ByteArray
namespace Rt
abbrev JX:=Option (List qM×List Tk)
def pLoop (pf:List Tk->JX) (lo hi:Int):Nat->List Tk->JX
 | 0,_=>none
 | _+1,[]=>some ([],[])
 | g+1,t::r=>
  if lo<=yI t.text/\yI t.text<=hi then
   match pf r with
   | none=>none
   | some (e,r')=>
    match pLoop pf lo hi g r' with
    | none=>none
    | some (e',r'')=>some (e++⟨yI t.text,0,⟨#[]⟩⟩::e',r'')
  else some ([],t::r)
def Yb (em:List qM):JX->JX
 | none=>none
 | some (e,r)=>some (em++e,r)
def Xa (pf:List Tk->JX) (lo hi:Int) (rem:List Tk):JX:=
 match pf rem with
 | none=>none
 | some (e,r)=>Yb e (pLoop pf lo hi 25 r)
def VQ (pf:List Tk->JX):List Tk->JX:=Xa pf 7 9
def VI (pf:List Tk->JX):List Tk->JX:=Xa (VQ pf) 5 6
def pComp (pf:List Tk->JX) (rem:List Tk):JX:=
 match VI pf rem with
 | none=>none
 | some (e,[])=>some (e,[])
 | some (e,t::r)=>
  if 10<=yI t.text/\yI t.text<=11 then
   match VI pf r with
   | none=>none
   | some (e',r')=>some (e++e'++[⟨yI t.text,0,⟨#[]⟩⟩],r')
  else some (e,t::r)
def closed (x:ByteArray) (last:List qM):JX->JX
 | none=>none
 | some (_,[])=>none
 | some (e,t::r)=>if t.text=x then some (e++last,r)else none
def pVar (pc:List Tk->JX) (name:ByteArray):List Tk->JX
 | []=>some ([⟨2,0,name⟩],[])
 | t::r=>if t.text=⟨#[91]⟩then closed ⟨#[93]⟩ [⟨3,0,name⟩] (pc r)else some ([⟨2,0,name⟩],t::r)
def yV:Nat->List Tk->JX
 | 0,_=>none
 | _+1,[]=>none
 | f+1,t::r=>
  if t.text=⟨#[45]⟩then
   match yV f r with
   | none=>none
   | some (e,r')=>some (e++[⟨4,0,⟨#[]⟩⟩],r')
  else if t.text=⟨#[40]⟩then closed ⟨#[41]⟩ [] (pComp (yV f) r)
  else if t.kind=2 then some ([⟨1,val t.text,⟨#[]⟩⟩],r)
  else if t.kind=1/\aL t.text=false then pVar (pComp (yV f)) t.text r
  else none
def Z1 (rem:List Tk):JX:=pComp (yV 24) rem
structure qS where
 kind:Int
 name:ByteArray
 cells:Int
 params:List ByteArray
 index:List qM
 values:List (List qM)
def kE:List Tk->Option (ByteArray×List Tk)
 | []=>none
 | t::r=>if t.kind=1/\aL t.text=false then some (t.text,r)else none
abbrev eG:=Option (qS×List Tk)
def pNamed (kind:Int) (rem:List Tk):eG:=
 match kE rem with
 | none=>none
 | some (nm,r)=>some (⟨kind,nm,0,[],[],[]⟩,r)
def kn (kind:Int) (rem:List Tk):eG:=
 match Z1 rem with
 | none=>none
 | some (e,r)=>some (⟨kind,⟨#[]⟩,0,[],[],[e]⟩,r)
def XC:List Tk->Option (Int×List Tk)
 | []=>none
 | t::r=>if t.kind=2 then some (val t.text,r)else none
def pArray (rem:List Tk):eG:=
 match kE rem with
 | none=>none
 | some (nm,r)=>
  match XC r with
  | none=>none
  | some (v,r')=>if v < 1\/32 < v then none else some (⟨2,nm,v,[],[],[]⟩,r')
def jO (acc:List ByteArray):List Tk->Option (List ByteArray)
 | []=>some acc
 | t::r=>if (t.kind=1/\aL t.text=false)/\acc.length < 4 then jO (acc++[t.text]) r else none
def pProc (rem:List Tk):eG:=
 match kE rem with
 | none=>none
 | some (nm,r)=>
  match jO [] r with
  | none=>none
  | some ps=>some (⟨3,nm,0,ps,[],[]⟩,[])
def jb (x:ByteArray):List Tk->Option (List Tk)
 | []=>none
 | t::r=>if t.text=x then some r else none
def pTo (kind:Int) (nm:ByteArray) (ix:List qM) (rem:List Tk):eG:=
 match jb ⟨#[116,111]⟩ rem with
 | none=>none
 | some r=>
  match Z1 r with
  | none=>none
  | some (e,r')=>some (⟨kind,nm,0,[],ix,[e]⟩,r')
def J6 (rem:List Tk):eG:=
 match kE rem with
 | none=>none
 | some (nm,r)=>
  match jb ⟨#[91]⟩ r with
  | none=>pTo 8 nm [] r
  | some r1=>
   match Z1 r1 with
   | none=>none
   | some (ix,r2)=>
    match jb ⟨#[93]⟩ r2 with
    | none=>none
    | some r3=>pTo 9 nm ix r3
theorem uK {ix:List qM} {rem:List Tk} (h:jb ⟨#[116,111]⟩ rem=none):pTo kind nm ix rem=none:=by rw[pTo,h]
theorem FM {ix:List qM} {rem r:List Tk} (h:jb ⟨#[116,111]⟩ rem=some r) (d:Z1 r=none):pTo kind nm ix rem=none:=by rw[pTo,h];simp only;rw[d]
theorem FK {ix e:List qM} {rem r r':List Tk} (h:jb ⟨#[116,111]⟩ rem=some r) (d:Z1 r=some (e,r')):pTo kind nm ix rem=some (⟨kind,nm,0,[],ix,[e]⟩,r'):=by rw[pTo,h];simp only;rw[d]
theorem B4 {rem r:List Tk} {x:eG} (h:kE rem=some (nm,r)) (f:jb ⟨#[91]⟩ r=none) (d:pTo 8 nm [] r=x):J6 rem=x:=by rw[J6,h];simp only;rw[f];exact d
theorem B3 {rem r r1 r2 r3:List Tk} {ix:List qM} {x:eG} (h:kE rem=some (nm,r)) (j:jb ⟨#[91]⟩ r=some r1) (i:Z1 r1=some (ix,r2)) (f:jb ⟨#[93]⟩ r2=some r3) (d:pTo 9 nm ix r3=x):J6 rem=x:=by
 rw[J6,h];simp only;rw[j];simp only;rw[i];simp only;rw[f];exact d
theorem Ga {rem r r1 r2:List Tk} {ix:List qM} (h:kE rem=some (nm,r)) (i:jb ⟨#[91]⟩ r=some r1) (f:Z1 r1=some (ix,r2)) (d:jb ⟨#[93]⟩ r2=none):J6 rem=none:=by
 rw[J6,h];simp only;rw[i];simp only;rw[f];simp only;rw[d]
theorem GZ {rem r r1:List Tk} (h:kE rem=some (nm,r)) (f:jb ⟨#[91]⟩ r=some r1) (d:Z1 r1=none):J6 rem=none:=by
 rw[J6,h];simp only;rw[f];simp only;rw[d]
def pArgs:Nat->List (List qM)->List Tk->Option (List (List qM)×List Tk)
 | 0,_,_=>none
 | f+1,acc,rem=>
  match Z1 rem with
  | none=>none
  | some (e,r)=>
   match jb ⟨#[44]⟩ r with
   | none=>some (acc++[e],r)
   | some r'=>pArgs f (acc++[e]) r'
def ZT (r:List Tk):Option (List (List qM)×List Tk):=if r=[]then some ([],r)else pArgs 25 [] r
def pCall (rem:List Tk):eG:=
 match kE rem with
 | none=>none
 | some (nm,r)=>
  match ZT r with
  | none=>none
  | some (vs,r')=>some (⟨12,nm,0,[],[],vs⟩,r')
theorem BT {acc:List (List qM)} {rem:List Tk} (h:Z1 rem=none):pArgs (f+1) acc rem=none:=by rw[pArgs,h]
theorem BS {acc:List (List qM)} {rem r:List Tk} {e:List qM} (h:Z1 rem=some (e,r)) (d:jb ⟨#[44]⟩ r=none):pArgs (f+1) acc rem=some (acc++[e],r):=by rw[pArgs,h];simp only;rw[d]
theorem BU {acc:List (List qM)} {rem r r':List Tk} {e:List qM} (h:Z1 rem=some (e,r)) (d:jb ⟨#[44]⟩ r=some r'):pArgs (f+1) acc rem=pArgs f (acc++[e]) r':=by rw[pArgs,h];simp only;rw[d]
theorem BO {rem r:List Tk} (h:kE rem=some (nm,r)) (d:ZT r=none):pCall rem=none:=by rw[pCall,h];simp only;rw[d]
theorem BN {rem r r':List Tk} {vs:List (List qM)} (h:kE rem=some (nm,r)) (d:ZT r=some (vs,r')):pCall rem=some (⟨12,nm,0,[],[],vs⟩,r'):=by rw[pCall,h];simp only;rw[d]
def xY (first:ByteArray) (rem:List Tk):eG:=
 if first.toList==[118,97,114]then pNamed 1 rem
 else if first.toList==[97,114,114,97,121]then pArray rem
 else if first.toList==[112,114,111,99]then pProc rem
 else if first.toList==[101,110,100]then some (⟨4,⟨#[]⟩,0,[],[],[]⟩,rem)
 else if first.toList==[105,102]then kn 5 rem
 else if first.toList==[101,108,115,101]then some (⟨6,⟨#[]⟩,0,[],[],[]⟩,rem)
 else if first.toList==[119,104,105,108,101]then kn 7 rem
 else if first.toList==[115,101,116]then J6 rem
 else if first.toList==[112,114,105,110,116]then kn 10 rem
 else if first.toList==[114,101,97,100]then pNamed 11 rem
 else if first.toList==[99,97,108,108]then pCall rem
 else if first.toList==[114,101,116,117,114,110]then some (⟨13,⟨#[]⟩,0,[],[],[]⟩,rem)
 else none
def pLineAll:List Tk->Option qS
 | []=>some ⟨0,⟨#[]⟩,0,[],[],[]⟩
 | t::r=>
  match xY t.text r with
  | none=>none
  | some (fm,r')=>if r'=[]then some fm else none
theorem Y9:∀(ts:List Tk) (i:Nat) (h:i < ts.length),(qa ts)[i*2]?=some (.int .i64 ts[i].kind)/\(qa ts)[i*2+1]?=some (.string ts[i].text)
 | [],i,h=>by simp at h
 | t::r,0,_=>by simp[qa,eK]
 | t::r,i+1,h=>by
  have d:=Y9 r i (by simpa using h)
  have e:qa (t::r)=[Value.int .i64 t.kind,Value.string t.text]++qa r:=by simp[qa,eK]
  have f:(i+1)*2=i*2+2:=by omega
  rw[e,f]
  simpa using d
theorem X6 (s:ByteArray) (d:s.size<=40000):∀(f a:Nat) (acc ts:List Tk),acc.length<=24->(∀t∈acc,t.text.size<=40000)->toksFrom s f a acc=some ts->ts.length<=24/\∀t∈ts,t.text.size<=40000
 | 0,_,_,_,_,_,h=>by simp[toksFrom]at h
 | f+1,a,acc,ts,h1,h2,h=>by
  rw[toksFrom]at h
  split at h
  ·split at h
   ·exact X6 s d f _ _ _ h1 h2 h
   ·split at h
    ·cases h
    ·next hc=>
     refine X6 s d f _ _ _ (by simp;omega) ?_ h
     intro t ht
     simp at ht
     rcases ht with ht | rfl
     ·exact h2 t ht
     ·simp[kV];omega
  ·simp at h
   subst h
   exact⟨h1,h2⟩
theorem JY {ts:List Tk} (d:s.size<=40000) (h:yY s=some ts):ts.length<=24/\∀t∈ts,t.text.size<=40000:=
 X6 s d _ _ _ _ (by simp) (by simp) h
theorem Xc (s:ByteArray) (d:s.size<=40000):∀(f a i:Nat) (acc:List ByteArray),(∀t∈acc,t.size<=40000)->(∀t∈linesFrom s f a i acc,t.size<=40000)
 | 0,_,_,acc,h=>by simpa[linesFrom] using h
 | f+1,a,i,acc,h=>by
  rw[linesFrom]
  split
  ·split
   ·refine Xc s d f _ _ _ ?_
    intro t ht
    simp at ht
    rcases ht with ht | rfl
    ·exact h t ht
    ·simp[kV];omega
   ·exact Xc s d f _ _ _ h
  ·intro t ht
   simp at ht
   rcases ht with ht | rfl
   ·exact h t ht
   ·simp[kV];omega
theorem YM (d:s.size<=40000):∀t∈lines s,t.size<=40000:=Xc s d _ _ _ _ (by simp)
theorem Q4 (s:ByteArray):∀(f a i:Nat) (acc:List ByteArray),i<=s.size->s.size < f+i->(linesFrom s f a i acc).length+nls s i=acc.length+1+nls s s.size
 | 0,_,_,_,h,h2=>by omega
 | f+1,a,i,acc,h,h2=>by
  rw[linesFrom]
  split
  ·next hlt=>
   have d:nls s (i+1)=nls s i+(if qC s i=10 then 1 else 0):=rfl
   split
   ·next hb=>
    have:=Q4 s f (i+1) (i+1) (acc++[s.extract a i]) (by omega) (by omega)
    rw[zE hb]at d
    simp at this
    omega
   ·next hb=>
    have:=Q4 s f a (i+1) acc (by omega) (by omega)
    rw[zA hb]at d
    omega
  ·have:i=s.size:=by omega
   subst this
   simp
theorem ch (s:ByteArray):(lines s).length=1+nls s s.size:=by
 have:=Q4 s (s.size+1) 0 0 [] (by omega) (by omega)
 simp[nls]at this
 rw[lines]
 omega
end Rt
namespace Rf
theorem K9 (ls:List (List ByteArray)) (n:Nat) (h:0 < home ls n):0 < home ls (n+1):=by
 rw[Xy];split <;> omega
theorem Xv {ls:List (List ByteArray)}:∀(f k:Nat) (op sp:List Nat),ls.length-k=f->nestFrom ls (ls.drop k) k op sp=0->(0 < op.length->0 < home ls k)->
  ∀l (hl:l < ls.length),k<=l->Xl ls[l]=false->((first ls[l]).toList==[])=false->0 < home ls (l+1)
 | 0,k,op,sp,hf,_,_,l,hl,hkl,_,_=>by omega
 | f+1,k,op,sp,hf,h,ho,l,hl,hkl,ht,he=>by
  have j:k < ls.length:=by omega
  obtain⟨i,A,o⟩:=YG (first ls[k])
  rw[Vt j o]at h
  obtain⟨f0,z,y,x,H,G,F,D⟩:=o
  by_cases hlk:l=k
  ·subst hlk
   have i0:¬i=0:=by intro e;rw[e]at f0;rw[he]at f0;cases f0
   have i3:¬(i=1\/i=2\/i=3):=by
    rintro (e | e | e) <;> subst e <;> unfold Xl at ht
    ·rw[z]at ht;simp at ht
    ·rw[y]at ht;simp at ht
    ·rw[x]at ht;simp at ht
   rw[zA i0]at h
   by_cases h0:op.length=0
   ·rw[zE (by simp[i3,h0])]at h;omega
   ·exact K9 ls l (ho (by omega))
  ·have d:k+1<=l:=by omega
   by_cases i0:i=0
   ·rw[zE i0]at h
    exact Xv f (k+1) op sp (by omega) h (fun h'=>K9 ls k (ho h')) l hl d ht he
   rw[zA i0]at h
   by_cases hc:decide (i=1\/i=2\/i=3)=!decide (op.length=0)
   ·rw[zE hc]at h;omega
   rw[zA hc]at h
   by_cases i3:i=3\/i=4\/i=5
   ·rw[zE i3]at h
    refine Xv f (k+1) _ sp (by omega) h (fun _=>?_) l hl d ht he
    by_cases e3:i=3
    ·rw[Xy,yq j,zE (by rw[x];simp[e3])];omega
    ·have:¬op.length=0:=by
      intro h0
      apply hc
      have:¬(i=1\/i=2\/i=3):=by omega
      simp[this,h0]
     exact K9 ls k (ho (by omega))
   rw[zA i3]at h
   by_cases i6:i=6
   ·rw[zE i6]at h
    split at h
    ·omega
    ·exact Xv f (k+1) op _ (by omega) h (fun h'=>K9 ls k (ho h')) l hl d ht he
   rw[zA i6]at h
   by_cases i7:i=7
   ·rw[zE i7]at h
    refine Xv f (k+1) _ _ (by omega) h (fun h'=>K9 ls k (ho ?_)) l hl d ht he
    rw[XU]at h'
    omega
   rw[zA i7]at h
   exact Xv f (k+1) op sp (by omega) h (fun h'=>K9 ls k (ho h')) l hl d ht he
theorem dc (h:nested ls=0) {l:Nat} (f:l < ls.length) (d:Xl ls[l]=false) (i:((first ls[l]).toList==[])=false):0 < home ls (l+1):=
 Xv ls.length 0 [] [] (by omega) h (by simp) l f (by omega) d i
def formsFrom:Nat->List ByteArray->List (List ByteArray)->Nat×List (List ByteArray)
 | _,[],acc=>(0,acc)
 | i,s::r,acc=>
  match Rt.yY s with
  | none=>(i+1,acc)
  | some ts=>if xM (tx ts)=true then formsFrom (i+1) r (acc++[tx ts])else (i+1,acc)
def rightFrom (ls:List (List ByteArray)):Nat->Nat->Nat
 | 0,_=>0
 | f+1,k=>if jZ ls k (xU ls k)=true then rightFrom ls f (k+1)else k+1
def Yk:ByteArray:=⟨#[109,97,105,110]⟩
def jV (ls:List (List ByteArray)):Int×Int×List (List ByteArray):=
 if decl ls Yk=0 then (4,0,[])
 else if ((first (xU ls (decl ls Yk-1))).toList==[112,114,111,99])=false then (4,0,[])
 else (0,0,ls)
def Xu (ls:List (List ByteArray)):Int×Int×List (List ByteArray):=
 if ¬nested ls=0 then (3,nested ls,[])
 else if ¬rightFrom ls ls.length 0=0 then (4,rightFrom ls ls.length 0,[])
 else jV ls
def vP (s:ByteArray):Int×Int×List (List ByteArray):=
 if 40000 < s.size then (1,0,[])
 else if 100 < (Rt.lines s).length then (1,0,[])
 else if ¬(formsFrom 0 (Rt.lines s) []).1=0 then (2,(formsFrom 0 (Rt.lines s) []).1,[])
 else Xu (formsFrom 0 (Rt.lines s) []).2
end Rf
theorem GA {ts:List Rt.Tk} (f:s.size<=40000) (h:Rt.yY s=some ts):Y8 (Rf.tx ts):=by
 obtain⟨j,i⟩:=Rt.JY f h
 refine⟨by simp[Rf.tx];omega,fun x hx=>?_⟩
 simp[Rf.tx]at hx
 obtain⟨t,d,rfl⟩:=hx
 exact i t d
structure bo (ls:List (List ByteArray)):Prop where
 VJ:∀t∈ls,Y8 t
 line:∀t∈ls,Rf.xM t=true
theorem bo.lawful (h:bo ls) (d:ls.length<=100):Lawful ls:=⟨d,h.VJ,fun t ht htop=>Rf.D3 (h.line t ht) htop⟩
theorem bo.snoc (h:bo ls) (f:Y8 t) (d:Rf.xM t=true):bo (ls++[t]):=
 ⟨fun u hu=>by simp at hu;rcases hu with hu | rfl;exact h.VJ u hu;exact f,fun u hu=>by simp at hu;rcases hu with hu | rfl;exact h.line u hu;exact d⟩
theorem bo.F6 (h:bo ls) (f:Rf.nested ls=0) (l:Nat) (hl:l < ls.length):nh ls l hl:=by
 refine⟨fun ht i hi _=>Rf.dc f hl ht ?_,fun hc=>Rf.Da (h.line _ (zj hl)) hc⟩
 cases he:((Rf.first ls[l]).toList==[])with
 | false=>rfl
 | true=>
  exfalso
  rw[Rf.gT (by omega),xw]at he
  have d:=h.line _ (zj hl)
  rw[Rf.QT (by omega),Rf.gT (by omega),he]at d
  simp[Rf.isKind]at d
structure Rw where
 t:TypeId
 size:Nat
 v:Value
 n:Nat
 xs:List Value
def Rw.FR (r:Rw):Option Nat:=r.v.ownBlock
def xh (R:List Rw):List Nat:=R.filterMap Rw.FR
structure Own (w:World) (R:List Rw):Prop where
 rows:∀r∈R,w.ownsRow 0 r.t r.size r.v r.n r.xs
 apart:(xh R).Nodup
structure VM (w w':World) (F:List Nat):Prop where
 os:w'.os=w.os
 tape:w'.tape=w.tape
 output:w'.output=w.output
 size:w.heap.size<=w'.heap.size
 block:∀k,k < w.heap.size->k∉F->w'.heap[k]?=w.heap[k]?
theorem VM.jQ (F:List Nat) (h:Below w.heap.size w w'):VM w w' F:=⟨h.os,h.tape,h.output,h.size,fun k hk _=>h.block k hk⟩
def vd (w:World) (F F':List Nat):Prop:=∀k∈F',k∈F\/w.heap.size<=k
theorem VM.trans {w w1 w2:World} {F F1:List Nat} (h:VM w w1 F) (d:VM w1 w2 F1) (hg:vd w F F1):VM w w2 F:=
 ⟨d.os.trans h.os,d.tape.trans h.tape,d.output.trans h.output,zi h.size d.size,fun k hk hn=>(d.block k (zX hk h.size) (fun hf=>by rcases hg k hf with f | f;exact hn f;omega)).trans (h.block k hk hn)⟩
theorem vd.refl (w:World) (F:List Nat):vd w F F:=fun _ h=>Or.inl h
theorem vd.trans {F2:List Nat} (h:vd w F F1) (h2:vd w1 F1 F2) (f:w.heap.size<=w1.heap.size):vd w F F2:=fun k hk=>by
 rcases h2 k hk with d | d
 ·exact h k d
 ·exact Or.inr (zi f d)
theorem yW (h:w.ownsRow B e size v n xs) (hg:v.ownBlock=some g):∃c,w.heap[g]?=some (.cells c e (0,0)):=by
 rcases h.2 with⟨d,_⟩| ⟨g',_,cur,d,_,hh,_⟩
 ·rw[d]at hg;cases hg
 ·rw[d]at hg
  simp[Value.ownBlock]at hg
  subst hg
  exact⟨_,hh⟩
theorem vr (h:w.ownsRow B e size v n xs):w.ownsRow 0 e size v n xs:=yn h (zo _)
theorem yP (h:w.ownsRow B e size v n xs) (d:∀g,v.ownBlock=some g->w'.heap[g]?=w.heap[g]?):w'.ownsRow B e size v n xs:=by
 obtain⟨f,h2⟩:=h
 refine⟨f,?_⟩
 rcases h2 with h2 | ⟨g,cap,cur,hv,hg,hh,r⟩
 ·exact Or.inl h2
 ·exact Or.inr ⟨g,cap,cur,hv,hg,by rw[d g (by rw[hv];rfl)];exact hh,r⟩
theorem qU {R:List Rw} {r:Rw} (h:r∈R) (d:r.v.ownBlock=some g):g∈xh R:=ju.mpr ⟨r,h,d⟩
theorem jd (A B:List Rw):xh (A++B)=xh A++xh B:=by simp[xh]
theorem ka (r:Rw) (B:List Rw):xh (r::B)=(match r.v.ownBlock with | none=>xh B | some g=>g::xh B):=by
 unfold xh Rw.FR
 rw[List.filterMap_cons]
 cases r.v.ownBlock <;> rfl
theorem Own.lt {w:World} {R:List Rw} (h:Own w R):∀k∈xh R,k < w.heap.size:=by
 intro k f
 obtain⟨r,d,i⟩:=ju.mp f
 exact((h.rows r d).lt k i).2
theorem Own.zP {R:List Rw} (h:Own w R) (d:Below w.heap.size w w'):Own w' R:=⟨fun r hr=>yG (h.rows r hr) d,h.apart⟩
theorem Own.ne {A B:List Rw} {r:Rw} (h:Own w (A++r::B)) (f:r.v.ownBlock=some g):g∉xh A/\g∉xh B:=by
 have d:=h.apart
 rw[jd,ka,f]at d
 simp only at d
 obtain⟨k,j,i⟩:=jU.mp d
 exact⟨fun hA=>i g hA g (xB ..) rfl,(YB.mp j).1⟩
theorem Own.swap {A B:List Rw} {r r':Rw} (h:Own w (A++r::B)) (H:∀k,k < w.heap.size->r.v.ownBlock≠some k->w'.heap[k]?=w.heap[k]?) (N:w'.ownsRow 0 r'.t r'.size r'.v r'.n r'.xs) (hat:∀g,r'.v.ownBlock=some g->r.v.ownBlock=some g\/w.heap.size<=g) :
  Own w' (A++r'::B)/\vd w (xh (A++r::B)) (xh (A++r'::B)):=by
 have J:∀k∈xh A,r.v.ownBlock≠some k:=fun k hk e=>(h.ne e).1 hk
 have I:∀k∈xh B,r.v.ownBlock≠some k:=fun k hk e=>(h.ne e).2 hk
 refine⟨⟨?_,?_⟩,?_⟩
 ·intro x hx
  rcases zd.mp hx with hx | hx
  ·have:=h.rows x (zY _ hx)
   exact yP this (fun g hg=>H g (this.lt g hg).2 (J g (qU hx hg)))
  ·rcases zw.mp hx with rfl | hx
   ·exact N
   ·have:=h.rows x (zb _ (zm _ hx))
    exact yP this (fun g hg=>H g (this.lt g hg).2 (I g (qU hx hg)))
 ·have L:=h.apart
  have f:=h.lt
  rw[jd,ka]at L ⊢
  rw[jd,ka]at f
  obtain⟨G,n2,M⟩:=jU.mp L
  have i:(xh B).Nodup:=by
   cases e:r.v.ownBlock with
   | none=>rw[e]at n2;exact n2
   | some g=>rw[e]at n2;exact(YB.mp n2).2
  have o:∀k∈xh A,k < w.heap.size:=fun k hk=>f k (zY _ hk)
  have j:∀k∈xh B,k < w.heap.size:=fun k hk=>f k (zb _ (by
   cases e:r.v.ownBlock with
   | none=>exact hk
   | some g=>exact zm _ hk))
  have F:∀a∈xh A,∀b∈xh B,a≠b:=fun a ha b hb2=>M a ha b (by
   cases e:r.v.ownBlock with
   | none=>exact hb2
   | some g=>exact zm _ hb2)
  cases e:r'.v.ownBlock with
  | none=>exact jU.mpr ⟨G,i,F⟩
  | some g=>
   have D:g∉xh A:=fun hg=>by rcases hat g e with d | d;exact J g hg d;have:=o g hg;omega
   have z:g∉xh B:=fun hg=>by rcases hat g e with d | d;exact I g hg d;have:=j g hg;omega
   refine jU.mpr ⟨G,YB.mpr ⟨z,i⟩,?_⟩
   intro a ha b hb2
   rcases zw.mp hb2 with rfl | hb2
   ·intro O;rw[O]at ha;exact D ha
   ·exact F a ha b hb2
 ·intro k hk
  rw[jd,ka]at hk ⊢
  rcases zd.mp hk with hk | hk
  ·exact Or.inl (zY _ hk)
  ·have y:k∈xh B->k∈xh A++(match r.v.ownBlock with | none=>xh B | some g=>g::xh B):=fun hk=>zb _ (by
    cases e:r.v.ownBlock with
    | none=>exact hk
    | some g=>exact zm _ hk)
   cases e:r'.v.ownBlock with
   | none=>rw[e]at hk;exact Or.inl (y hk)
   | some g=>
    rw[e]at hk
    rcases zw.mp hk with rfl | hk
    ·rcases hat k e with d | d
     ·rw[d];exact Or.inl (zb _ (xB ..))
     ·exact Or.inr d
    ·exact Or.inl (y hk)
theorem Own.add {A B:List Rw} {r:Rw} (h:Own w (A++B)) (k:w.ownsRow 0 r.t r.size r.v r.n r.xs) (o:∀g,r.v.ownBlock=some g->g∉xh (A++B)):Own w (A++r::B):=by
 refine⟨?_,?_⟩
 ·intro x hx
  rcases zd.mp hx with hx | hx
  ·exact h.rows x (zY _ hx)
  ·rcases zw.mp hx with rfl | hx
   ·exact k
   ·exact h.rows x (zb _ hx)
 ·have f:=h.apart
  rw[jd]at f
  obtain⟨j,n2,i⟩:=jU.mp f
  rw[jd,ka]
  cases e:r.v.ownBlock with
  | none=>exact f
  | some g=>
   have:=o g e
   rw[jd]at this
   have z:g∉xh A:=fun hg=>this (zY _ hg)
   have y:g∉xh B:=fun hg=>this (zb _ hg)
   refine jU.mpr ⟨j,YB.mpr ⟨y,n2⟩,?_⟩
   intro a d b hb2
   rcases zw.mp hb2 with rfl | hb2
   ·intro D;rw[D]at d;exact z d
   ·exact i a d b hb2
theorem Own.drop {A B:List Rw} {r:Rw} (h:Own w (A++r::B)):Own w (A++B):=by
 refine⟨fun x hx=>h.rows x (by rcases zd.mp hx with hx | hx;exact zY _ hx;exact zb _ (zm _ hx)),?_⟩
 have d:=h.apart
 rw[jd,ka]at d
 obtain⟨i,n2,f⟩:=jU.mp d
 rw[jd]
 cases e:r.v.ownBlock with
 | none=>rw[e]at d;exact d
 | some g=>
  rw[e]at n2 f
  exact jU.mpr ⟨i,(YB.mp n2).2,fun a ha b hb=>f a ha b (zm _ hb)⟩
theorem mP (A B:List Rw) (r:Rw):∀k∈xh (A++B),k∈xh (A++r::B):=by
 intro k hk
 rw[jd]at hk ⊢
 rcases zd.mp hk with hk | hk
 ·exact zY _ hk
 ·refine zb _ ?_
  rw[ka]
  cases r.v.ownBlock with
  | none=>exact hk
  | some g=>exact zm _ hk
def aA (w:World) (B:Nat) (vs:List Value) (ls:List (List ByteArray)):Prop:=vs.length=ls.length/\∀j (h:j < ls.length),∃v,vs[j]?=some v/\w.ownsRow B 9 1 v ls[j].length (ls[j].map Value.string)
structure ng (w:World) (S:Nat) (ls:List (List ByteArray)) (lv:Value) (vs:List Value):Prop where
 block:w.heap[S]?=some (.cells #[lv] 85 (0,0))
 own:w.ownsRow (S+1) 87 1 lv ls.length vs
 lines:aA w (S+1) vs ls
theorem aA.map (h:aA w B vs ls) (d:∀(n:Nat) (v:Value) (xs:List Value),w.ownsRow B 9 1 v n xs->w'.ownsRow B 9 1 v n xs):aA w' B vs ls:=
 ⟨h.1,fun j hj=>let ⟨v,h1,h2⟩:=h.2 j hj;⟨v,h1,d _ _ _ h2⟩⟩
theorem aA.snoc (h:aA w B vs ls) {u:List ByteArray} (k:w.ownsRow B 9 1 v u.length (u.map Value.string)):aA w B (vs++[v]) (ls++[u]):=by
 refine⟨by simp[h.1],fun j hj=>?_⟩
 by_cases d:j < ls.length
 ·obtain⟨i,x,o⟩:=h.2 j d
  exact⟨i,by rw[yp (by rw[h.1];exact d)];exact x,by rw[xI d];exact o⟩
 ·have f:j=ls.length:=by simp at hj;omega
  subst f
  exact⟨v,by rw[yU (by rw[h.1];exact zB _),h.1];simp,by simpa using k⟩
theorem ng.zP (h:ng w S ls lv vs) (d:Below w.heap.size w w'):ng w' S ls lv vs:=
 ⟨zU h.block d,yG h.own d,h.lines.map (fun _ _ _ h=>yG h d)⟩
theorem ng.push {lv':Value} (h:ng w S ls lv vs) (hv:w.ownsRow (S+1) 9 1 v t.length (t.map Value.string)) (o:Below w.heap.size w w1)
  (y:w2.ownsRow (S+1) 87 1 lv' (ls.length+1) (vs++[v])) (d:w1.grownBy w2 lv.ownBlock) :
  ng (w2.setCell ⟨S,0,none⟩ lv') S (ls++[t]) lv' (vs++[v])/\Below S w (w2.setCell ⟨S,0,none⟩ lv')/\∀(B n:Nat) (u:Value) (xs:List Value),S+1<=B->w.ownsRow B 9 1 u n xs->(w2.setCell ⟨S,0,none⟩ lv').ownsRow B 9 1 u n xs:=by
 have z:=zQ h.block
 have j:∀k,lv.ownBlock=some k->S < k:=fun k hk=>by have:=(h.own.lt k hk).1;omega
 have f:∀k,k < w.heap.size->some k≠lv.ownBlock->w2.heap[k]?=w.heap[k]?:=fun k hk hv=>by
  rw[d.block k (zX hk o.size) hv]
  exact o.block k hk
 have i:∀k,k≠S->(w2.setCell ⟨S,0,none⟩ lv').heap[k]?=w2.heap[k]?:=fun k hk=>zO w2 ⟨S,0,none⟩ _ k hk
 have G:∀(B n:Nat) (u:Value) (xs:List Value),S+1<=B->w.ownsRow B 9 1 u n xs->(w2.setCell ⟨S,0,none⟩ lv').ownsRow B 9 1 u n xs:=by
  intro B n u xs I A
  have D:=Ys A h.own (by decide)
  obtain⟨H,h2⟩:=A
  refine⟨H,?_⟩
  rcases h2 with h2 | ⟨g,cap,cur,x,hg,hh,r⟩
  ·exact Or.inl h2
  ·exact Or.inr ⟨g,cap,cur,x,hg,by rw[i g (by omega),f g (zQ hh) (fun e=>D g (by rw[x];rfl) e.symm)];exact hh,r⟩
 refine⟨⟨?_,?_,(h.lines.map (fun n u xs A=>G _ n u xs (zB _) A)).snoc (G _ _ _ _ (zB _) hv)⟩,?_,G⟩
 ·have F:w2.heap[S]?=some (.cells #[lv] 85 (0,0)):=(f S z (fun e=>by have:=j S e.symm;omega)).trans h.block
  have:=zf F 0 lv'
  simpa using this
 ·rw[ze]
  exact qL y (by show S < S+1;omega) _
 ·refine⟨d.os.trans o.os,d.tape.trans o.tape,d.output.trans o.output,?_,fun k hk=>(i k (by omega)).trans (f k (by omega) (fun e=>by have:=j k e.symm;omega))⟩
  have H:=d.size
  have h2:=o.size
  simp[World.setCell]
  omega
theorem EA {row:Option Nat} (d:w.heap[S]?=some (.cells #[lv] 85 (0,0))) (i:Below w.heap.size w w1) (f:w1.grownBy w2 row) (j:row≠some S) :
  w2.cell? ⟨S,0,none⟩=some lv/\w2.frozen? ⟨S,0,none⟩=false:=by
 have h:w2.heap[S]?=some (.cells #[lv] 85 (0,0)):=by
  rw[f.block S (zX (zQ d) i.size) (xK j),i.block S (zQ d)]
  exact d
 exact⟨zC h 0 (by simp),zS h 0⟩
theorem ng.toG (h:ng w S ls lv vs) (j:0 < ls.length):∃g cap,lv=.slice (some ⟨g,0,none⟩) ls.length cap/\jA w S g cap ls:=by
 obtain⟨z,x,_⟩:=h.lines.2 0 j
 obtain⟨g,cap,f,_,_,_⟩:=yD h.own x
 refine⟨g,cap,f,?_,fun l hl=>?_,⟨⟨_,h.block⟩,yW h.own (by rw[f];rfl)⟩,fun l v hv hl b hb=>?_⟩
 ·have:=zC h.block 0 (by simp)
  simp at this
  rw[this,f]
 ·obtain⟨v,o,i⟩:=h.lines.2 l hl
  obtain⟨g',cap',d,_,_,k⟩:=yD h.own o
  rw[f]at d
  simp at d
  obtain⟨y,c,rfl⟩:=zK i
  rw[d.1]
  exact⟨y,c,k,QA i⟩
 ·obtain⟨u,o,i⟩:=h.lines.2 l hl
  obtain⟨g',cap',d,_,_,k⟩:=yD h.own o
  rw[f]at d
  simp at d
  rw[d.1,k]at hv
  injection hv with hv
  subst hv
  exact yW i hb
end Go.Proofs.YthleadfkfnnadaaGreat
