/- The document's answer: a source while its lines are read. -/
import Derived.Test.YthleadfkfnnadaaGreatPlainb
import Derived.Test.YthleadfkfnnadaaGreatRef1
set_option maxHeartbeats 4000000
set_option maxRecDepth 100000
namespace Go.Proofs.YthleadfkfnnadaaGreat
open Go.RowKit
structure Pop where
 code:Int
 number:Int
 name:ByteArray
namespace Rt
abbrev Got:=Option (List Pop×List Tk)
def pLoop (pf:List Tk→Got) (lo hi:Int):Nat→List Tk→Got
 | 0,_=>none
 | _+1,[]=>some ([],[])
 | g+1,t::r=>
  if lo≤zU t.text∧zU t.text≤hi then
   match pf r with
   | none=>none
   | some (e,r')=>
    match pLoop pf lo hi g r' with
    | none=>none
    | some (e',r'')=>some (e++⟨zU t.text,0,⟨#[]⟩⟩::e',r'')
  else some ([],t::r)
def zCu (em:List Pop):Got→Got
 | none=>none
 | some (e,r)=>some (em++e,r)
def zDT (pf:List Tk→Got) (lo hi:Int) (rem:List Tk):Got:=
 match pf rem with
 | none=>none
 | some (e,r)=>zCu e (pLoop pf lo hi 25 r)
def zGT (pf:List Tk→Got):List Tk→Got:=zDT pf 7 9
def zGP (pf:List Tk→Got):List Tk→Got:=zDT (zGT pf) 5 6
def pComp (pf:List Tk→Got) (rem:List Tk):Got:=
 match zGP pf rem with
 | none=>none
 | some (e,[])=>some (e,[])
 | some (e,t::r)=>
  if 10≤zU t.text∧zU t.text≤11 then
   match zGP pf r with
   | none=>none
   | some (e',r')=>some (e++e'++[⟨zU t.text,0,⟨#[]⟩⟩],r')
  else some (e,t::r)
def closed (x:ByteArray) (last:List Pop):Got→Got
 | none=>none
 | some (_,[])=>none
 | some (e,t::r)=>if t.text=x then some (e++last,r)else none
def pVar (pc:List Tk→Got) (name:ByteArray):List Tk→Got
 | []=>some ([⟨2,0,name⟩],[])
 | t::r=>if t.text=⟨#[91]⟩then closed ⟨#[93]⟩ [⟨3,0,name⟩] (pc r)else some ([⟨2,0,name⟩],t::r)
def ze:Nat→List Tk→Got
 | 0,_=>none
 | _+1,[]=>none
 | f+1,t::r=>
  if t.text=⟨#[45]⟩then
   match ze f r with
   | none=>none
   | some (e,r')=>some (e++[⟨4,0,⟨#[]⟩⟩],r')
  else if t.text=⟨#[40]⟩then closed ⟨#[41]⟩ [] (pComp (ze f) r)
  else if t.kind=2 then some ([⟨1,val t.text,⟨#[]⟩⟩],r)
  else if t.kind=1∧zHE t.text=false then pVar (pComp (ze f)) t.text r
  else none
def zCd (rem:List Tk):Got:=pComp (ze 24) rem
structure zAU where
 kind:Int
 name:ByteArray
 cells:Int
 params:List ByteArray
 index:List Pop
 values:List (List Pop)
def zBK:List Tk→Option (ByteArray×List Tk)
 | []=>none
 | t::r=>if t.kind=1∧zHE t.text=false then some (t.text,r)else none
abbrev zI3:=Option (zAU×List Tk)
def pNamed (kind:Int) (rem:List Tk):zI3:=
 match zBK rem with
 | none=>none
 | some (nm,r)=>some (⟨kind,nm,0,[],[],[]⟩,r)
def zBf (kind:Int) (rem:List Tk):zI3:=
 match zCd rem with
 | none=>none
 | some (e,r)=>some (⟨kind,⟨#[]⟩,0,[],[],[e]⟩,r)
def zDD:List Tk→Option (Int×List Tk)
 | []=>none
 | t::r=>if t.kind=2 then some (val t.text,r)else none
def pArray (rem:List Tk):zI3:=
 match zBK rem with
 | none=>none
 | some (nm,r)=>
  match zDD r with
  | none=>none
  | some (v,r')=>if v < 1∨32 < v then none else some (⟨2,nm,v,[],[],[]⟩,r')
def zAw (acc:List ByteArray):List Tk→Option (List ByteArray)
 | []=>some acc
 | t::r=>if (t.kind=1∧zHE t.text=false)∧acc.length < 4 then zAw (acc++[t.text]) r else none
def pProc (rem:List Tk):zI3:=
 match zBK rem with
 | none=>none
 | some (nm,r)=>
  match zAw [] r with
  | none=>none
  | some ps=>some (⟨3,nm,0,ps,[],[]⟩,[])
def zA6 (x:ByteArray):List Tk→Option (List Tk)
 | []=>none
 | t::r=>if t.text=x then some r else none
def pTo (kind:Int) (nm:ByteArray) (ix:List Pop) (rem:List Tk):zI3:=
 match zA6 ⟨#[116,111]⟩ rem with
 | none=>none
 | some r=>
  match zCd r with
  | none=>none
  | some (e,r')=>some (⟨kind,nm,0,[],ix,[e]⟩,r')
def zFK (rem:List Tk):zI3:=
 match zBK rem with
 | none=>none
 | some (nm,r)=>
  match zA6 ⟨#[91]⟩ r with
  | none=>pTo 8 nm [] r
  | some r1=>
   match zCd r1 with
   | none=>none
   | some (ix,r2)=>
    match zA6 ⟨#[93]⟩ r2 with
    | none=>none
    | some r3=>pTo 9 nm ix r3
theorem zPP {kind:Int} {nm:ByteArray} {ix:List Pop} {rem:List Tk} (h:zA6 ⟨#[116,111]⟩ rem=none):pTo kind nm ix rem=none:=by rw[pTo,h]
theorem to_no {kind:Int} {nm:ByteArray} {ix:List Pop} {rem r:List Tk} (h:zA6 ⟨#[116,111]⟩ rem=some r) (h2:zCd r=none):pTo kind nm ix rem=none:=by rw[pTo,h];simp only;rw[h2]
theorem to_ok {kind:Int} {nm:ByteArray} {ix e:List Pop} {rem r r':List Tk} (h:zA6 ⟨#[116,111]⟩ rem=some r) (h2:zCd r=some (e,r')):pTo kind nm ix rem=some (⟨kind,nm,0,[],ix,[e]⟩,r'):=by rw[pTo,h];simp only;rw[h2]
theorem set_a {rem r:List Tk} {nm:ByteArray} {x:zI3} (h:zBK rem=some (nm,r)) (h2:zA6 ⟨#[91]⟩ r=none) (h3:pTo 8 nm [] r=x):zFK rem=x:=by rw[zFK,h];simp only;rw[h2];exact h3
theorem set_b {rem r r1 r2 r3:List Tk} {nm:ByteArray} {ix:List Pop} {x:zI3} (h:zBK rem=some (nm,r)) (h2:zA6 ⟨#[91]⟩ r=some r1) (h3:zCd r1=some (ix,r2)) (h4:zA6 ⟨#[93]⟩ r2=some r3) (h5:pTo 9 nm ix r3=x):zFK rem=x:=by
 rw[zFK,h];simp only;rw[h2];simp only;rw[h3];simp only;rw[h4];exact h5
theorem set_c {rem r r1 r2:List Tk} {nm:ByteArray} {ix:List Pop} (h:zBK rem=some (nm,r)) (h2:zA6 ⟨#[91]⟩ r=some r1) (h3:zCd r1=some (ix,r2)) (h4:zA6 ⟨#[93]⟩ r2=none):zFK rem=none:=by
 rw[zFK,h];simp only;rw[h2];simp only;rw[h3];simp only;rw[h4]
theorem set_d {rem r r1:List Tk} {nm:ByteArray} (h:zBK rem=some (nm,r)) (h2:zA6 ⟨#[91]⟩ r=some r1) (h3:zCd r1=none):zFK rem=none:=by
 rw[zFK,h];simp only;rw[h2];simp only;rw[h3]
def pArgs:Nat→List (List Pop)→List Tk→Option (List (List Pop)×List Tk)
 | 0,_,_=>none
 | f+1,acc,rem=>
  match zCd rem with
  | none=>none
  | some (e,r)=>
   match zA6 ⟨#[44]⟩ r with
   | none=>some (acc++[e],r)
   | some r'=>pArgs f (acc++[e]) r'
def zCK (r:List Tk):Option (List (List Pop)×List Tk):=if r=[]then some ([],r)else pArgs 25 [] r
def pCall (rem:List Tk):zI3:=
 match zBK rem with
 | none=>none
 | some (nm,r)=>
  match zCK r with
  | none=>none
  | some (vs,r')=>some (⟨12,nm,0,[],[],vs⟩,r')
theorem zQ7 {f:Nat} {acc:List (List Pop)} {rem:List Tk} (h:zCd rem=none):pArgs (f+1) acc rem=none:=by rw[pArgs,h]
theorem zQ6 {f:Nat} {acc:List (List Pop)} {rem r:List Tk} {e:List Pop} (h:zCd rem=some (e,r)) (h2:zA6 ⟨#[44]⟩ r=none):pArgs (f+1) acc rem=some (acc++[e],r):=by rw[pArgs,h];simp only;rw[h2]
theorem zQ8 {f:Nat} {acc:List (List Pop)} {rem r r':List Tk} {e:List Pop} (h:zCd rem=some (e,r)) (h2:zA6 ⟨#[44]⟩ r=some r'):pArgs (f+1) acc rem=pArgs f (acc++[e]) r':=by rw[pArgs,h];simp only;rw[h2]
theorem zQ2 {rem r:List Tk} {nm:ByteArray} (h:zBK rem=some (nm,r)) (h2:zCK r=none):pCall rem=none:=by rw[pCall,h];simp only;rw[h2]
theorem zQ1 {rem r r':List Tk} {nm:ByteArray} {vs:List (List Pop)} (h:zBK rem=some (nm,r)) (h2:zCK r=some (vs,r')):pCall rem=some (⟨12,nm,0,[],[],vs⟩,r'):=by rw[pCall,h];simp only;rw[h2]
def zAC (first:ByteArray) (rem:List Tk):zI3:=
 if first.toList==[118,97,114]then pNamed 1 rem
 else if first.toList==[97,114,114,97,121]then pArray rem
 else if first.toList==[112,114,111,99]then pProc rem
 else if first.toList==[101,110,100]then some (⟨4,⟨#[]⟩,0,[],[],[]⟩,rem)
 else if first.toList==[105,102]then zBf 5 rem
 else if first.toList==[101,108,115,101]then some (⟨6,⟨#[]⟩,0,[],[],[]⟩,rem)
 else if first.toList==[119,104,105,108,101]then zBf 7 rem
 else if first.toList==[115,101,116]then zFK rem
 else if first.toList==[112,114,105,110,116]then zBf 10 rem
 else if first.toList==[114,101,97,100]then pNamed 11 rem
 else if first.toList==[99,97,108,108]then pCall rem
 else if first.toList==[114,101,116,117,114,110]then some (⟨13,⟨#[]⟩,0,[],[],[]⟩,rem)
 else none
def pLineAll:List Tk→Option zAU
 | []=>some ⟨0,⟨#[]⟩,0,[],[],[]⟩
 | t::r=>
  match zAC t.text r with
  | none=>none
  | some (fm,r')=>if r'=[]then some fm else none
theorem zDB:∀(ts:List Tk) (i:Nat) (h:i < ts.length),(zAX ts)[i*2]?=some (.int .i64 ts[i].kind)∧(zAX ts)[i*2+1]?=some (.string ts[i].text)
 | [],i,h=>by simp at h
 | t::r,0,_=>by simp[zAX,zI6]
 | t::r,i+1,h=>by
  have ih:=zDB r i (by simpa using h)
  have e:zAX (t::r)=[Value.int .i64 t.kind,Value.string t.text]++zAX r:=by simp[zAX,zI6]
  have e2:(i+1)*2=i*2+2:=by omega
  rw[e,e2]
  simpa using ih
theorem zDr (s:ByteArray) (hs:s.size≤40000):∀(f a:Nat) (acc ts:List Tk),acc.length≤24→(∀t∈acc,t.text.size≤40000)→toksFrom s f a acc=some ts→ts.length≤24∧∀t∈ts,t.text.size≤40000
 | 0,_,_,_,_,_,h=>by simp[toksFrom]at h
 | f+1,a,acc,ts,h1,h2,h=>by
  rw[toksFrom]at h
  split at h
  ·split at h
   ·exact zDr s hs f _ _ _ h1 h2 h
   ·split at h
    ·cases h
    ·next hc=>
     refine zDr s hs f _ _ _ (by simp;omega) ?_ h
     intro t ht
     simp at ht
     rcases ht with ht | rfl
     ·exact h2 t ht
     ·simp[ByteArray.size_extract];omega
  ·simp at h
   subst h
   exact⟨h1,h2⟩
theorem zEv {s:ByteArray} {ts:List Tk} (hs:s.size≤40000) (h:zf s=some ts):ts.length≤24∧∀t∈ts,t.text.size≤40000:=
 zDr s hs _ _ _ _ (by simp) (by simp) h
theorem zDU (s:ByteArray) (hs:s.size≤40000):∀(f a i:Nat) (acc:List ByteArray),(∀t∈acc,t.size≤40000)→(∀t∈linesFrom s f a i acc,t.size≤40000)
 | 0,_,_,acc,h=>by simpa[linesFrom] using h
 | f+1,a,i,acc,h=>by
  rw[linesFrom]
  split
  ·split
   ·refine zDU s hs f _ _ _ ?_
    intro t ht
    simp at ht
    rcases ht with ht | rfl
    ·exact h t ht
    ·simp[ByteArray.size_extract];omega
   ·exact zDU s hs f _ _ _ h
  ·intro t ht
   simp at ht
   rcases ht with ht | rfl
   ·exact h t ht
   ·simp[ByteArray.size_extract];omega
theorem zCk {s:ByteArray} (hs:s.size≤40000):∀t∈lines s,t.size≤40000:=zDU s hs _ _ _ _ (by simp)
theorem zEW (s:ByteArray):∀(f a i:Nat) (acc:List ByteArray),i≤s.size→s.size < f+i→(linesFrom s f a i acc).length+nls s i=acc.length+1+nls s s.size
 | 0,_,_,_,h,h2=>by omega
 | f+1,a,i,acc,h,h2=>by
  rw[linesFrom]
  split
  ·next hlt=>
   have hn:nls s (i+1)=nls s i+(if zAO s i=10 then 1 else 0):=rfl
   split
   ·next hb=>
    have:=zEW s f (i+1) (i+1) (acc++[s.extract a i]) (by omega) (by omega)
    rw[if_pos hb]at hn
    simp at this
    omega
   ·next hb=>
    have:=zEW s f a (i+1) acc (by omega) (by omega)
    rw[if_neg hb]at hn
    omega
  ·have:i=s.size:=by omega
   subst this
   simp
theorem zIH (s:ByteArray):(lines s).length=1+nls s s.size:=by
 have:=zEW s (s.size+1) 0 0 [] (by omega) (by omega)
 simp[nls]at this
 rw[lines]
 omega
end Rt
namespace Rf
theorem zGH (ls:List (List ByteArray)) (n:Nat) (h:0 < home ls n):0 < home ls (n+1):=by
 rw[zDn];split <;> omega
theorem zDk {ls:List (List ByteArray)}:∀(f k:Nat) (op sp:List Nat),ls.length-k=f→nestFrom ls (ls.drop k) k op sp=0→(0 < op.length→0 < home ls k)→
  ∀l (hl:l < ls.length),k≤l→zDb ls[l]=false→((first ls[l]).toList==[])=false→0 < home ls (l+1)
 | 0,k,op,sp,hf,_,_,l,hl,hkl,_,_=>by omega
 | f+1,k,op,sp,hf,h,ho,l,hl,hkl,ht,he=>by
  have hk:k < ls.length:=by omega
  obtain⟨i,hi,hF⟩:=zCi (first ls[k])
  rw[zGr hk hF]at h
  obtain⟨f0,f1,f2,f3,f4,f5,f6,f7⟩:=hF
  by_cases hlk:l=k
  ·subst hlk
   have i0:¬i=0:=by intro e;rw[e]at f0;rw[he]at f0;cases f0
   have i3:¬(i=1∨i=2∨i=3):=by
    rintro (e | e | e) <;> subst e <;> unfold zDb at ht
    ·rw[f1]at ht;simp at ht
    ·rw[f2]at ht;simp at ht
    ·rw[f3]at ht;simp at ht
   rw[if_neg i0]at h
   by_cases h0:op.length=0
   ·rw[if_pos (by simp[i3,h0])]at h;omega
   ·exact zGH ls l (ho (by omega))
  ·have hk1:k+1≤l:=by omega
   by_cases i0:i=0
   ·rw[if_pos i0]at h
    exact zDk f (k+1) op sp (by omega) h (fun h'=>zGH ls k (ho h')) l hl hk1 ht he
   rw[if_neg i0]at h
   by_cases hc:decide (i=1∨i=2∨i=3)=!decide (op.length=0)
   ·rw[if_pos hc]at h;omega
   rw[if_neg hc]at h
   by_cases i3:i=3∨i=4∨i=5
   ·rw[if_pos i3]at h
    refine zDk f (k+1) _ sp (by omega) h (fun _=>?_) l hl hk1 ht he
    by_cases e3:i=3
    ·rw[zDn,zr hk,if_pos (by rw[f3];simp[e3])];omega
    ·have:¬op.length=0:=by
      intro h0
      apply hc
      have:¬(i=1∨i=2∨i=3):=by omega
      simp[this,h0]
     exact zGH ls k (ho (by omega))
   rw[if_neg i3]at h
   by_cases i6:i=6
   ·rw[if_pos i6]at h
    split at h
    ·omega
    ·exact zDk f (k+1) op _ (by omega) h (fun h'=>zGH ls k (ho h')) l hl hk1 ht he
   rw[if_neg i6]at h
   by_cases i7:i=7
   ·rw[if_pos i7]at h
    refine zDk f (k+1) _ _ (by omega) h (fun h'=>zGH ls k (ho ?_)) l hl hk1 ht he
    rw[List.length_dropLast]at h'
    omega
   rw[if_neg i7]at h
   exact zDk f (k+1) op sp (by omega) h (fun h'=>zGH ls k (ho h')) l hl hk1 ht he
theorem zIj {ls:List (List ByteArray)} (h:nested ls=0) {l:Nat} (hl:l < ls.length) (ht:zDb ls[l]=false) (he:((first ls[l]).toList==[])=false):0 < home ls (l+1):=
 zDk ls.length 0 [] [] (by omega) h (by simp) l hl (by omega) ht he
def formsFrom:Nat→List ByteArray→List (List ByteArray)→Nat×List (List ByteArray)
 | _,[],acc=>(0,acc)
 | i,s::r,acc=>
  match Rt.zf s with
  | none=>(i+1,acc)
  | some ts=>if zx (tx ts)=true then formsFrom (i+1) r (acc++[tx ts])else (i+1,acc)
def rightFrom (ls:List (List ByteArray)):Nat→Nat→Nat
 | 0,_=>0
 | f+1,k=>if zA3 ls k (zAA ls k)=true then rightFrom ls f (k+1)else k+1
def zCy:ByteArray:=⟨#[109,97,105,110]⟩
def zA0 (ls:List (List ByteArray)):Int×Int×List (List ByteArray):=
 if decl ls zCy=0 then (4,0,[])
 else if ((first (zAA ls (decl ls zCy-1))).toList==[112,114,111,99])=false then (4,0,[])
 else (0,0,ls)
def zDj (ls:List (List ByteArray)):Int×Int×List (List ByteArray):=
 if ¬nested ls=0 then (3,nested ls,[])
 else if ¬rightFrom ls ls.length 0=0 then (4,rightFrom ls ls.length 0,[])
 else zA0 ls
def zBx (s:ByteArray):Int×Int×List (List ByteArray):=
 if 40000 < s.size then (1,0,[])
 else if 100 < (Rt.lines s).length then (1,0,[])
 else if ¬(formsFrom 0 (Rt.lines s) []).1=0 then (2,(formsFrom 0 (Rt.lines s) []).1,[])
 else zDj (formsFrom 0 (Rt.lines s) []).2
end Rf
theorem few_tx {s:ByteArray} {ts:List Rt.Tk} (hs:s.size≤40000) (h:Rt.zf s=some ts):Few (Rf.tx ts):=by
 obtain⟨h1,h2⟩:=Rt.zEv hs h
 refine⟨by simp[Rf.tx];omega,fun x hx=>?_⟩
 simp[Rf.tx]at hx
 obtain⟨t,ht,rfl⟩:=hx
 exact h2 t ht
structure zHy (ls:List (List ByteArray)):Prop where
 few:∀t∈ls,Few t
 line:∀t∈ls,Rf.zx t=true
theorem zHy.lawful {ls:List (List ByteArray)} (h:zHy ls) (hl:ls.length≤100):Lawful ls:=⟨hl,h.few,fun t ht htop=>Rf.top_two (h.line t ht) htop⟩
theorem zHy.snoc {ls:List (List ByteArray)} (h:zHy ls) {t:List ByteArray} (h1:Few t) (h2:Rf.zx t=true):zHy (ls++[t]):=
 ⟨fun u hu=>by simp at hu;rcases hu with hu | rfl;exact h.few u hu;exact h1,fun u hu=>by simp at hu;rcases hu with hu | rfl;exact h.line u hu;exact h2⟩
theorem zHy.lineOK {ls:List (List ByteArray)} (h:zHy ls) (hn:Rf.nested ls=0) (l:Nat) (hl:l < ls.length):zMk ls l hl:=by
 refine⟨fun ht i hi _=>Rf.zIj hn hl ht ?_,fun hc=>Rf.call_two (h.line _ (List.getElem_mem hl)) hc⟩
 cases he:((Rf.first ls[l]).toList==[])with
 | false=>rfl
 | true=>
  exfalso
  rw[Rf.zKJ (by omega),beq_iff_eq]at he
  have hk:=h.line _ (List.getElem_mem hl)
  rw[Rf.zD8 (by omega),Rf.zKJ (by omega),he]at hk
  simp[Rf.isKind]at hk
structure Rw where
 t:TypeId
 size:Nat
 v:Value
 n:Nat
 xs:List Value
def Rw.blk (r:Rw):Option Nat:=r.v.ownBlock
def zAJ (R:List Rw):List Nat:=R.filterMap Rw.blk
structure Own (w:World) (R:List Rw):Prop where
 rows:∀r∈R,w.ownsRow 0 r.t r.size r.v r.n r.xs
 apart:(zAJ R).Nodup
structure Frm (w w':World) (F:List Nat):Prop where
 os:w'.os=w.os
 tape:w'.tape=w.tape
 output:w'.output=w.output
 size:w.heap.size≤w'.heap.size
 block:∀k,k < w.heap.size→k∉F→w'.heap[k]?=w.heap[k]?
theorem Frm.zD0 {w w':World} (F:List Nat) (h:Below w.heap.size w w'):Frm w w' F:=⟨h.os,h.tape,h.output,h.size,fun k hk _=>h.block k hk⟩
def zCz (w:World) (F F':List Nat):Prop:=∀k∈F',k∈F∨w.heap.size≤k
theorem Frm.trans {w w1 w2:World} {F F1:List Nat} (h:Frm w w1 F) (h2:Frm w1 w2 F1) (hg:zCz w F F1):Frm w w2 F:=
 ⟨h2.os.trans h.os,h2.tape.trans h.tape,h2.output.trans h.output,Nat.le_trans h.size h2.size,fun k hk hn=>(h2.block k (Nat.lt_of_lt_of_le hk h.size) (fun hf=>by rcases hg k hf with h' | h';exact hn h';omega)).trans (h.block k hk hn)⟩
theorem zCz.refl (w:World) (F:List Nat):zCz w F F:=fun _ h=>Or.inl h
theorem zCz.trans {w w1:World} {F F1 F2:List Nat} (h:zCz w F F1) (h2:zCz w1 F1 F2) (hs:w.heap.size≤w1.heap.size):zCz w F F2:=fun k hk=>by
 rcases h2 k hk with h' | h'
 ·exact h k h'
 ·exact Or.inr (Nat.le_trans hs h')
theorem zAj {w:World} {B:Nat} {e:TypeId} {size n:Nat} {v:Value} {xs:List Value} (h:w.ownsRow B e size v n xs) {g:Nat} (hg:v.ownBlock=some g):∃c,w.heap[g]?=some (.cells c e (0,0)):=by
 rcases h.2 with⟨h',_⟩| ⟨g',_,cur,h',_,hh,_⟩
 ·rw[h']at hg;cases hg
 ·rw[h']at hg
  simp[Value.ownBlock]at hg
  subst hg
  exact⟨_,hh⟩
theorem zCr {w:World} {B:Nat} {e:TypeId} {size n:Nat} {v:Value} {xs:List Value} (h:w.ownsRow B e size v n xs):w.ownsRow 0 e size v n xs:=zh h (Nat.zero_le _)
theorem zAZ {w w':World} {B:Nat} {e:TypeId} {size n:Nat} {v:Value} {xs:List Value} (h:w.ownsRow B e size v n xs) (hb:∀g,v.ownBlock=some g→w'.heap[g]?=w.heap[g]?):w'.ownsRow B e size v n xs:=by
 obtain⟨h1,h2⟩:=h
 refine⟨h1,?_⟩
 rcases h2 with h2 | ⟨g,cap,cur,hv,hg,hh,r⟩
 ·exact Or.inl h2
 ·exact Or.inr ⟨g,cap,cur,hv,hg,by rw[hb g (by rw[hv];rfl)];exact hh,r⟩
theorem zAf {R:List Rw} {r:Rw} (h:r∈R) {g:Nat} (hg:r.v.ownBlock=some g):g∈zAJ R:=List.mem_filterMap.mpr ⟨r,h,hg⟩
theorem zA7 (A B:List Rw):zAJ (A++B)=zAJ A++zAJ B:=by simp[zAJ]
theorem zBY (r:Rw) (B:List Rw):zAJ (r::B)=(match r.v.ownBlock with | none=>zAJ B | some g=>g::zAJ B):=by
 unfold zAJ Rw.blk
 rw[List.filterMap_cons]
 cases r.v.ownBlock <;> rfl
theorem Own.lt {w:World} {R:List Rw} (h:Own w R):∀k∈zAJ R,k < w.heap.size:=by
 intro k hk
 obtain⟨r,hr,hg⟩:=List.mem_filterMap.mp hk
 exact((h.rows r hr).lt k hg).2
theorem Own.zH {w w':World} {R:List Rw} (h:Own w R) (hb:Below w.heap.size w w'):Own w' R:=⟨fun r hr=>zZ (h.rows r hr) hb,h.apart⟩
theorem Own.ne {w:World} {A B:List Rw} {r:Rw} (h:Own w (A++r::B)) {g:Nat} (hg:r.v.ownBlock=some g):g∉zAJ A∧g∉zAJ B:=by
 have h1:=h.apart
 rw[zA7,zBY,hg]at h1
 simp only at h1
 obtain⟨h2,h3,h4⟩:=List.nodup_append.mp h1
 exact⟨fun hA=>h4 g hA g (List.mem_cons_self ..) rfl,(List.nodup_cons.mp h3).1⟩
theorem Own.swap {w w':World} {A B:List Rw} {r r':Rw} (h:Own w (A++r::B)) (hb:∀k,k < w.heap.size→r.v.ownBlock≠some k→w'.heap[k]?=w.heap[k]?) (hr:w'.ownsRow 0 r'.t r'.size r'.v r'.n r'.xs) (hat:∀g,r'.v.ownBlock=some g→r.v.ownBlock=some g∨w.heap.size≤g) :
  Own w' (A++r'::B)∧zCz w (zAJ (A++r::B)) (zAJ (A++r'::B)):=by
 have hA:∀k∈zAJ A,r.v.ownBlock≠some k:=fun k hk e=>(h.ne e).1 hk
 have hB:∀k∈zAJ B,r.v.ownBlock≠some k:=fun k hk e=>(h.ne e).2 hk
 refine⟨⟨?_,?_⟩,?_⟩
 ·intro x hx
  rcases List.mem_append.mp hx with hx | hx
  ·have:=h.rows x (List.mem_append_left _ hx)
   exact zAZ this (fun g hg=>hb g (this.lt g hg).2 (hA g (zAf hx hg)))
  ·rcases List.mem_cons.mp hx with rfl | hx
   ·exact hr
   ·have:=h.rows x (List.mem_append_right _ (List.mem_cons_of_mem _ hx))
    exact zAZ this (fun g hg=>hb g (this.lt g hg).2 (hB g (zAf hx hg)))
 ·have h1:=h.apart
  have hlt:=h.lt
  rw[zA7,zBY]at h1 ⊢
  rw[zA7,zBY]at hlt
  obtain⟨n1,n2,n3⟩:=List.nodup_append.mp h1
  have n2':(zAJ B).Nodup:=by
   cases e:r.v.ownBlock with
   | none=>rw[e]at n2;exact n2
   | some g=>rw[e]at n2;exact(List.nodup_cons.mp n2).2
  have hltA:∀k∈zAJ A,k < w.heap.size:=fun k hk=>hlt k (List.mem_append_left _ hk)
  have hltB:∀k∈zAJ B,k < w.heap.size:=fun k hk=>hlt k (List.mem_append_right _ (by
   cases e:r.v.ownBlock with
   | none=>exact hk
   | some g=>exact List.mem_cons_of_mem _ hk))
  have n4:∀a∈zAJ A,∀b∈zAJ B,a≠b:=fun a ha b hb2=>n3 a ha b (by
   cases e:r.v.ownBlock with
   | none=>exact hb2
   | some g=>exact List.mem_cons_of_mem _ hb2)
  cases e:r'.v.ownBlock with
  | none=>exact List.nodup_append.mpr ⟨n1,n2',n4⟩
  | some g=>
   have hgA:g∉zAJ A:=fun hg=>by rcases hat g e with h' | h';exact hA g hg h';have:=hltA g hg;omega
   have hgB:g∉zAJ B:=fun hg=>by rcases hat g e with h' | h';exact hB g hg h';have:=hltB g hg;omega
   refine List.nodup_append.mpr ⟨n1,List.nodup_cons.mpr ⟨hgB,n2'⟩,?_⟩
   intro a ha b hb2
   rcases List.mem_cons.mp hb2 with rfl | hb2
   ·intro e2;rw[e2]at ha;exact hgA ha
   ·exact n4 a ha b hb2
 ·intro k hk
  rw[zA7,zBY]at hk ⊢
  rcases List.mem_append.mp hk with hk | hk
  ·exact Or.inl (List.mem_append_left _ hk)
  ·have hkB:k∈zAJ B→k∈zAJ A++(match r.v.ownBlock with | none=>zAJ B | some g=>g::zAJ B):=fun hk=>List.mem_append_right _ (by
    cases e:r.v.ownBlock with
    | none=>exact hk
    | some g=>exact List.mem_cons_of_mem _ hk)
   cases e:r'.v.ownBlock with
   | none=>rw[e]at hk;exact Or.inl (hkB hk)
   | some g=>
    rw[e]at hk
    rcases List.mem_cons.mp hk with rfl | hk
    ·rcases hat k e with h' | h'
     ·rw[h'];exact Or.inl (List.mem_append_right _ (List.mem_cons_self ..))
     ·exact Or.inr h'
    ·exact Or.inl (hkB hk)
theorem Own.add {w:World} {A B:List Rw} {r:Rw} (h:Own w (A++B)) (hr:w.ownsRow 0 r.t r.size r.v r.n r.xs) (hn:∀g,r.v.ownBlock=some g→g∉zAJ (A++B)):Own w (A++r::B):=by
 refine⟨?_,?_⟩
 ·intro x hx
  rcases List.mem_append.mp hx with hx | hx
  ·exact h.rows x (List.mem_append_left _ hx)
  ·rcases List.mem_cons.mp hx with rfl | hx
   ·exact hr
   ·exact h.rows x (List.mem_append_right _ hx)
 ·have h1:=h.apart
  rw[zA7]at h1
  obtain⟨n1,n2,n3⟩:=List.nodup_append.mp h1
  rw[zA7,zBY]
  cases e:r.v.ownBlock with
  | none=>exact h1
  | some g=>
   have:=hn g e
   rw[zA7]at this
   have h2:g∉zAJ A:=fun hg=>this (List.mem_append_left _ hg)
   have h3:g∉zAJ B:=fun hg=>this (List.mem_append_right _ hg)
   refine List.nodup_append.mpr ⟨n1,List.nodup_cons.mpr ⟨h3,n2⟩,?_⟩
   intro a ha b hb2
   rcases List.mem_cons.mp hb2 with rfl | hb2
   ·intro e2;rw[e2]at ha;exact h2 ha
   ·exact n3 a ha b hb2
theorem Own.drop {w:World} {A B:List Rw} {r:Rw} (h:Own w (A++r::B)):Own w (A++B):=by
 refine⟨fun x hx=>h.rows x (by rcases List.mem_append.mp hx with hx | hx;exact List.mem_append_left _ hx;exact List.mem_append_right _ (List.mem_cons_of_mem _ hx)),?_⟩
 have h1:=h.apart
 rw[zA7,zBY]at h1
 obtain⟨n1,n2,n3⟩:=List.nodup_append.mp h1
 rw[zA7]
 cases e:r.v.ownBlock with
 | none=>rw[e]at h1;exact h1
 | some g=>
  rw[e]at n2 n3
  exact List.nodup_append.mpr ⟨n1,(List.nodup_cons.mp n2).2,fun a ha b hb=>n3 a ha b (List.mem_cons_of_mem _ hb)⟩
theorem zLr (A B:List Rw) (r:Rw):∀k∈zAJ (A++B),k∈zAJ (A++r::B):=by
 intro k hk
 rw[zA7]at hk ⊢
 rcases List.mem_append.mp hk with hk | hk
 ·exact List.mem_append_left _ hk
 ·refine List.mem_append_right _ ?_
  rw[zBY]
  cases r.v.ownBlock with
  | none=>exact hk
  | some g=>exact List.mem_cons_of_mem _ hk
def zG7 (w:World) (B:Nat) (vs:List Value) (ls:List (List ByteArray)):Prop:=vs.length=ls.length∧∀j (h:j < ls.length),∃v,vs[j]?=some v∧w.ownsRow B 9 1 v ls[j].length (ls[j].map Value.string)
structure SrcS (w:World) (S:Nat) (ls:List (List ByteArray)) (lv:Value) (vs:List Value):Prop where
 block:w.heap[S]?=some (.cells #[lv] 85 (0,0))
 own:w.ownsRow (S+1) 87 1 lv ls.length vs
 lines:zG7 w (S+1) vs ls
theorem zG7.map {w w':World} {B:Nat} {vs:List Value} {ls:List (List ByteArray)} (h:zG7 w B vs ls) (hx:∀(n:Nat) (v:Value) (xs:List Value),w.ownsRow B 9 1 v n xs→w'.ownsRow B 9 1 v n xs):zG7 w' B vs ls:=
 ⟨h.1,fun j hj=>let ⟨v,h1,h2⟩:=h.2 j hj;⟨v,h1,hx _ _ _ h2⟩⟩
theorem zG7.snoc {w:World} {B:Nat} {vs:List Value} {ls:List (List ByteArray)} (h:zG7 w B vs ls) {v:Value} {u:List ByteArray} (hv:w.ownsRow B 9 1 v u.length (u.map Value.string)):zG7 w B (vs++[v]) (ls++[u]):=by
 refine⟨by simp[h.1],fun j hj=>?_⟩
 by_cases hj':j < ls.length
 ·obtain⟨v',h1,h2⟩:=h.2 j hj'
  exact⟨v',by rw[List.getElem?_append_left (by rw[h.1];exact hj')];exact h1,by rw[List.getElem_append_left hj'];exact h2⟩
 ·have hjj:j=ls.length:=by simp at hj;omega
  subst hjj
  exact⟨v,by rw[List.getElem?_append_right (by rw[h.1];exact Nat.le_refl _),h.1];simp,by simpa using hv⟩
theorem SrcS.zH {w w':World} {S:Nat} {ls:List (List ByteArray)} {lv:Value} {vs:List Value} (h:SrcS w S ls lv vs) (hb:Below w.heap.size w w'):SrcS w' S ls lv vs:=
 ⟨zK h.block hb,zZ h.own hb,h.lines.map (fun _ _ _ h=>zZ h hb)⟩
theorem SrcS.push {w w1 w2:World} {S:Nat} {ls:List (List ByteArray)} {lv lv':Value} {vs:List Value} {t:List ByteArray} {v:Value} (h:SrcS w S ls lv vs) (hv:w.ownsRow (S+1) 9 1 v t.length (t.map Value.string)) (hb:Below w.heap.size w w1)
  (hown:w2.ownsRow (S+1) 87 1 lv' (ls.length+1) (vs++[v])) (hgrow:w1.grownBy w2 lv.ownBlock) :
  SrcS (w2.setCell ⟨S,0,none⟩ lv') S (ls++[t]) lv' (vs++[v])∧Below S w (w2.setCell ⟨S,0,none⟩ lv')∧∀(B n:Nat) (u:Value) (xs:List Value),S+1≤B→w.ownsRow B 9 1 u n xs→(w2.setCell ⟨S,0,none⟩ lv').ownsRow B 9 1 u n xs:=by
 have hSlt:=zJ h.block
 have hrow:∀k,lv.ownBlock=some k→S < k:=fun k hk=>by have:=(h.own.lt k hk).1;omega
 have hkeep:∀k,k < w.heap.size→some k≠lv.ownBlock→w2.heap[k]?=w.heap[k]?:=fun k hk hv=>by
  rw[hgrow.block k (Nat.lt_of_lt_of_le hk hb.size) hv]
  exact hb.block k hk
 have hset:∀k,k≠S→(w2.setCell ⟨S,0,none⟩ lv').heap[k]?=w2.heap[k]?:=fun k hk=>Below.heap_setCell w2 ⟨S,0,none⟩ _ k hk
 have hK:∀(B n:Nat) (u:Value) (xs:List Value),S+1≤B→w.ownsRow B 9 1 u n xs→(w2.setCell ⟨S,0,none⟩ lv').ownsRow B 9 1 u n xs:=by
  intro B n u xs hB hu
  have hne:=zC2 hu h.own (by decide)
  obtain⟨h1,h2⟩:=hu
  refine⟨h1,?_⟩
  rcases h2 with h2 | ⟨g,cap,cur,hv',hg,hh,r⟩
  ·exact Or.inl h2
  ·exact Or.inr ⟨g,cap,cur,hv',hg,by rw[hset g (by omega),hkeep g (zJ hh) (fun e=>hne g (by rw[hv'];rfl) e.symm)];exact hh,r⟩
 refine⟨⟨?_,?_,(h.lines.map (fun n u xs hu=>hK _ n u xs (Nat.le_refl _) hu)).snoc (hK _ _ _ _ (Nat.le_refl _) hv)⟩,?_,hK⟩
 ·have hbk:w2.heap[S]?=some (.cells #[lv] 85 (0,0)):=(hkeep S hSlt (fun e=>by have:=hrow S e.symm;omega)).trans h.block
  have:=zO hbk 0 lv'
  simpa using this
 ·rw[List.length_append]
  exact ownsRow_setCell_below hown (by show S < S+1;omega) _
 ·refine⟨hgrow.os.trans hb.os,hgrow.tape.trans hb.tape,hgrow.output.trans hb.output,?_,fun k hk=>(hset k (by omega)).trans (hkeep k (by omega) (fun e=>by have:=hrow k e.symm;omega))⟩
  have h1:=hgrow.size
  have h2:=hb.size
  simp[World.setCell]
  omega
theorem src_far {w w1 w2:World} {S:Nat} {lv:Value} {row:Option Nat} (hblk:w.heap[S]?=some (.cells #[lv] 85 (0,0))) (hb:Below w.heap.size w w1) (hgrow:w1.grownBy w2 row) (hr:row≠some S) :
  w2.cell? ⟨S,0,none⟩=some lv∧w2.frozen? ⟨S,0,none⟩=false:=by
 have hk:w2.heap[S]?=some (.cells #[lv] 85 (0,0)):=by
  rw[hgrow.block S (Nat.lt_of_lt_of_le (zJ hblk) hb.size) (Ne.symm hr),hb.block S (zJ hblk)]
  exact hblk
 exact⟨zC hk 0 (by simp),zI hk 0⟩
theorem SrcS.toG {w:World} {S:Nat} {ls:List (List ByteArray)} {lv:Value} {vs:List Value} (h:SrcS w S ls lv vs) (hne:0 < ls.length):∃g cap,lv=.slice (some ⟨g,0,none⟩) ls.length cap∧zAg w S g cap ls:=by
 obtain⟨v0,h0,_⟩:=h.lines.2 0 hne
 obtain⟨g,cap,he,_,_,_⟩:=zW h.own h0
 refine⟨g,cap,he,?_,fun l hl=>?_,⟨⟨_,h.block⟩,zAj h.own (by rw[he];rfl)⟩,fun l v hv hl b hb=>?_⟩
 ·have:=zC h.block 0 (by simp)
  simp at this
  rw[this,he]
 ·obtain⟨v,h1,h2⟩:=h.lines.2 l hl
  obtain⟨g',cap',he',_,_,hc⟩:=zW h.own h1
  rw[he]at he'
  simp at he'
  obtain⟨ad,c,rfl⟩:=zE h2
  rw[he'.1]
  exact⟨ad,c,hc,zDu h2⟩
 ·obtain⟨u,h1,h2⟩:=h.lines.2 l hl
  obtain⟨g',cap',he',_,_,hc⟩:=zW h.own h1
  rw[he]at he'
  simp at he'
  rw[he'.1,hc]at hv
  injection hv with hv
  subst hv
  exact zAj h2 hb
end Go.Proofs.YthleadfkfnnadaaGreat
