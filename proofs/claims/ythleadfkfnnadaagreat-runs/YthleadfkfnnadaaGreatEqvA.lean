/- Both readings of a source's lines agree. -/
import Derived.Test.YthleadfkfnnadaaGreatEqv5
import Derived.Test.YthleadfkfnnadaaGreatPlainb
import Derived.Test.YthleadfkfnnadaaGreatProg0
import Derived.Test.YthleadfkfnnadaaGreatRefM
set_option maxHeartbeats 4000000
set_option maxRecDepth 100000
namespace Go.Proofs.YthleadfkfnnadaaGreat
namespace Rf
open Rt
def varB:ByteArray:=⟨#[118,97,114]⟩
def zMh:ByteArray:=⟨#[97,114,114,97,121]⟩
def zLJ:ByteArray:=⟨#[112,114,111,99]⟩
def endB:ByteArray:=⟨#[101,110,100]⟩
def ifB:ByteArray:=⟨#[105,102]⟩
def elseB:ByteArray:=⟨#[101,108,115,101]⟩
def zJU:ByteArray:=⟨#[119,104,105,108,101]⟩
def zCc:ByteArray:=⟨#[115,101,116]⟩
def zJm:ByteArray:=⟨#[112,114,105,110,116]⟩
def zMw:ByteArray:=⟨#[114,101,97,100]⟩
def zGZ:ByteArray:=⟨#[99,97,108,108]⟩
def zHD:ByteArray:=⟨#[114,101,116,117,114,110]⟩
def Ex (e:List Pop) (p:List ByteArray):Prop:=Is 0 p∧(∀V A,zCD V A e=toksOK V A p)∧Cm 0 p e
inductive Exs:List (List Pop)→List (List ByteArray)→Prop
 | nil:Exs [] []
 | cons (e:List Pop) (p:List ByteArray) (es:List (List Pop)) (ps:List (List ByteArray)):Ex e p→Exs es ps→Exs (e::es) (p::ps)
theorem Exs.is {es:List (List Pop)} {ps:List (List ByteArray)} (h:Exs es ps):∀p∈ps,Is 0 p:=by
 induction h with
 | nil=>simp
 | cons e p es ps h _ ih=>
  intro q hq
  rcases List.mem_cons.mp hq with rfl | hq
  ·exact h.1
  ·exact ih q hq
theorem Exs.len {es:List (List Pop)} {ps:List (List ByteArray)} (h:Exs es ps):es.length=ps.length:=by
 induction h with
 | nil=>rfl
 | cons e p es ps h _ ih=>simp[ih]
inductive zBV:List ByteArray→zAU→Prop
 | empty:zBV [] ⟨0,⟨#[]⟩,0,[],[],[]⟩
 | var (x:ByteArray):zi x=true→zBV [varB,x] ⟨1,x,0,[],[],[]⟩
 | array (x n:ByteArray):zi x=true→zAF n=true→1≤worth n→worth n≤32→zBV [zMh,x,n] ⟨2,x,worth n,[],[],[]⟩
 | proc (x:ByteArray) (ps:List ByteArray):zi x=true→(∀p∈ps,zi p=true)→ps.length≤4→zBV (zLJ::x::ps) ⟨3,x,0,ps,[],[]⟩
 | end_:zBV [endB] ⟨4,⟨#[]⟩,0,[],[],[]⟩
 | if_ (p:List ByteArray) (e:List Pop):Ex e p→zBV (ifB::p) ⟨5,⟨#[]⟩,0,[],[],[e]⟩
 | zKQ:zBV [elseB] ⟨6,⟨#[]⟩,0,[],[],[]⟩
 | zGf (p:List ByteArray) (e:List Pop):Ex e p→zBV (zJU::p) ⟨7,⟨#[]⟩,0,[],[],[e]⟩
 | set1 (x:ByteArray) (p:List ByteArray) (e:List Pop):zi x=true→Ex e p→zBV (zCc::x::toW::p) ⟨8,x,0,[],[],[e]⟩
 | set2 (x:ByteArray) (q:List ByteArray) (i:List Pop) (p:List ByteArray) (e:List Pop):zi x=true→Ex i q→Ex e p→zBV (zCc::x::zAQ::(q++zBQ::toW::p)) ⟨9,x,0,[],i,[e]⟩
 | print (p:List ByteArray) (e:List Pop):Ex e p→zBV (zJm::p) ⟨10,⟨#[]⟩,0,[],[],[e]⟩
 | read (x:ByteArray):zi x=true→zBV [zMw,x] ⟨11,x,0,[],[],[]⟩
 | call (x:ByteArray) (args:List (List ByteArray)) (vs:List (List Pop)):zi x=true→Exs vs args→zBV (zGZ::x::joinC args) ⟨12,x,0,[],[],vs⟩
 | zEw:zBV [zHD] ⟨13,⟨#[]⟩,0,[],[],[]⟩
theorem zIW (s:ByteArray):∀k,valTo s k=worthTo s k
 | 0=>rfl
 | k+1=>by rw[valTo,worthTo,zIW s k,Int.mul_comm]
theorem zH4 (s:ByteArray):val s=worth s:=zIW s s.size
theorem zCT {x:ByteArray} {l:List UInt8} (h:(x.toList==l)=true):x=⟨l.toArray⟩:=by
 rw[zCC]at h;simpa using h
theorem zCV {ts r:List Tk} {nm:ByteArray} (hok:zA8 ts) (h:zBK ts=some (nm,r)):∃t,ts=t::r∧t.text=nm∧zi nm=true:=by
 cases ts with
 | nil=>simp[zBK]at h
 | cons t ts=>
  rw[zBK]at h
  split at h
  ·rename_i hc
   simp only[Option.some.injEq,Prod.mk.injEq]at h
   obtain⟨rfl,rfl⟩:=h
   exact⟨t,rfl,rfl,hok.head.nam.mp hc⟩
  ·cases h
theorem zF4 {ts r:List Tk} {x:ByteArray} (h:zA6 x ts=some r):∃t,ts=t::r∧t.text=x:=by
 cases ts with
 | nil=>simp[zA6]at h
 | cons t ts=>
  rw[zA6]at h
  split at h
  ·rename_i hc
   simp only[Option.some.injEq]at h
   subst h
   exact⟨t,rfl,hc⟩
  ·cases h
theorem zId:∀(ts:List Tk) (acc ps:List ByteArray),zA8 ts→zAw acc ts=some ps→acc.length≤4→ps=acc++tx ts∧(∀p∈tx ts,zi p=true)∧ps.length≤4
 | [],acc,ps,_,h,hl=>by
  simp[zAw]at h
  subst h
  exact⟨by simp[tx],by simp[tx],hl⟩
 | t::ts,acc,ps,hok,h,hl=>by
  rw[zAw]at h
  split at h
  ·rename_i hc
   obtain⟨h1,h2,h3⟩:=zId ts _ ps hok.tail h (by simp;omega)
   refine⟨by rw[h1,zAH];simp,?_,h3⟩
   intro p hp
   rw[zAH]at hp
   rcases List.mem_cons.mp hp with rfl | hp
   ·exact hok.head.nam.mp hc.1
   ·exact h2 p hp
  ·cases h
theorem zFM {k:Int} {ts r:List Tk} {fm:zAU} (hok:zA8 ts) (h:zBf k ts=some (fm,r)):∃p e,ts=p++r∧Ex e (tx p)∧fm=⟨k,⟨#[]⟩,0,[],[],[e]⟩:=by
 unfold zBf at h
 split at h
 ·cases h
 ·rename_i e r' he
  simp only[Option.some.injEq,Prod.mk.injEq]at h
  obtain⟨rfl,rfl⟩:=h
  obtain⟨p,h1,h2,h3⟩:=zFC ts e r' hok he
  exact⟨p,e,h1,⟨h2,h3⟩,rfl⟩
theorem zPO {k:Int} {nm:ByteArray} {ix:List Pop} {ts r:List Tk} {fm:zAU} (hok:zA8 ts) (h:pTo k nm ix ts=some (fm,r)):∃t p e,ts=t::(p++r)∧t.text=toW∧Ex e (tx p)∧fm=⟨k,nm,0,[],ix,[e]⟩:=by
 unfold pTo at h
 split at h
 ·cases h
 ·rename_i r' hr
  obtain⟨t,rfl,ht⟩:=zF4 hr
  split at h
  ·cases h
  ·rename_i e r2 he
   simp only[Option.some.injEq,Prod.mk.injEq]at h
   obtain⟨rfl,rfl⟩:=h
   obtain⟨p,h1,h2,h3⟩:=zFC r' e r2 hok.tail he
   exact⟨t,p,e,by rw[h1],ht,⟨h2,h3⟩,rfl⟩
theorem zLt:∀(f:Nat) (acc:List (List Pop)) (ts:List Tk) (vs:List (List Pop)) (r:List Tk),zA8 ts→pArgs f acc ts=some (vs,r)→∃p es args,ts=p++r∧vs=acc++es∧Exs es args∧tx p=joinC args∧0 < args.length
 | 0,_,_,_,_,_,h=>by simp[pArgs]at h
 | f+1,acc,ts,vs,r,hok,h=>by
  rw[pArgs]at h
  split at h
  ·cases h
  ·rename_i e r1 he
   obtain⟨p,rfl,h2,h3⟩:=zFC ts e r1 hok he
   split at h
   ·simp only[Option.some.injEq,Prod.mk.injEq]at h
    obtain⟨rfl,rfl⟩:=h
    exact⟨p,[e],[tx p],rfl,rfl,.cons e _ [] [] ⟨h2,h3⟩ .nil,rfl,by simp⟩
   ·rename_i r2 hr2
    obtain⟨c,rfl,hc⟩:=zF4 hr2
    obtain⟨p2,es,args,h4,h5,h6,h7,h8⟩:=zLt f _ r2 vs r hok.right.tail h
    refine⟨p++c::p2,e::es,tx p::args,by rw[h4];simp,by rw[h5];simp,.cons e _ es args ⟨h2,h3⟩ h6,?_,by simp⟩
    rw[zCH,zAH,hc,h7]
    cases args with
    | nil=>simp at h8
    | cons a args=>rw[joinC];rfl
theorem zOp {ts:List Tk} {fm:zAU} (hok:zA8 ts) (h:pLineAll ts=some fm):zBV (tx ts) fm:=by
 cases ts with
 | nil=>
  simp only[pLineAll,Option.some.injEq]at h
  subst h
  exact .empty
 | cons t r=>
  rw[pLineAll]at h
  split at h
  ·cases h
  rename_i fm' r' hl
  split at h
  case isFalse=>cases h
  rename_i hr'
  simp only[Option.some.injEq]at h
  subst h
  subst hr'
  have hok':=hok.tail
  rw[zAH]
  unfold zAC at hl
  by_cases hw:(t.text.toList==[118,97,114])=true
  ·rw[if_pos hw]at hl
   rw[zCT hw]
   unfold pNamed at hl
   split at hl
   ·cases hl
   ·rename_i nm r2 hn
    obtain⟨u,rfl,hu,hb⟩:=zCV hok' hn
    simp only[Option.some.injEq,Prod.mk.injEq]at hl
    obtain⟨rfl,rfl⟩:=hl
    rw[zAH,hu];exact .var _ hb
  rw[if_neg hw]at hl
  clear hw
  by_cases hw:(t.text.toList==[97,114,114,97,121])=true
  ·rw[if_pos hw]at hl
   rw[zCT hw]
   unfold pArray at hl
   split at hl
   ·cases hl
   ·rename_i nm r2 hn
    obtain⟨u,rfl,hu,hb⟩:=zCV hok' hn
    cases r2 with
    | nil=>simp[zDD]at hl
    | cons n r2=>
     rw[zDD]at hl
     split at hl
     ·cases hl
     ·rename_i v r3 hv
      split at hv
      ·rename_i hk
       simp only[Option.some.injEq,Prod.mk.injEq]at hv
       obtain⟨rfl,rfl⟩:=hv
       split at hl
       ·cases hl
       ·rename_i hb2
        simp only[Option.some.injEq,Prod.mk.injEq]at hl
        obtain⟨rfl,rfl⟩:=hl
        rw[zH4]at hb2 ⊢
        rw[zAH,zAH,hu]
        exact .array _ _ hb (hok'.tail.head.num.mp hk) (by omega) (by omega)
      ·cases hv
  rw[if_neg hw]at hl
  clear hw
  by_cases hw:(t.text.toList==[112,114,111,99])=true
  ·rw[if_pos hw]at hl
   rw[zCT hw]
   unfold pProc at hl
   split at hl
   ·cases hl
   ·rename_i nm r2 hn
    obtain⟨u,rfl,hu,hb⟩:=zCV hok' hn
    split at hl
    ·cases hl
    ·rename_i ps hps
     obtain⟨h1,h2,h3⟩:=zId r2 [] ps hok'.tail hps (by simp)
     simp only[Option.some.injEq,Prod.mk.injEq]at hl
     obtain⟨rfl,_⟩:=hl
     rw[List.nil_append]at h1
     subst h1
     rw[zAH,hu];exact .proc _ _ hb h2 h3
  rw[if_neg hw]at hl
  clear hw
  by_cases hw:(t.text.toList==[101,110,100])=true
  ·rw[if_pos hw]at hl
   rw[zCT hw]
   simp only[Option.some.injEq,Prod.mk.injEq]at hl
   obtain⟨rfl,rfl⟩:=hl
   exact .end_
  rw[if_neg hw]at hl
  clear hw
  by_cases hw:(t.text.toList==[105,102])=true
  ·rw[if_pos hw]at hl
   rw[zCT hw]
   obtain⟨p,e,rfl,he,rfl⟩:=zFM hok' hl
   rw[List.append_nil];exact .if_ _ _ he
  rw[if_neg hw]at hl
  clear hw
  by_cases hw:(t.text.toList==[101,108,115,101])=true
  ·rw[if_pos hw]at hl
   rw[zCT hw]
   simp only[Option.some.injEq,Prod.mk.injEq]at hl
   obtain⟨rfl,rfl⟩:=hl
   exact .zKQ
  rw[if_neg hw]at hl
  clear hw
  by_cases hw:(t.text.toList==[119,104,105,108,101])=true
  ·rw[if_pos hw]at hl
   rw[zCT hw]
   obtain⟨p,e,rfl,he,rfl⟩:=zFM hok' hl
   rw[List.append_nil];exact .zGf _ _ he
  rw[if_neg hw]at hl
  clear hw
  by_cases hw:(t.text.toList==[115,101,116])=true
  ·rw[if_pos hw]at hl
   rw[zCT hw]
   unfold zFK at hl
   split at hl
   ·cases hl
   ·rename_i nm r2 hn
    obtain⟨u,rfl,hu,hb⟩:=zCV hok' hn
    split at hl
    ·obtain⟨c,p,e,rfl,hc,he,rfl⟩:=zPO hok'.tail hl
     rw[List.append_nil,zAH,zAH,hu,hc];exact .set1 _ _ _ hb he
    ·rename_i r3 h3
     obtain⟨c,rfl,hc⟩:=zF4 h3
     split at hl
     ·cases hl
     ·rename_i ix r4 hix
      obtain⟨q,rfl,hq1,hq2⟩:=zFC r3 ix r4 hok'.tail.tail hix
      split at hl
      ·cases hl
      ·rename_i r5 h5
       obtain⟨d,rfl,hd⟩:=zF4 h5
       obtain⟨c2,p,e,rfl,hc2,he,rfl⟩:=zPO hok'.tail.tail.right.tail hl
       rw[List.append_nil,zAH,zAH,zCH,zAH,zAH,hu,hc,hd,hc2]
       exact .set2 _ _ _ _ _ hb ⟨hq1,hq2⟩ he
  rw[if_neg hw]at hl
  clear hw
  by_cases hw:(t.text.toList==[112,114,105,110,116])=true
  ·rw[if_pos hw]at hl
   rw[zCT hw]
   obtain⟨p,e,rfl,he,rfl⟩:=zFM hok' hl
   rw[List.append_nil];exact .print _ _ he
  rw[if_neg hw]at hl
  clear hw
  by_cases hw:(t.text.toList==[114,101,97,100])=true
  ·rw[if_pos hw]at hl
   rw[zCT hw]
   unfold pNamed at hl
   split at hl
   ·cases hl
   ·rename_i nm r2 hn
    obtain⟨u,rfl,hu,hb⟩:=zCV hok' hn
    simp only[Option.some.injEq,Prod.mk.injEq]at hl
    obtain⟨rfl,rfl⟩:=hl
    rw[zAH,hu];exact .read _ hb
  rw[if_neg hw]at hl
  clear hw
  by_cases hw:(t.text.toList==[99,97,108,108])=true
  ·rw[if_pos hw]at hl
   rw[zCT hw]
   unfold pCall at hl
   split at hl
   ·cases hl
   ·rename_i nm r2 hn
    obtain⟨u,rfl,hu,hb⟩:=zCV hok' hn
    rw[zAH,hu]
    split at hl
    ·cases hl
    ·rename_i vs r3 hvs
     simp only[Option.some.injEq,Prod.mk.injEq]at hl
     obtain⟨rfl,rfl⟩:=hl
     unfold zCK at hvs
     split at hvs
     ·rename_i h0
      subst h0
      simp only[Option.some.injEq,Prod.mk.injEq,and_true]at hvs
      subst hvs
      exact .call _ [] [] hb .nil
     ·obtain⟨p,es,args,rfl,rfl,h6,h7,_⟩:=zLt 25 [] r2 vs [] hok'.tail hvs
      rw[List.append_nil,h7]
      exact .call _ _ _ hb h6
  rw[if_neg hw]at hl
  clear hw
  by_cases hw:(t.text.toList==[114,101,116,117,114,110])=true
  ·rw[if_pos hw]at hl
   rw[zCT hw]
   simp only[Option.some.injEq,Prod.mk.injEq]at hl
   obtain⟨rfl,rfl⟩:=hl
   exact .zEw
  rw[if_neg hw]at hl
  cases hl
open Rt
theorem zBB (l:List UInt8):(⟨l.toArray⟩:ByteArray).toList=l:=ByteArray.toList_mk l
theorem zKD (t:List ByteArray):isKind t [101,110,100]=decide (t.length=1):=by simp[isKind]
theorem zIo (t:List ByteArray):isKind t [101,108,115,101]=decide (t.length=1):=by simp[isKind]
theorem zGV (t:List ByteArray):isKind t [114,101,116,117,114,110]=decide (t.length=1):=by simp[isKind]
theorem zKC (t:List ByteArray):isKind t [118,97,114]=(decide (t.length=2) && zBd (t.drop 1)):=by simp[isKind]
theorem zIm (t:List ByteArray):isKind t [114,101,97,100]=(decide (t.length=2) && zBd (t.drop 1)):=by simp[isKind]
theorem zIn (t:List ByteArray):isKind t [112,114,111,99]=(decide (2≤t.length∧t.length≤6) && zBd (t.drop 1)):=by simp[isKind]
theorem zLa (t:List ByteArray):isKind t [105,102]=zAV (t.drop 1):=by simp[isKind]
theorem zHW (t:List ByteArray):isKind t [119,104,105,108,101]=zAV (t.drop 1):=by simp[isKind]
theorem zHX (t:List ByteArray):isKind t [112,114,105,110,116]=zAV (t.drop 1):=by simp[isKind]
theorem zGw (t:List ByteArray):isKind t [115,101,116]=isSet t:=by simp[isKind]
theorem zIp (t:List ByteArray):isKind t [99,97,108,108]=zEA t:=by simp[isKind]
theorem zHY (t:List ByteArray):isKind t [97,114,114,97,121]=zEO t:=by simp[isKind]
theorem zCW {x:ByteArray} {l:List UInt8} {r:List ByteArray} (h:x=⟨l.toArray⟩):zx (x::r)=isKind (x::r) l:=by
 rw[zD8 (by simp),show first (x::r)=x from rfl,h,zBB]
theorem zFp {e:List Pop} {p:List ByteArray} (h:Ex e p):zAV p=true:=(zFl h.1).2.2.2
theorem set_one {x:ByteArray} {p:List ByteArray} (hx:zi x=true):isSet (zCc::x::toW::p)=zAV p:=by
 have hb:behind (zCc::x::toW::p)=2:=zGM (a:=[zCc,x]) (b:=p) (fun y hy=>by
  simp at hy
  rcases hy with rfl | rfl
  ·simp[zCc,toW]
  ·exact(zGq (Or.inl hx)).2)
 rw[isSet,hb,if_neg (by omega),if_pos rfl]
 show (zi x && zAV p)=_
 rw[hx];rfl
theorem set_two {x:ByteArray} {q p:List ByteArray} (hx:zi x=true) (hq:Is 0 q):isSet (zCc::x::zAQ::(q++zBQ::toW::p))=zAV p:=by
 have he:zCc::x::zAQ::(q++zBQ::toW::p)=(zCc::x::zAQ::(q++[zBQ]))++toW::p:=by simp
 have hb:behind (zCc::x::zAQ::(q++zBQ::toW::p))=q.length+4:=by
  rw[he,zGM (fun y hy=>?_)]
  ·simp
  ·simp only[List.mem_cons,List.mem_append,List.not_mem_nil,or_false]at hy
   rcases hy with rfl | rfl | rfl | hy | rfl
   ·simp[zCc,toW]
   ·exact(zGq (Or.inl hx)).2
   ·simp[zAQ,toW]
   ·exact(zGF hq _ hy).2
   ·simp[zBQ,toW]
 rw[isSet,hb,if_neg (by omega),if_neg (by omega)]
 have h1:((zCc::x::zAQ::(q++zBQ::toW::p)).take (q.length+4)).drop 1=x::zAQ::(q++[zBQ]):=by
  rw[he,List.take_append_of_le_length (by simp),List.take_of_length_le (by simp)];rfl
 have h2:(zCc::x::zAQ::(q++zBQ::toW::p)).drop (q.length+4+1)=p:=by
  rw[he,List.drop_append,List.drop_eq_nil_of_le (by simp),show q.length+4+1-(zCc::x::zAQ::(q++[zBQ])).length=1 by simp];rfl
 rw[h1,h2,zKg (zBa hq).ne hx,(zFl hq).2.2.2];rfl
theorem is_line {t:List ByteArray} {fm:zAU} (h:zBV t fm):zx t=true:=by
 cases h with
 | empty=>rfl
 | var x hx=>rw[zCW (x:=varB) (l:=[118,97,114]) rfl,zKC];simp[zBd,hx]
 | array x n hx hn h1 h2=>
  rw[zCW (x:=zMh) (l:=[97,114,114,97,121]) rfl,zHY,zEO,if_pos (by simp)]
  show (zi x && zAF n && decide (1≤worth n) && decide (worth n≤32))=true
  simp[hx,hn,h1,h2]
 | proc x ps hx hps hl=>
  rw[zCW (x:=zLJ) (l:=[112,114,111,99]) rfl,zIn]
  simp[zBd,hx]
  exact⟨by omega,hps⟩
 | end_=>rw[zCW (x:=endB) (l:=[101,110,100]) rfl,zKD];rfl
 | if_ p e he=>rw[zCW (x:=ifB) (l:=[105,102]) rfl,zLa];exact zFp he
 | zKQ=>rw[zCW (x:=elseB) (l:=[101,108,115,101]) rfl,zIo];rfl
 | zGf p e he=>rw[zCW (x:=zJU) (l:=[119,104,105,108,101]) rfl,zHW];exact zFp he
 | set1 x p e hx he=>rw[zCW (x:=zCc) (l:=[115,101,116]) rfl,zGw,set_one hx];exact zFp he
 | set2 x q i p e hx hi he=>rw[zCW (x:=zCc) (l:=[115,101,116]) rfl,zGw,set_two hx hi.1];exact zFp he
 | print p e he=>rw[zCW (x:=zJm) (l:=[112,114,105,110,116]) rfl,zHX];exact zFp he
 | read x hx=>rw[zCW (x:=zMw) (l:=[114,101,97,100]) rfl,zIm];simp[zBd,hx]
 | call x args vs hx hv=>
  rw[zCW (x:=zGZ) (l:=[99,97,108,108]) rfl,zIp,zEA,if_neg (by simp)]
  show ((parts (joinC args)).all zAV && zi x)=true
  rw[zHJ args hv.is,hx]
  simp
  intro a ha
  exact(zFl (hv.is a ha)).2.2.2
 | zEw=>rw[zCW (x:=zHD) (l:=[114,101,116,117,114,110]) rfl,zGV];rfl
theorem zIT {ts:List Tk} (h:zBd (tx ts)=true):∀t∈ts,zi t.text=true:=by
 simp[zBd,tx]at h
 exact h
theorem zGD {t:Tk} {r:List Tk} (hok:zA8 (t::r)) (h:zi t.text=true):zBK (t::r)=some (t.text,r):=by
 rw[zBK,if_pos (hok.head.nam.mpr h)]
theorem zLM:∀(ts:List Tk) (acc:List ByteArray),zA8 ts→(∀t∈ts,zi t.text=true)→acc.length+ts.length≤4→∃ps,zAw acc ts=some ps
 | [],acc,_,_,_=>⟨acc,rfl⟩
 | t::ts,acc,hok,h,hl=>by
  rw[zAw,if_pos ⟨hok.head.nam.mpr (h t (by simp)),by simp at hl;omega⟩]
  exact zLM ts _ hok.tail (fun u hu=>h u (by simp[hu])) (by simp at hl ⊢;omega)
theorem zKP:Ends 5 11 []:=⟨by simp[tx,first,at',zAQ],by rw[show tx []=[]from rfl,zOa];omega⟩
theorem zNm {t:Tk} {r:List Tk} (h:(¬t.text=zAQ)∧zU t.text=0):Ends 5 11 (t::r):=⟨h.1,by show ¬(5≤zU t.text∧zU t.text≤11);rw[h.2];omega⟩
theorem zH3 {k:Int} {ts:List Tk} (hok:zA8 ts) (hl:ts.length≤24) (h:zAV (tx ts)=true):∃fm,zBf k ts=some (fm,[]):=by
 obtain⟨e,he⟩:=zEn ts [] (by simpa using hok) ((zKO _).mp h) hl zKP
 rw[List.append_nil]at he
 refine⟨⟨k,⟨#[]⟩,0,[],[],[e]⟩,?_⟩
 unfold zBf
 rw[he]
theorem to_of {k:Int} {nm:ByteArray} {ix:List Pop} {t:Tk} {ts:List Tk} (hok:zA8 ts) (hl:ts.length≤24) (ht:t.text=toW) (h:zAV (tx ts)=true):∃fm,pTo k nm ix (t::ts)=some (fm,[]):=by
 obtain⟨e,he⟩:=zEn ts [] (by simpa using hok) ((zKO _).mp h) hl zKP
 rw[List.append_nil]at he
 refine⟨⟨k,nm,0,[],ix,[e]⟩,?_⟩
 unfold pTo
 rw[zA6,if_pos (show t.text=⟨#[116,111]⟩from ht)]
 simp only
 rw[he]
theorem zKc (b:UInt8) (h:b=41∨b=93∨b=44):(¬(⟨#[b]⟩:ByteArray)=zAQ)∧zU ⟨#[b]⟩=0:=by
 rcases h with rfl | rfl | rfl <;> simp[zAQ,zU]
theorem zPg:∀(args:List (List ByteArray)) (f:Nat) (acc:List (List Pop)) (ts:List Tk),zA8 ts→ts.length≤24→(∀a∈args,Is 0 a)→tx ts=joinC args→0 < args.length→args.length≤f→∃vs,pArgs f acc ts=some (vs,[])
 | [],_,_,_,_,_,_,_,h,_=>by simp at h
 | [a],0,_,_,_,_,_,_,_,h=>by simp at h
 | [a],f+1,acc,ts,hok,hl,ha,he,_,_=>by
  obtain⟨e,hp⟩:=zEn ts [] (by simpa using hok) (by rw[he];exact ha a (by simp)) hl zKP
  rw[List.append_nil]at hp
  refine⟨acc++[e],?_⟩
  rw[pArgs,hp]
  rfl
 | a::b::r,0,_,_,_,_,_,_,_,h=>by simp at h
 | a::b::r,f+1,acc,ts,hok,hl,ha,he,_,hf=>by
  rw[joinC]at he
  obtain⟨p1,p2,rfl,h1,h2⟩:=zDq he
  obtain⟨c,p3,rfl,h3,h4⟩:=zBA h2
  simp only[List.length_append,List.length_cons]at hl
  obtain⟨e,hp⟩:=zEn p1 (c::p3) hok (by rw[h1];exact ha a (by simp)) (by omega) (zNm (by rw[h3];exact zKc 44 (by simp)))
  obtain⟨vs,hv⟩:=zPg (b::r) f (acc++[e]) p3 hok.right.tail (by omega) (fun x hx=>ha x (by simp at hx ⊢;exact Or.inr hx)) h4 (by simp) (by simp at hf ⊢;omega)
  refine⟨vs,?_⟩
  rw[pArgs,hp]
  simp only
  rw[zA6,if_pos (show c.text=⟨#[44]⟩from h3)]
  exact hv
theorem zLZ:∀(args:List (List ByteArray)),(∀a∈args,Is 0 a)→args.length≤(joinC args).length
 | [],_=>by simp
 | [a],h=>by have:=(zBa (h a (by simp))).ne;simp[joinC];omega
 | a::b::r,h=>by
  have:=zLZ (b::r) (fun x hx=>h x (by simp at hx ⊢;exact Or.inr hx))
  have h2:=(zBa (h a (by simp))).ne
  rw[joinC]
  simp at this ⊢
  omega
theorem zQM (r:List Tk):zAC ⟨#[101,110,100]⟩ r=some (⟨4,⟨#[]⟩,0,[],[],[]⟩,r):=by simp[zAC]
theorem zOX (r:List Tk):zAC ⟨#[101,108,115,101]⟩ r=some (⟨6,⟨#[]⟩,0,[],[],[]⟩,r):=by simp[zAC]
theorem zMG (r:List Tk):zAC ⟨#[114,101,116,117,114,110]⟩ r=some (⟨13,⟨#[]⟩,0,[],[],[]⟩,r):=by simp[zAC]
theorem zQK (r:List Tk):zAC ⟨#[118,97,114]⟩ r=pNamed 1 r:=by simp[zAC]
theorem zOV (r:List Tk):zAC ⟨#[114,101,97,100]⟩ r=pNamed 11 r:=by simp[zAC]
theorem zOW (r:List Tk):zAC ⟨#[112,114,111,99]⟩ r=pProc r:=by simp[zAC]
theorem pLine_if (r:List Tk):zAC ⟨#[105,102]⟩ r=zBf 5 r:=by simp[zAC]
theorem zM4 (r:List Tk):zAC ⟨#[119,104,105,108,101]⟩ r=zBf 7 r:=by simp[zAC]
theorem zM5 (r:List Tk):zAC ⟨#[112,114,105,110,116]⟩ r=zBf 10 r:=by simp[zAC]
theorem zQL (r:List Tk):zAC ⟨#[115,101,116]⟩ r=zFK r:=by simp[zAC]
theorem zOY (r:List Tk):zAC ⟨#[99,97,108,108]⟩ r=pCall r:=by simp[zAC]
theorem zM6 (r:List Tk):zAC ⟨#[97,114,114,97,121]⟩ r=pArray r:=by simp[zAC]
theorem zM7 {t:Tk} {r:List Tk} {fm:zAU} (h:zAC t.text r=some (fm,[])):pLineAll (t::r)=some fm:=by
 rw[pLineAll,h];simp
theorem zNZ {t:List ByteArray} {h:List UInt8} (e0:¬h=[101,110,100]) (e1:¬h=[101,108,115,101]) (e2:¬h=[114,101,116,117,114,110]) (e3:¬h=[118,97,114]) (e4:¬h=[114,101,97,100]) (e5:¬h=[112,114,111,99]) (e6:¬h=[105,102]) (e7:¬h=[119,104,105,108,101]) (e8:¬h=[112,114,105,110,116]) (e9:¬h=[115,101,116]) (e10:¬h=[99,97,108,108]) (e11:¬h=[97,114,114,97,121]):isKind t h=false:=by
 simp[isKind,e0,e1,e2,e3,e4,e5,e6,e7,e8,e9,e10,e11]
theorem zNG {k:Int} {r:List Tk} (hok:zA8 r) (hl:r.length=1) (h:zBd (tx r)=true):∃fm,pNamed k r=some (fm,[]):=by
 match r,hl with
 | [u],_=>
  refine⟨⟨k,u.text,0,[],[],[]⟩,?_⟩
  unfold pNamed
  rw[zGD hok (zIT h u (by simp))]
theorem proc_of {r:List Tk} (hok:zA8 r) (hl:1≤r.length∧r.length≤5) (h:zBd (tx r)=true):∃fm,pProc r=some (fm,[]):=by
 match r,hl with
 | u::r,hl=>
  obtain⟨ps,hps⟩:=zLM r [] hok.tail (fun t ht=>zIT h t (by simp[ht])) (by simp at hl ⊢;omega)
  refine⟨⟨3,u.text,0,ps,[],[]⟩,?_⟩
  unfold pProc
  rw[zGD hok (zIT h u (by simp))]
  simp only
  rw[hps]
theorem array_of {t:Tk} {r:List Tk} (hok:zA8 r) (h:zEO (tx (t::r))=true):∃fm,pArray r=some (fm,[]):=by
 rw[zEO]at h
 split at h
 ·rename_i hl
  rw[zFN]at hl
  match r,hl with
  | [u,n],_=>
   have h:(zi u.text && zAF n.text && decide (1≤worth n.text) && decide (worth n.text≤32))=true:=h
   simp at h
   obtain⟨⟨⟨h1,h2⟩,h3⟩,h4⟩:=h
   refine⟨⟨2,u.text,val n.text,[],[],[]⟩,?_⟩
   unfold pArray
   rw[zGD hok h1]
   simp only
   rw[zDD,if_pos (hok.tail.head.num.mpr h2)]
   simp only
   rw[if_neg (by rw[zH4];omega)]
 ·cases h
theorem set_of {t:Tk} {r:List Tk} (hok:zA8 r) (hl:r.length≤24) (h:isSet (tx (t::r))=true):∃fm,zFK r=some (fm,[]):=by
 rw[isSet]at h
 split at h
 ·cases h
 rename_i hk2
 obtain⟨hkl,hkt⟩:=zQ4 (t:=tx (t::r)) (by omega)
 split at h
 ·rename_i hk
  rw[hk,zFN]at hkl
  match r,hkl with
  | u::v::r,_=>
   rw[hk]at hkt
   change v.text=toW at hkt
   have h:(zi u.text && zAV (tx r))=true:=h
   rw[Bool.and_eq_true]at h
   unfold zFK
   rw[zGD hok h.1]
   simp only
   rw[zA6,if_neg (show ¬v.text=⟨#[91]⟩ by rw[hkt];simp[toW])]
   exact to_of hok.tail.tail (by simp at hl;omega) hkt h.2
  | [u],hkl=>simp at hkl
  | [],hkl=>simp at hkl
 ·rename_i hk
  rw[Bool.and_eq_true]at h
  obtain⟨h1,h2⟩:=h
  obtain⟨x,q,he,hx,hq⟩:=(cell_iff _).mp h1
  generalize hkk:behind (tx (t::r))=k at *
  rw[zAH]at he h2 hkt hkl
  have hk0:0 < k:=by omega
  obtain⟨k',rfl⟩:∃k',k=k'+1:=⟨k-1,by omega⟩
  rw[List.take_succ_cons,List.drop_one,List.tail_cons]at he
  rw[List.drop_succ_cons]at h2
  rw[zBq]at hkt
  simp only[List.length_cons]at hkl
  have hr:tx r=(x::zAQ::(q++[zBQ]))++toW::(tx r).drop (k'+1):=by
   rw[←he,←hkt]
   have hk3:k' < (tx r).length:=by omega
   rw[zAi hk3,←List.drop_eq_getElem_cons hk3,List.take_append_drop]
  generalize (tx r).drop (k'+1)=p at *
  simp only[List.cons_append,List.append_assoc,List.nil_append]at hr
  obtain⟨u,r1,rfl,e1,hr⟩:=zBA hr
  obtain⟨v,r2,rfl,e2,hr⟩:=zBA hr
  obtain⟨pq,r3,rfl,e3,hr⟩:=zDq hr
  obtain⟨c,r4,rfl,e4,hr⟩:=zBA hr
  obtain⟨d,r5,rfl,e5,e6⟩:=zBA hr
  simp only[List.length_cons,List.length_append]at hl
  obtain⟨i,hi⟩:=zEn pq (c::d::r5) hok.tail.tail (by rw[e3];exact hq) (by omega) (zNm (by rw[e4];exact zKc 93 (by simp)))
  unfold zFK
  rw[zGD hok (by rw[e1];exact hx)]
  simp only
  rw[zA6,if_pos (show v.text=⟨#[91]⟩from e2)]
  simp only
  rw[hi]
  simp only
  rw[zA6,if_pos (show c.text=⟨#[93]⟩from e4)]
  exact to_of hok.tail.tail.right.tail.tail (by omega) e5 (by rw[e6];exact h2)
theorem call_of {t:Tk} {r:List Tk} (hok:zA8 r) (hl:r.length≤24) (h:zEA (tx (t::r))=true):∃fm,pCall r=some (fm,[]):=by
 rw[zEA]at h
 split at h
 ·cases h
 rename_i h2
 rw[zFN]at h2
 match r,h2 with
 | u::r,_=>
  rw[Bool.and_eq_true]at h
  obtain⟨h3,h4⟩:=h
  have h3:(parts (tx r)).all zAV=true:=h3
  have h4:zi u.text=true:=h4
  have ha:∀a∈parts (tx r),Is 0 a:=fun a ha=>(zKO a).mp (List.all_eq_true.mp h3 a ha)
  unfold pCall
  rw[zGD hok h4]
  simp only
  by_cases hr:r=[]
  ·subst hr
   exact⟨_,rfl⟩
  ·have hj:=zOP (tx r)
   have hp:0 < (parts (tx r)).length:=by
    cases hh:parts (tx r)with
    | nil=>
     rw[hh]at hj
     exact absurd (zH5 hj.symm) hr
    | cons _ _=>simp
   have hjl:=zLZ (parts (tx r)) ha
   rw[hj,zFN]at hjl
   simp only[List.length_cons]at hl
   obtain⟨vs,hv⟩:=zPg (parts (tx r)) 25 [] r hok.tail (by omega) ha hj.symm hp (by omega)
   refine⟨⟨12,u.text,0,[],[],vs⟩,?_⟩
   unfold zCK
   rw[if_neg hr,hv]
 | [],h2=>simp at h2
theorem zQb {ts:List Tk} (hok:zA8 ts) (hl:ts.length≤24) (h:zx (tx ts)=true):∃fm,pLineAll ts=some fm:=by
 cases ts with
 | nil=>exact⟨_,rfl⟩
 | cons t r=>
  have hok':=hok.tail
  simp only[List.length_cons]at hl
  rw[zD8 (by simp[tx]),show first (tx (t::r))=t.text from rfl]at h
  have fin:∀{l:List UInt8} {fm:zAU},t.text=⟨l.toArray⟩→zAC ⟨l.toArray⟩ r=some (fm,[])→∃fm,pLineAll (t::r)=some fm:=fun h1 h2=>⟨_,zM7 (by rw[h1];exact h2)⟩
  have wd:∀{l:List UInt8},t.text.toList=l→t.text=⟨l.toArray⟩:=fun h=>zCT (by rw[h];simp)
  by_cases e0:t.text.toList=[101,110,100]
  ·rw[e0,zKD]at h
   have hr:r=[]:=by simpa[tx] using h
   subst hr
   exact fin (wd e0) (zQM [])
  by_cases e1:t.text.toList=[101,108,115,101]
  ·rw[e1,zIo]at h
   have hr:r=[]:=by simpa[tx] using h
   subst hr
   exact fin (wd e1) (zOX [])
  by_cases e2:t.text.toList=[114,101,116,117,114,110]
  ·rw[e2,zGV]at h
   have hr:r=[]:=by simpa[tx] using h
   subst hr
   exact fin (wd e2) (zMG [])
  by_cases e3:t.text.toList=[118,97,114]
  ·rw[e3,zKC]at h
   rw[Bool.and_eq_true,decide_eq_true_eq,zFN]at h
   obtain⟨fm,hf⟩:=zNG (k:=1) hok' (by simpa using h.1) h.2
   exact fin (wd e3) ((zQK r).trans hf)
  by_cases e4:t.text.toList=[114,101,97,100]
  ·rw[e4,zIm]at h
   rw[Bool.and_eq_true,decide_eq_true_eq,zFN]at h
   obtain⟨fm,hf⟩:=zNG (k:=11) hok' (by simpa using h.1) h.2
   exact fin (wd e4) ((zOV r).trans hf)
  by_cases e5:t.text.toList=[112,114,111,99]
  ·rw[e5,zIn]at h
   rw[Bool.and_eq_true,decide_eq_true_eq,zFN,List.length_cons]at h
   obtain⟨fm,hf⟩:=proc_of hok' ⟨by omega,by omega⟩ h.2
   exact fin (wd e5) ((zOW r).trans hf)
  by_cases e6:t.text.toList=[105,102]
  ·rw[e6,zLa]at h
   obtain⟨fm,hf⟩:=zH3 (k:=5) hok' (by omega) h
   exact fin (wd e6) ((pLine_if r).trans hf)
  by_cases e7:t.text.toList=[119,104,105,108,101]
  ·rw[e7,zHW]at h
   obtain⟨fm,hf⟩:=zH3 (k:=7) hok' (by omega) h
   exact fin (wd e7) ((zM4 r).trans hf)
  by_cases e8:t.text.toList=[112,114,105,110,116]
  ·rw[e8,zHX]at h
   obtain⟨fm,hf⟩:=zH3 (k:=10) hok' (by omega) h
   exact fin (wd e8) ((zM5 r).trans hf)
  by_cases e9:t.text.toList=[115,101,116]
  ·rw[e9,zGw]at h
   obtain⟨fm,hf⟩:=set_of hok' (by omega) h
   exact fin (wd e9) ((zQL r).trans hf)
  by_cases e10:t.text.toList=[99,97,108,108]
  ·rw[e10,zIp]at h
   obtain⟨fm,hf⟩:=call_of hok' (by omega) h
   exact fin (wd e10) ((zOY r).trans hf)
  by_cases e11:t.text.toList=[97,114,114,97,121]
  ·rw[e11,zHY]at h
   obtain⟨fm,hf⟩:=array_of hok' h
   exact fin (wd e11) ((zM6 r).trans hf)
  rw[zNZ e0 e1 e2 e3 e4 e5 e6 e7 e8 e9 e10 e11]at h
  cases h
open Rt
theorem cw_none (s:ByteArray) (lo hi:Int) (a:Nat) (ha:a < s.size) (h:within lo hi s[a]=false):cw s lo hi a=0:=by
 rw[zHo s lo hi a a (Nat.le_refl _) (by omega) (fun j h h1 h2=>by omega) (fun _=>h)];omega
theorem zPd {s:ByteArray} {lo hi:Int} {a:Nat} (ha:a < s.size) (h:0 < cw s lo hi a):lo≤zAO s a∧zAO s a≤hi:=by
 cases hw:within lo hi s[a]with
 | false=>rw[cw_none s lo hi a ha hw]at h;omega
 | true=>rw[zAo ha];simpa[within] using hw
theorem zO6 {s:ByteArray} {a n:Nat} (h:a+n≤s.size) (hn:0 < n):zAO (s.extract a (a+n)) 0=zAO s a:=by
 have hsz:(s.extract a (a+n)).size=n:=by rw[ByteArray.size_extract];omega
 rw[zAo (by omega),zAo (by omega)]
 congr 1
 simp[ByteArray.getElem_extract]
theorem resv_in (x:ByteArray):zHE x=inB zFV x:=by
 simp only[zHE,zH8,inB,zFV,List.any_cons,List.any_nil,zCC]
 simp only[eq_comm]
theorem zPx {b:Int} (h:sign b=true):zAl b=false∧zBE b=false:=by
 simp[sign]at h
 rcases h with h | h | h | h | h | h | h | h | h | h | h | h <;> subst h <;> decide
theorem tk_ok {s:ByteArray} {a:Nat} (ha:a < s.size) (hn:¬zAu s a=0):TkOK ⟨zCs s a,s.extract a (a+zAu s a)⟩:=by
 have hle:=zNK s a (by omega)
 have hb:=zO6 hle (by omega)
 have hsz:0 < (s.extract a (a+zAu s a)).size:=by rw[ByteArray.size_extract];omega
 have hnum:zAF (s.extract a (a+zAu s a))=zBE (zAO s a):=by rw[zAF,hb,decide_eq_true hsz];rfl
 have hnam:zi (s.extract a (a+zAu s a))=(zAl (zAO s a) && !zHE (s.extract a (a+zAu s a))):=by rw[zi,hb,decide_eq_true hsz,resv_in];rfl
 have key:(zCs s a=1∧zAl (zAO s a)=true∧zBE (zAO s a)=false)∨(zCs s a=2∧zAl (zAO s a)=false∧zBE (zAO s a)=true)∨(zCs s a=3∧zAl (zAO s a)=false∧zBE (zAO s a)=false):=by
  unfold zAu at hn
  unfold zCs
  by_cases h1:8 < cw s 97 122 a
  ·rw[if_pos h1]at hn;omega
  rw[if_neg h1]at hn ⊢
  by_cases h2:0 < cw s 97 122 a
  ·rw[if_pos h2]
   have:=zPd ha h2
   exact Or.inl ⟨rfl,by simp[zAl];omega,by simp[zBE];omega⟩
  rw[if_neg h2]at hn ⊢
  by_cases h3:9 < cw s 48 57 a
  ·rw[if_pos h3]at hn;omega
  rw[if_neg h3]at hn ⊢
  by_cases h4:0 < cw s 48 57 a
  ·rw[if_pos h4]
   have:=zPd ha h4
   exact Or.inr (Or.inl ⟨rfl,by simp[zAl];omega,by simp[zBE];omega⟩)
  rw[if_neg h4]at hn ⊢
  by_cases h5:a < s.size∧sign (zAO s a)=true
  ·rw[if_pos h5]
   have:=zPx h5.2
   exact Or.inr (Or.inr ⟨rfl,this.1,this.2⟩)
  ·rw[if_neg h5]at hn;omega
 constructor
 ·show zCs s a=2↔_
  rw[hnum]
  rcases key with⟨k1,k2,k3⟩| ⟨k1,k2,k3⟩| ⟨k1,k2,k3⟩ <;> rw[k1,k3] <;> simp
 ·show (zCs s a=1∧_)↔_
  rw[hnam]
  rcases key with⟨k1,k2,k3⟩| ⟨k1,k2,k3⟩| ⟨k1,k2,k3⟩ <;> rw[k1,k2] <;> simp
theorem zFP (s:ByteArray):∀(f a:Nat) (acc ts:List Tk),zA8 acc→toksFrom s f a acc=some ts→zA8 ts
 | 0,_,_,_,_,h=>by simp[toksFrom]at h
 | f+1,a,acc,ts,hacc,h=>by
  rw[toksFrom]at h
  split at h
  ·rename_i ha
   split at h
   ·exact zFP s f _ acc ts hacc h
   ·split at h
    ·cases h
    ·rename_i hb hn
     refine zFP s f _ _ ts (fun t ht=>?_) h
     simp at ht
     rcases ht with ht | rfl
     ·exact hacc t ht
     ·exact tk_ok ha (fun e=>hn (Or.inl e))
  ·simp only[Option.some.injEq]at h
   subst h
   exact hacc
theorem toks_ok {s:ByteArray} {ts:List Tk} (h:zf s=some ts):zA8 ts:=zFP s _ _ [] ts (by intro t ht;simp at ht) h
open Rt
inductive LR (R:PL→List ByteArray→Prop):List PL→List (List ByteArray)→Prop
 | nil:LR R [] []
 | cons (p:PL) (t:List ByteArray) (ps:List PL) (ls:List (List ByteArray)):R p t→LR R ps ls→LR R (p::ps) (t::ls)
theorem LR.len {R:PL→List ByteArray→Prop} {ps:List PL} {ls:List (List ByteArray)} (h:LR R ps ls):ps.length=ls.length:=by
 induction h with
 | nil=>rfl
 | cons p t ps ls _ _ ih=>simp[ih]
theorem LR.snoc {R:PL→List ByteArray→Prop} {ps:List PL} {ls:List (List ByteArray)} (h:LR R ps ls) {p:PL} {t:List ByteArray} (hp:R p t):LR R (ps++[p]) (ls++[t]):=by
 induction h with
 | nil=>exact .cons p t [] [] hp .nil
 | cons q u ps ls hq _ ih=>exact .cons q u _ _ hq ih
def Rel0 (p:PL) (t:List ByteArray):Prop:=zBV t p.form∧tx p.zf=t∧p.depth=0∧p.opener=0∧p.proc=0
theorem zNj:∀(texts:List ByteArray) (i:Nat) (acc:List PL) (al:List (List ByteArray)),(∀s∈texts,s.size≤40000)→LR Rel0 acc al→
  (rForms i texts (zPL::acc)).1=(formsFrom i texts al).1∧((rForms i texts (zPL::acc)).1=0→∃ps,(rForms i texts (zPL::acc)).2=zPL::ps∧LR Rel0 ps (formsFrom i texts al).2)
 | [],i,acc,al,_,h=>⟨rfl,fun _=>⟨acc,rfl,h⟩⟩
 | s::r,i,acc,al,hs,h=>by
  rw[rForms,formsFrom,rdLine]
  cases ht:zf s with
  | none=>exact⟨rfl,fun h=>by simp at h⟩
  | some ts=>
   have hok:=toks_ok ht
   have hl:=(zEv (hs s (by simp)) ht).1
   simp only
   cases hp:pLineAll ts with
   | none=>
    have:zx (tx ts)=false:=by
     cases hi:zx (tx ts)with
     | false=>rfl
     | true=>
      obtain⟨fm,hf⟩:=zQb hok hl hi
      rw[hp]at hf
      cases hf
    rw[if_neg (by rw[this];simp)]
    exact⟨rfl,fun h=>by simp at h⟩
   | some fm=>
    have hli:=zOp hok hp
    rw[if_pos (is_line hli)]
    have:=zNj r (i+1) (acc++[⟨ts,fm,0,0,0⟩]) (al++[tx ts]) (fun x hx=>hs x (by simp[hx])) (h.snoc ⟨hli,rfl,rfl,rfl,rfl⟩)
    exact this
def idx (k:Int):Nat:=if k=0 then 0 else if k=1 then 1 else if k=2 then 2 else if k=3 then 3 else if k=5 then 4 else if k=7 then 5 else if k=6 then 6 else if k=4 then 7 else 8
theorem zCw (l:List UInt8) (i:Nat) (h:((l==[])=decide (i=0))∧(l==[118,97,114])=decide (i=1)∧(l==[97,114,114,97,121])=decide (i=2)∧(l==[112,114,111,99])=decide (i=3)∧
 (l==[105,102])=decide (i=4)∧(l==[119,104,105,108,101])=decide (i=5)∧(l==[101,108,115,101])=decide (i=6)∧(l==[101,110,100])=decide (i=7)):HF ⟨l.toArray⟩ i:=by
 unfold HF
 rw[zBB]
 exact h
theorem zCt {t:List ByteArray} {fm:zAU} (h:zBV t fm):HF (first t) (idx fm.kind):=by
 cases h with
 | empty=>exact zCw [] 0 (by decide)
 | var x hx=>exact zCw [118,97,114] 1 (by decide)
 | array x n hx hn h1 h2=>exact zCw [97,114,114,97,121] 2 (by decide)
 | proc x ps hx hps hl=>exact zCw [112,114,111,99] 3 (by decide)
 | end_=>exact zCw [101,110,100] 7 (by decide)
 | if_ p e he=>exact zCw [105,102] 4 (by decide)
 | zKQ=>exact zCw [101,108,115,101] 6 (by decide)
 | zGf p e he=>exact zCw [119,104,105,108,101] 5 (by decide)
 | set1 x p e hx he=>exact zCw [115,101,116] 8 (by decide)
 | set2 x q i p e hx hi he=>exact zCw [115,101,116] 8 (by decide)
 | print p e he=>exact zCw [112,114,105,110,116] 8 (by decide)
 | read x hx=>exact zCw [114,101,97,100] 8 (by decide)
 | call x args vs hx hv=>exact zCw [99,97,108,108] 8 (by decide)
 | zEw=>exact zCw [114,101,116,117,114,110] 8 (by decide)
end Rf
end Go.Proofs.YthleadfkfnnadaaGreat
