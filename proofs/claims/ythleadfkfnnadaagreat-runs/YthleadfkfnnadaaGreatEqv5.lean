/- What stands in an expression; lists of expressions; the word to. -/
import Derived.Test.YthleadfkfnnadaaGreatRefK
import Derived.Test.YthleadfkfnnadaaGreatEqv2
set_option maxHeartbeats 4000000
set_option maxRecDepth 100000
namespace Go.Proofs.YthleadfkfnnadaaGreat
namespace Rf
open Rt
structure TkOK (t:Tk):Prop where
 num:t.kind=2↔zAF t.text=true
 nam:(t.kind=1∧zHE t.text=false)↔zi t.text=true
def zA8 (ts:List Tk):Prop:=∀t∈ts,TkOK t
theorem zA8.right {a b:List Tk} (h:zA8 (a++b)):zA8 b:=fun t ht=>h t (by simp[ht])
theorem zA8.tail {t:Tk} {b:List Tk} (h:zA8 (t::b)):zA8 b:=fun u hu=>h u (by simp[hu])
theorem zA8.head {t:Tk} {b:List Tk} (h:zA8 (t::b)):TkOK t:=h t (by simp)
theorem zCH (a b:List Tk):tx (a++b)=tx a++tx b:=by simp[tx]
theorem zAH (t:Tk) (b:List Tk):tx (t::b)=t.text::tx b:=rfl
theorem zFN (a:List Tk):(tx a).length=a.length:=by simp[tx]
def toksOK (V A:ByteArray→Bool):List ByteArray→Bool
 | []=>true
 | x::r=>(if zi x=true then (if first r=zAQ then A x else V x)else true) && toksOK V A r
def zCD (V A:ByteArray→Bool) (e:List Pop):Bool:=e.all (fun o=>if o.code=2 then V o.name else if o.code=3 then A o.name else true)
theorem zBC (V A:ByteArray→Bool) (a b:List Pop):zCD V A (a++b)=(zCD V A a && zCD V A b):=by simp[zCD]
theorem zQs {p q:List ByteArray} (h:0 < p.length):first (p++q)=first p:=zEs h
theorem zCI (V A:ByteArray→Bool) {q:List ByteArray} (h:¬first q=zAQ):∀p:List ByteArray,toksOK V A (p++q)=(toksOK V A p && toksOK V A q)
 | []=>by simp[toksOK]
 | x::r=>by
  rw[List.cons_append,toksOK,toksOK,zCI V A h r,Bool.and_assoc]
  cases r with
  | nil=>rw[List.nil_append,if_neg h,if_neg (show ¬first []=zAQ by simp[first,at',zAQ])]
  | cons y s=>rw[zQs (by simp)]
theorem zNo (x:ByteArray):(7≤zU x∧zU x≤9)↔inB zBh x=true:=by
 simp only[zU,zCC,inB,zBh,decide_eq_true_eq]
 by_cases h1:x=⟨#[43]⟩
 ·subst h1;simp
 by_cases h2:x=⟨#[45]⟩
 ·subst h2;simp
 by_cases h3:x=⟨#[42]⟩
 ·subst h3;simp
 by_cases h4:x=⟨#[47]⟩
 ·subst h4;simp
 by_cases h5:x=⟨#[37]⟩
 ·subst h5;simp
 by_cases h6:x=⟨#[60]⟩
 ·subst h6;simp
 by_cases h7:x=⟨#[61]⟩
 ·subst h7;simp
 simp[h1,h2,h3,h4,h5,h6,h7,eq_comm]
theorem zKm (x:ByteArray):(5≤zU x∧zU x≤6)↔inB zBL x=true:=by
 simp only[zU,zCC,inB,zBL,decide_eq_true_eq]
 by_cases h1:x=⟨#[43]⟩
 ·subst h1;simp
 by_cases h2:x=⟨#[45]⟩
 ·subst h2;simp
 by_cases h3:x=⟨#[42]⟩
 ·subst h3;simp
 by_cases h4:x=⟨#[47]⟩
 ·subst h4;simp
 by_cases h5:x=⟨#[37]⟩
 ·subst h5;simp
 by_cases h6:x=⟨#[60]⟩
 ·subst h6;simp
 by_cases h7:x=⟨#[61]⟩
 ·subst h7;simp
 simp[h1,h2,h3,h4,h5,h6,h7,eq_comm]
theorem zKY (x:ByteArray):(10≤zU x∧zU x≤11)↔inB zBG x=true:=by
 simp only[zU,zCC,inB,zBG,decide_eq_true_eq]
 by_cases h1:x=⟨#[43]⟩
 ·subst h1;simp
 by_cases h2:x=⟨#[45]⟩
 ·subst h2;simp
 by_cases h3:x=⟨#[42]⟩
 ·subst h3;simp
 by_cases h4:x=⟨#[47]⟩
 ·subst h4;simp
 by_cases h5:x=⟨#[37]⟩
 ·subst h5;simp
 by_cases h6:x=⟨#[60]⟩
 ·subst h6;simp
 by_cases h7:x=⟨#[61]⟩
 ·subst h7;simp
 simp[h1,h2,h3,h4,h5,h6,h7,eq_comm]
inductive Cm:Nat→List ByteArray→List Pop→Prop
 | num (x:ByteArray):zAF x=true→Cm 3 [x] [⟨1,val x,⟨#[]⟩⟩]
 | nam (x:ByteArray):zi x=true→Cm 3 [x] [⟨2,0,x⟩]
 | neg (p:List ByteArray) (e:List Pop):Cm 3 p e→Cm 3 (zD3::p) (e++[⟨4,0,⟨#[]⟩⟩])
 | par (p:List ByteArray) (e:List Pop):Cm 0 p e→Cm 3 (zHT::(p++[zIc])) e
 | cel (x:ByteArray) (p:List ByteArray) (e:List Pop):zi x=true→Cm 0 p e→Cm 3 (x::zAQ::(p++[zBQ])) (e++[⟨3,0,x⟩])
 | t1 (p:List ByteArray) (e:List Pop):Cm 3 p e→Cm 2 p e
 | t2 (p:List ByteArray) (o:ByteArray) (q:List ByteArray) (e f:List Pop):Cm 2 p e→inB zBh o=true→Cm 3 q f→Cm 2 (p++o::q) (e++f++[⟨zU o,0,⟨#[]⟩⟩])
 | s1 (p:List ByteArray) (e:List Pop):Cm 2 p e→Cm 1 p e
 | s2 (p:List ByteArray) (o:ByteArray) (q:List ByteArray) (e f:List Pop):Cm 1 p e→inB zBL o=true→Cm 2 q f→Cm 1 (p++o::q) (e++f++[⟨zU o,0,⟨#[]⟩⟩])
 | e1 (p:List ByteArray) (e:List Pop):Cm 1 p e→Cm 0 p e
 | e2 (p:List ByteArray) (o:ByteArray) (q:List ByteArray) (e f:List Pop):Cm 1 p e→inB zBG o=true→Cm 1 q f→Cm 0 (p++o::q) (e++f++[⟨zU o,0,⟨#[]⟩⟩])
theorem Cm.is {k:Nat} {p:List ByteArray} {e:List Pop} (h:Cm k p e):Is k p:=by
 induction h with
 | num x h=>exact .num x h
 | nam x h=>exact .nam x h
 | neg p _ _ ih=>exact .neg p ih
 | par p _ _ ih=>exact .par p ih
 | cel x p _ hx _ ih=>exact .cel x p hx ih
 | t1 p _ _ ih=>exact .t1 p ih
 | t2 p o q _ _ _ ho _ ih1 ih2=>exact .t2 p o q ih1 ho ih2
 | s1 p _ _ ih=>exact .s1 p ih
 | s2 p o q _ _ _ ho _ ih1 ih2=>exact .s2 p o q ih1 ho ih2
 | e1 p _ _ ih=>exact .e1 p ih
 | e2 p o q _ _ _ ho _ ih1 ih2=>exact .e2 p o q ih1 ho ih2
structure Level (sg:List ByteArray) (lo hi:Int) (k K:Nat):Prop where
 code:∀x,(lo≤zU x∧zU x≤hi)↔inB sg x=true
 base:∀p,Is k p→Is K p
 up:∀p o q,Is K p→inB sg o=true→Is k q→Is K (p++o::q)
 sgn:∀o,inB sg o=true→Sgn o
 nob:∀o,inB sg o=true→¬o=zAQ
 cbase:∀p e,Cm k p e→Cm K p e
 cup:∀p o q e f,Cm K p e→inB sg o=true→Cm k q f→Cm K (p++o::q) (e++f++[⟨zU o,0,⟨#[]⟩⟩])
theorem zLn:Level zBh 7 9 3 2:=⟨zNo,.t1,fun p o q=>.t2 p o q,fun _=>zHj,fun o h=>by rcases zEo h with rfl | rfl | rfl <;> simp[zAQ],.t1,.t2⟩
theorem zLu:Level zBL 5 6 2 1:=⟨zKm,.s1,fun p o q=>.s2 p o q,fun _=>zHw,fun o h=>by rcases zEt h with rfl | rfl <;> simp[zAQ],.s1,.s2⟩
theorem zPe {o:ByteArray} (h:inB zBG o=true):¬o=zAQ:=by rcases zGL h with rfl | rfl <;> simp[zAQ]
theorem Sgn.noname {o:ByteArray} (h:Sgn o):zi o=false:=by
 have:=h.opd
 simp[zFg]at this
 exact this.1.1.1
theorem zAs (V A:ByteArray→Bool) {o:ByteArray} (h:zi o=false) (q:List ByteArray):toksOK V A (o::q)=toksOK V A q:=by
 rw[toksOK,if_neg (by rw[h];simp)];rfl
def Sound (pf:List Tk→Got) (k:Nat):Prop:=∀ts e r,zA8 ts→pf ts=some (e,r)→∃p,ts=p++r∧Is k (tx p)∧(∀V A,zCD V A e=toksOK V A (tx p))∧Cm k (tx p) e
theorem zJ4 {pf:List Tk→Got} {sg:List ByteArray} {lo hi:Int} {k K:Nat} (L:Level sg lo hi k K) (h:Sound pf k):∀(g:Nat) (a:List ByteArray) (ea:List Pop) (ts:List Tk) (e:List Pop) (r:List Tk),zA8 ts→Is K a→Cm K a ea→pLoop pf lo hi g ts=some (e,r)→
  ∃p,ts=p++r∧Is K (a++tx p)∧(¬first (tx p)=zAQ)∧(∀V A,zCD V A e=toksOK V A (tx p))∧Cm K (a++tx p) (ea++e)
 | 0,_,_,_,_,_,_,_,_,h'=>by simp[pLoop]at h'
 | g+1,a,ea,[],e,r,_,ha,hca,h'=>by
  simp[pLoop]at h'
  obtain⟨rfl,rfl⟩:=h'
  exact⟨[],rfl,by simpa[tx] using ha,by simp[tx,first,at',zAQ],fun V A=>rfl,by simpa[tx] using hca⟩
 | g+1,a,ea,t::ts,e,r,hok,ha,hca,h'=>by
  rw[pLoop]at h'
  split at h'
  ·rename_i hc
   have hs:=(L.code _).mp hc
   cases h1:pf ts with
   | none=>rw[h1]at h';cases h'
   | some x=>
    obtain⟨e1,r1⟩:=x
    rw[h1]at h'
    simp only at h'
    obtain⟨p1,e1',i1,o1,k1⟩:=h ts e1 r1 hok.tail h1
    cases h2:pLoop pf lo hi g r1 with
    | none=>rw[h2]at h';cases h'
    | some y=>
     obtain⟨e2,r2⟩:=y
     rw[h2]at h'
     simp only[Option.some.injEq,Prod.mk.injEq]at h'
     obtain⟨rfl,rfl⟩:=h'
     have hok1:zA8 r1:=by rw[e1']at hok;exact hok.tail.right
     have ha2:=L.up a t.text (tx p1) ha hs i1
     have hca2:=L.cup a t.text (tx p1) ea e1 hca hs k1
     obtain⟨p2,e2',i2,n2,o2,k2⟩:=zJ4 L h g _ _ r1 e2 r2 hok1 ha2 hca2 h2
     refine⟨t::(p1++p2),by rw[e1',e2'];simp,?_,?_,fun V A=>?_,by rw[zAH,zCH];simpa using k2⟩
     ·rw[zAH,zCH]
      simpa using i2
     ·rw[zAH];exact L.nob _ hs
     ·rw[zAH,zAs V A (L.sgn _ hs).noname,zCH,zCI V A n2,zBC,o1 V A]
      congr 1
      show ((if zU t.text=2 then _ else if zU t.text=3 then _ else true) && zCD V A e2)=_
      have hop:¬zU t.text=2∧¬zU t.text=3:=by
       unfold zU
       repeat' split
       all_goals omega
      rw[if_neg hop.1,if_neg hop.2,o2 V A];rfl
  ·simp only[Option.some.injEq,Prod.mk.injEq]at h'
   obtain⟨rfl,rfl⟩:=h'
   exact⟨[],rfl,by simpa[tx] using ha,by simp[tx,first,at',zAQ],fun V A=>rfl,by simpa[tx] using hca⟩
theorem zIw {pf:List Tk→Got} {sg:List ByteArray} {lo hi:Int} {k K:Nat} (L:Level sg lo hi k K) (h:Sound pf k):Sound (zDT pf lo hi) K:=by
 intro ts e r hok h'
 unfold zDT at h'
 cases h1:pf ts with
 | none=>rw[h1]at h';cases h'
 | some x=>
  obtain⟨e1,r1⟩:=x
  rw[h1]at h'
  simp only at h'
  obtain⟨p1,e1',i1,o1,k1⟩:=h ts e1 r1 hok h1
  cases h2:pLoop pf lo hi 25 r1 with
  | none=>rw[h2]at h';simp[zCu]at h'
  | some y=>
   obtain⟨e2,r2⟩:=y
   rw[h2]at h'
   simp only[zCu,Option.some.injEq,Prod.mk.injEq]at h'
   obtain⟨rfl,rfl⟩:=h'
   have hok1:zA8 r1:=by rw[e1']at hok;exact hok.right
   obtain⟨p2,e2',i2,n2,o2,k2⟩:=zJ4 L h 25 _ _ r1 e2 r2 hok1 (L.base _ i1) (L.cbase _ _ k1) h2
   refine⟨p1++p2,by rw[e1',e2'];simp,by rw[zCH];exact i2,fun V A=>?_,by rw[zCH];exact k2⟩
   rw[zCH,zCI V A n2,zBC,o1 V A,o2 V A]
theorem zG3 {pf:List Tk→Got} (h:Sound pf 3):Sound (pComp pf) 0:=by
 have hs:Sound (zGP pf) 1:=zIw zLu (zIw zLn h)
 intro ts e r hok h'
 unfold pComp at h'
 cases h1:zGP pf ts with
 | none=>rw[h1]at h';cases h'
 | some x=>
  obtain⟨e1,r1⟩:=x
  rw[h1]at h'
  obtain⟨p1,e1',i1,o1,k1⟩:=hs ts e1 r1 hok h1
  cases r1 with
  | nil=>
   simp only[Option.some.injEq,Prod.mk.injEq]at h'
   obtain⟨rfl,rfl⟩:=h'
   exact⟨p1,e1',.e1 _ i1,o1,.e1 _ _ k1⟩
  | cons t r1=>
   simp only at h'
   split at h'
   ·rename_i hc
    have hsg:=(zKY _).mp hc
    cases h2:zGP pf r1 with
    | none=>rw[h2]at h';cases h'
    | some y=>
     obtain⟨e2,r2⟩:=y
     rw[h2]at h'
     simp only[Option.some.injEq,Prod.mk.injEq]at h'
     obtain⟨rfl,rfl⟩:=h'
     have hok1:zA8 r1:=by rw[e1']at hok;exact hok.right.tail
     obtain⟨p2,e2',i2,o2,k2⟩:=hs r1 e2 r2 hok1 h2
     refine⟨p1++t::p2,by rw[e1',e2'];simp,by rw[zCH,zAH];exact .e2 _ _ _ i1 hsg i2,fun V A=>?_,by rw[zCH,zAH];exact .e2 _ _ _ _ _ k1 hsg k2⟩
     rw[zCH,zAH,zCI V A (by exact zPe hsg),zAs V A (zJJ hsg).noname,zBC,zBC,o1 V A,o2 V A]
     have hop:¬zU t.text=2∧¬zU t.text=3:=by omega
     show (_ && ((if zU t.text=2 then _ else if zU t.text=3 then _ else true) && true))=_
     rw[if_neg hop.1,if_neg hop.2];simp
   ·simp only[Option.some.injEq,Prod.mk.injEq]at h'
    obtain⟨rfl,rfl⟩:=h'
    exact⟨p1,e1',.e1 _ i1,o1,.e1 _ _ k1⟩
theorem zCM (b:UInt8) (h:zAl (b.toNat:Int)=false):zi ⟨#[b]⟩=false:=by
 have e:zAO ⟨#[b]⟩ 0=(b.toNat:Int):=by rw[zAo (by show 0 < 1;decide)];rfl
 simp[zi,e,h]
theorem zHq {x:ByteArray} {last:List Pop} {y:Got} {e:List Pop} {r:List Tk} (h:closed x last y=some (e,r)):∃e1 t,y=some (e1,t::r)∧t.text=x∧e=e1++last:=by
 unfold closed at h
 split at h
 ·cases h
 ·cases h
 ·rename_i e1 t r1
  split at h
  ·rename_i ht
   simp only[Option.some.injEq,Prod.mk.injEq]at h
   obtain⟨rfl,rfl⟩:=h
   exact⟨e1,t,rfl,ht,rfl⟩
  ·cases h
theorem zHc:∀f,Sound (ze f) 3
 | 0=>by intro ts e r _ h;simp[ze]at h
 | f+1=>by
  intro ts e r hok h
  have ih:=zHc f
  cases ts with
  | nil=>simp[ze]at h
  | cons t ts=>
   rw[ze]at h
   split at h
   ·rename_i hm
    cases h1:ze f ts with
    | none=>rw[h1]at h;cases h
    | some x=>
     obtain⟨e1,r1⟩:=x
     rw[h1]at h
     simp only[Option.some.injEq,Prod.mk.injEq]at h
     obtain⟨rfl,rfl⟩:=h
     obtain⟨p1,e1',i1,o1,k1⟩:=ih ts e1 r1 hok.tail h1
     refine⟨t::p1,by rw[e1'];rfl,by rw[zAH,hm];exact .neg _ i1,fun V A=>?_,by rw[zAH,hm];exact .neg _ _ k1⟩
     rw[zAH,hm,zAs V A (zCM 45 (by decide)),zBC,o1 V A]
     simp[zCD]
   ·split at h
    ·rename_i hm hp
     obtain⟨e1,c,h1,hc,rfl⟩:=zHq h
     obtain⟨p1,e1',i1,o1,k1⟩:=zG3 ih ts e1 (c::r) hok.tail h1
     refine⟨t::(p1++[c]),by rw[e1'];simp,?_,fun V A=>?_,?_⟩
     ·rw[zAH,zCH,hp]
      show Is 3 (zHT::(tx p1++[c.text]))
      rw[hc];exact .par _ i1
     ·rw[zAH,hp,zAs V A (zCM 40 (by decide)),zCH]
      show _=toksOK V A (tx p1++[c.text])
      rw[hc,zCI V A (by show ¬(⟨#[41]⟩:ByteArray)=⟨#[91]⟩;simp),zAs V A (zCM 41 (by decide)),zBC,o1 V A]
      rfl
     ·rw[zAH,zCH,hp,List.append_nil]
      show Cm 3 (zHT::(tx p1++[c.text])) e1
      rw[hc];exact .par _ _ k1
    ·split at h
     ·rename_i hm hp hk
      simp only[Option.some.injEq,Prod.mk.injEq]at h
      obtain⟨rfl,rfl⟩:=h
      have hn:=hok.head.num.mp hk
      refine⟨[t],rfl,.num _ hn,fun V A=>?_,.num _ hn⟩
      have:zi t.text=false:=by
       cases hq:zi t.text with
       | false=>rfl
       | true=>have:=hok.head.nam.mpr hq;omega
      show _=toksOK V A [t.text]
      rw[zAs V A this];simp[zCD,toksOK]
     ·split at h
      ·rename_i hm hp hk hn
       have hnm:=hok.head.nam.mp hn
       cases ts with
       | nil=>
        simp only[pVar,Option.some.injEq,Prod.mk.injEq]at h
        obtain⟨rfl,rfl⟩:=h
        refine⟨[t],rfl,.nam _ hnm,fun V A=>?_,.nam _ hnm⟩
        show _=toksOK V A [t.text]
        rw[toksOK,if_pos hnm,if_neg (by simp[first,at',zAQ])]
        simp[zCD,toksOK]
       | cons u ts=>
        rw[pVar]at h
        split at h
        ·rename_i hu
         obtain⟨e1,c,h1,hc,rfl⟩:=zHq h
         obtain⟨p1,e1',i1,o1,k1⟩:=zG3 ih ts e1 (c::r) hok.tail.tail h1
         refine⟨t::u::(p1++[c]),by rw[e1'];simp,?_,fun V A=>?_,?_⟩
         ·rw[zAH,zAH,zCH,hu]
          show Is 3 (t.text::zAQ::(tx p1++[c.text]))
          rw[hc];exact .cel _ _ hnm i1
         ·rw[zAH,zAH,hu,zCH]
          show _=toksOK V A (t.text::⟨#[91]⟩::(tx p1++[c.text]))
          rw[toksOK,if_pos hnm,if_pos (show first (⟨#[91]⟩::(tx p1++[c.text]))=zAQ from rfl),zAs V A (zCM 91 (by decide)),hc,zCI V A (by show ¬(⟨#[93]⟩:ByteArray)=⟨#[91]⟩;simp),zAs V A (zCM 93 (by decide)),zBC,o1 V A]
          simp[zCD,toksOK,Bool.and_comm]
         ·rw[zAH,zAH,zCH,hu]
          show Cm 3 (t.text::zAQ::(tx p1++[c.text])) _
          rw[hc];exact .cel _ _ _ hnm k1
        ·rename_i hu
         simp only[Option.some.injEq,Prod.mk.injEq]at h
         obtain⟨rfl,rfl⟩:=h
         refine⟨[t],rfl,.nam _ hnm,fun V A=>?_,.nam _ hnm⟩
         show _=toksOK V A [t.text]
         rw[toksOK,if_pos hnm,if_neg (by simp[first,at',zAQ])]
         simp[zCD,toksOK]
      ·cases h
theorem zFC:Sound zCd 0:=zG3 (zHc 24)
open Rt
inductive zI1 (sg:List ByteArray) (k:Nat):List ByteArray→Prop
 | nil:zI1 sg k []
 | cons (o:ByteArray) (q r:List ByteArray):inB sg o=true→Is k q→zI1 sg k r→zI1 sg k (o::(q++r))
theorem zI1.snoc {sg:List ByteArray} {k:Nat} {t:List ByteArray} (h:zI1 sg k t) (o:ByteArray) (q:List ByteArray) (ho:inB sg o=true) (hq:Is k q):zI1 sg k (t++o::q):=by
 induction h with
 | nil=>have:=zI1.cons o q [] ho hq .nil;simpa using this
 | cons o' q' r' ho' hq' _ ih=>have:=zI1.cons o' q' _ ho' hq' ih;simpa using this
theorem zPo {k:Nat} {p:List ByteArray} (h:Is k p):k=2→∃a t,p=a++t∧Is 3 a∧zI1 zBh 3 t:=by
 induction h with
 | t1 p hp _=>intro _;exact⟨p,[],by simp,hp,.nil⟩
 | t2 p o q hp ho hq ih _=>
  intro _
  obtain⟨a,t,rfl,ha,ht⟩:=ih rfl
  exact⟨a,t++o::q,by simp,ha,ht.snoc o q ho hq⟩
 | _=>intro h;omega
theorem sum_tail {k:Nat} {p:List ByteArray} (h:Is k p):k=1→∃a t,p=a++t∧Is 2 a∧zI1 zBL 2 t:=by
 induction h with
 | s1 p hp _=>intro _;exact⟨p,[],by simp,hp,.nil⟩
 | s2 p o q hp ho hq ih _=>
  intro _
  obtain⟨a,t,rfl,ha,ht⟩:=ih rfl
  exact⟨a,t++o::q,by simp,ha,ht.snoc o q ho hq⟩
 | _=>intro h;omega
theorem zPC {k:Nat} {p:List ByteArray} (h:Is k p):k=0→Is 1 p∨∃a o b,p=a++o::b∧Is 1 a∧inB zBG o=true∧Is 1 b:=by
 intro hk
 cases h with
 | e1 p hp=>exact Or.inl hp
 | e2 p o q hp ho hq=>exact Or.inr ⟨p,o,q,rfl,hp,ho,hq⟩
 | _=>omega
theorem zMa {k:Nat} {p:List ByteArray} (h:Is k p):k=3→(∃x,p=[x]∧zAF x=true)∨(∃x,p=[x]∧zi x=true)∨(∃q,p=zD3::q∧Is 3 q)∨(∃q,p=zHT::(q++[zIc])∧Is 0 q)∨(∃x q,p=x::zAQ::(q++[zBQ])∧zi x=true∧Is 0 q):=by
 intro hk
 cases h with
 | num x h=>exact Or.inl ⟨x,rfl,h⟩
 | nam x h=>exact Or.inr (Or.inl ⟨x,rfl,h⟩)
 | neg p h=>exact Or.inr (Or.inr (Or.inl ⟨p,rfl,h⟩))
 | par p h=>exact Or.inr (Or.inr (Or.inr (Or.inl ⟨p,rfl,h⟩)))
 | cel x p hx h=>exact Or.inr (Or.inr (Or.inr (Or.inr ⟨x,p,rfl,hx,h⟩)))
 | _=>omega
def Ends (lo hi:Int) (r:List Tk):Prop:=(¬first (tx r)=zAQ)∧¬(lo≤zU (first (tx r))∧zU (first (tx r))≤hi)
def Comp (pf:List Tk→Got) (k n:Nat) (lo hi:Int):Prop:=∀p r,zA8 (p++r)→Is k (tx p)→p.length≤n→Ends lo hi r→∃e,pf (p++r)=some (e,r)
theorem zDq {p:List Tk} {a b:List ByteArray} (h:tx p=a++b):∃p1 p2,p=p1++p2∧tx p1=a∧tx p2=b:=by
 obtain⟨p1,p2,h1,h2,h3⟩:=List.map_eq_append_iff.mp h
 exact⟨p1,p2,h1,h2,h3⟩
theorem zBA {p:List Tk} {x:ByteArray} {b:List ByteArray} (h:tx p=x::b):∃t p2,p=t::p2∧t.text=x∧tx p2=b:=by
 obtain⟨t,p2,h1,h2,h3⟩:=List.map_eq_cons_iff.mp h
 exact⟨t,p2,h1,h2,h3⟩
theorem zH5 {p:List Tk} (h:tx p=[]):p=[]:=by simpa[tx] using h
theorem zOa:zU (first [])=0:=by
 simp[first,at',zU]
theorem zQU {pf:List Tk→Got} {sg:List ByteArray} {lo hi:Int} {k K:Nat} {n:Nat} (L:Level sg lo hi k K) {l1 h1:Int} (h:Comp pf k n l1 h1) (hin:∀o,inB sg o=true→¬(l1≤zU o∧zU o≤h1)) :
  ∀(g:Nat) (p r:List Tk),zA8 (p++r)→zI1 sg k (tx p)→p.length≤n→p.length < g→Ends lo hi r→Ends l1 h1 r→∃e,pLoop pf lo hi g (p++r)=some (e,r):=by
 intro g
 induction g with
 | zero=>intro p r _ _ _ hg;omega
 | succ g ih=>
  intro p r hok ht hn hg hr hr1
  generalize htx:tx p=l at ht
  cases ht with
  | nil=>
   have:=zH5 htx
   subst this
   cases r with
   | nil=>exact⟨_,rfl⟩
   | cons t r=>
    refine⟨[],?_⟩
    show pLoop pf lo hi (g+1) (t::r)=_
    rw[pLoop,if_neg (show ¬(lo≤zU t.text∧zU t.text≤hi)from hr.2)]
  | cons o q rest ho hq hrest=>
   obtain⟨t,p2,rfl,h1',h2'⟩:=zBA htx
   obtain⟨pq,pr,rfl,h3,h4⟩:=zDq h2'
   simp only[List.length_cons,List.length_append]at hn hg
   have hend:Ends l1 h1 (pr++r):=by
    cases pr with
    | nil=>simpa using hr1
    | cons u pr=>
     have hu:inB sg u.text=true:=by
      rw[←h4]at hrest
      generalize hh:tx (u::pr)=l2 at hrest
      cases hrest with
      | nil=>simp[tx]at hh
      | cons o' q' r' ho' _ _=>rw[zAH]at hh;injection hh with hh;rw[hh];exact ho'
     exact⟨L.nob _ hu,hin _ hu⟩
   have hok2:zA8 (pq++(pr++r)):=by
    have:=hok
    simp only[List.cons_append,List.append_assoc]at this
    exact this.tail
   obtain⟨e1,he1⟩:=h pq (pr++r) hok2 (by rw[h3];exact hq) (by omega) hend
   obtain⟨e2,he2⟩:=ih pr r hok2.right (by rw[h4];exact hrest) (by omega) (by omega) hr hr1
   apply Exists.intro
   simp only[List.cons_append,List.append_assoc]
   rw[pLoop,if_pos ((L.code _).mpr (by rw[h1'];exact ho)),he1]
   simp only
   rw[he2]
theorem zKe {pf:List Tk→Got} {sg:List ByteArray} {lo hi:Int} {k K:Nat} {n:Nat} (L:Level sg lo hi k K) {l1 h1:Int} (h:Comp pf k n l1 h1) (hin:∀o,inB sg o=true→¬(l1≤zU o∧zU o≤h1))
  (hsp:∀p,Is K p→∃a t,p=a++t∧Is k a∧zI1 sg k t) (hn:n≤24) (p r:List Tk) (hok:zA8 (p++r)) (hp:Is K (tx p)) (hl:p.length≤n) (hr:Ends lo hi r) (hr1:Ends l1 h1 r):∃e,zDT pf lo hi (p++r)=some (e,r):=by
 obtain⟨a,t,he,ha,ht⟩:=hsp _ hp
 obtain⟨pa,pt,rfl,h3,h4⟩:=zDq he
 simp only[List.length_append]at hl
 rw[List.append_assoc]at hok ⊢
 have hend:Ends l1 h1 (pt++r):=by
  cases pt with
  | nil=>simpa using hr1
  | cons u pt=>
   have hu:inB sg u.text=true:=by
    rw[←h4]at ht
    generalize hh:tx (u::pt)=l2 at ht
    cases ht with
    | nil=>simp[tx]at hh
    | cons o' q' r' ho' _ _=>rw[zAH]at hh;injection hh with hh;rw[hh];exact ho'
   exact⟨L.nob _ hu,hin _ hu⟩
 obtain⟨e1,he1⟩:=h pa (pt++r) hok (by rw[h3];exact ha) (by omega) hend
 obtain⟨e2,he2⟩:=zQU L h hin 25 pt r hok.right (by rw[h4];exact ht) (by omega) (by omega) hr hr1
 refine⟨e1++e2,?_⟩
 unfold zDT
 rw[he1]
 simp only
 rw[he2]
 rfl
theorem Ends.sub {lo hi lo' hi':Int} {r:List Tk} (h:Ends lo hi r) (h1:lo≤lo') (h2:hi'≤hi):Ends lo' hi' r:=⟨h.1,fun ⟨a,b⟩=>h.2 ⟨by omega,by omega⟩⟩
theorem zLo {pf:List Tk→Got} {n:Nat} (hn:n≤24) (h:Comp pf 3 n 100 0):Comp (pComp pf) 0 n 5 11:=by
 have ht:Comp (zGT pf) 2 n 7 9:=fun p r hok hp hl hr=>zKe zLn h (fun o _=>by omega) (fun p hp=>zPo hp rfl) hn p r hok hp hl hr ⟨hr.1,by omega⟩
 have hadd:∀o,inB zBL o=true→¬(7≤zU o∧zU o≤9):=fun o ho hc=>by
  have h1:=(zKm o).mpr ho
  omega
 have hs:Comp (zGP pf) 1 n 5 9:=fun p r hok hp hl hr=>zKe zLu ht hadd (fun p hp=>sum_tail hp rfl) hn p r hok hp hl (hr.sub (by omega) (by omega)) (hr.sub (by omega) (by omega))
 intro p r hok hp hl hr
 rcases zPC hp rfl with hp | ⟨a,o,b,he,ha,ho,hb⟩
 ·obtain⟨e,he⟩:=hs p r hok hp hl (hr.sub (by omega) (by omega))
  refine⟨e,?_⟩
  unfold pComp
  rw[he]
  cases r with
  | nil=>rfl
  | cons t r=>
   simp only
   rw[if_neg]
   intro hc
   exact hr.2 ⟨by show 5≤zU t.text;omega,by show zU t.text≤11;omega⟩
 ·obtain⟨pa,p2,rfl,h3,h4⟩:=zDq he
  obtain⟨t,pb,rfl,h5,h6⟩:=zBA h4
  simp only[List.length_append,List.length_cons]at hl
  rw[List.append_assoc]at hok ⊢
  rw[List.cons_append]at hok ⊢
  have hc:=(zKY o).mpr ho
  obtain⟨e1,he1⟩:=hs pa (t::(pb++r)) hok (by rw[h3];exact ha) (by omega) ⟨by show ¬t.text=zAQ;rw[h5];exact zPe ho,by
   show ¬(5≤zU t.text∧zU t.text≤9)
   rw[h5];omega⟩
  obtain⟨e2,he2⟩:=hs pb r hok.right.tail (by rw[h6];exact hb) (by omega) (hr.sub (by omega) (by omega))
  apply Exists.intro
  unfold pComp
  rw[he1]
  simp only
  rw[h5,if_pos hc,he2]
theorem zE6 {x:ByteArray} (h:zi x=true∨zAF x=true) (b:UInt8) (hb:zAl (b.toNat:Int)=false) (hb':zBE (b.toNat:Int)=false):¬x=⟨#[b]⟩:=by
 have:=zLz h b hb hb'
 rw[zCC,decide_eq_false_iff_not]at this
 exact this
theorem closing (b:UInt8) (h:b=41∨b=93):(¬(⟨#[b]⟩:ByteArray)=zAQ)∧¬(5≤zU ⟨#[b]⟩∧zU ⟨#[b]⟩≤11):=by
 rcases h with rfl | rfl <;> simp[zAQ,zU]
theorem zIu:∀n,n≤24→Comp (ze n) 3 n 100 0
 | 0,_=>by
  intro p r _ hp hl
  have:=(zBa hp).ne
  rw[zFN]at this
  omega
 | n+1,hn=>by
  intro p r hok hp hl hr
  have ih:=zIu n (by omega)
  have ihc:=zLo (by omega) ih
  rcases zMa hp rfl with⟨x,he,hx⟩| ⟨x,he,hx⟩| ⟨q,he,hq⟩| ⟨q,he,hq⟩| ⟨x,q,he,hx,hq⟩
  ·obtain⟨t,p2,rfl,h1,h2⟩:=zBA he
   have:=zH5 h2
   subst this
   apply Exists.intro
   simp only[List.cons_append,List.nil_append]
   rw[ze,if_neg (by rw[h1];exact zE6 (Or.inr hx) 45 (by decide) (by decide)),if_neg (by rw[h1];exact zE6 (Or.inr hx) 40 (by decide) (by decide)),if_pos (hok.head.num.mpr (by rw[h1];exact hx))]
  ·obtain⟨t,p2,rfl,h1,h2⟩:=zBA he
   have:=zH5 h2
   subst this
   have hk:=hok.head.nam.mpr (by rw[h1];exact hx)
   simp only[List.cons_append,List.nil_append]
   rw[ze,if_neg (by rw[h1];exact zE6 (Or.inl hx) 45 (by decide) (by decide)),if_neg (by rw[h1];exact zE6 (Or.inl hx) 40 (by decide) (by decide)),if_neg (by omega),if_pos hk]
   cases r with
   | nil=>exact⟨_,rfl⟩
   | cons u r=>
    apply Exists.intro
    rw[pVar,if_neg (show ¬u.text=⟨#[91]⟩from hr.1)]
  ·obtain⟨t,p2,rfl,h1,h2⟩:=zBA he
   simp only[List.length_cons]at hl
   obtain⟨e,he'⟩:=ih p2 r hok.tail (by rw[h2];exact hq) (by omega) hr
   apply Exists.intro
   rw[List.cons_append,ze,if_pos (show t.text=⟨#[45]⟩from h1),he']
  ·obtain⟨t,p2,rfl,h1,h2⟩:=zBA he
   obtain⟨pq,pc,rfl,h3,h4⟩:=zDq h2
   obtain⟨c,p3,rfl,h5,h6⟩:=zBA h4
   have:=zH5 h6
   subst this
   simp only[List.length_cons,List.length_append,List.length_nil]at hl
   simp only[List.cons_append,List.append_assoc,List.nil_append]at hok ⊢
   obtain⟨e,he'⟩:=ihc pq (c::r) hok.tail (by rw[h3];exact hq) (by omega) (by
    have:=closing 41 (Or.inl rfl)
    refine⟨by show ¬c.text=zAQ;rw[h5];exact this.1,by show ¬(5≤zU c.text∧zU c.text≤11);rw[h5];exact this.2⟩)
   apply Exists.intro
   rw[ze,if_neg (by rw[h1];show ¬(⟨#[40]⟩:ByteArray)=⟨#[45]⟩;simp),if_pos (show t.text=⟨#[40]⟩from h1),he',closed,if_pos (show c.text=⟨#[41]⟩from h5)]
  ·obtain⟨t,p2,rfl,h1,h2⟩:=zBA he
   obtain⟨u,p2,rfl,h1',h2⟩:=zBA h2
   obtain⟨pq,pc,rfl,h3,h4⟩:=zDq h2
   obtain⟨c,p3,rfl,h5,h6⟩:=zBA h4
   have:=zH5 h6
   subst this
   simp only[List.length_cons,List.length_append,List.length_nil]at hl
   simp only[List.cons_append,List.append_assoc,List.nil_append]at hok ⊢
   have hk:=hok.head.nam.mpr (by rw[h1];exact hx)
   obtain⟨e,he'⟩:=ihc pq (c::r) hok.tail.tail (by rw[h3];exact hq) (by omega) (by
    have:=closing 93 (Or.inr rfl)
    refine⟨by show ¬c.text=zAQ;rw[h5];exact this.1,by show ¬(5≤zU c.text∧zU c.text≤11);rw[h5];exact this.2⟩)
   apply Exists.intro
   rw[ze,if_neg (by rw[h1];exact zE6 (Or.inl hx) 45 (by decide) (by decide)),if_neg (by rw[h1];exact zE6 (Or.inl hx) 40 (by decide) (by decide)),if_neg (by omega),if_pos hk,pVar,if_pos (show u.text=⟨#[91]⟩from h1'),he',closed,if_pos (show c.text=⟨#[93]⟩from h5)]
theorem zEn:Comp zCd 0 24 5 11:=zLo (Nat.le_refl _) (zIu 24 (Nat.le_refl _))
open Rt
def zBU:ByteArray:=⟨#[44]⟩
def toW:ByteArray:=⟨#[116,111]⟩
theorem zGq {x:ByteArray} (h:zi x=true∨zAF x=true):¬x=zBU∧¬x=toW:=by
 refine⟨zE6 h 44 (by decide) (by decide),?_⟩
 rintro rfl
 rcases h with h | h
 ·simp[zi,toW,inB,zFV]at h
 ·have e:zAO toW 0=116:=by rw[zAo (by show 0 < 2;decide)];rfl
  simp[zAF,e,zBE]at h
theorem zFh (b:UInt8) (h:¬b=44):¬(⟨#[b]⟩:ByteArray)=zBU∧¬(⟨#[b]⟩:ByteArray)=toW:=by
 refine⟨?_,?_⟩
 ·intro e;simp[zBU]at e;exact h e
 ·intro e;simp[toW]at e
theorem in_no {o:ByteArray} (h:inB zBh o=true∨inB zBL o=true∨inB zBG o=true):¬o=zBU∧¬o=toW:=by
 rcases h with h | h | h
 ·rcases zEo h with rfl | rfl | rfl <;> exact zFh _ (by decide)
 ·rcases zEt h with rfl | rfl <;> exact zFh _ (by decide)
 ·rcases zGL h with rfl | rfl <;> exact zFh _ (by decide)
theorem zGF {k:Nat} {p:List ByteArray} (h:Is k p):∀x∈p,¬x=zBU∧¬x=toW:=by
 induction h with
 | num x h=>intro y hy;simp at hy;subst hy;exact zGq (Or.inr h)
 | nam x h=>intro y hy;simp at hy;subst hy;exact zGq (Or.inl h)
 | neg p _ ih=>
  intro y hy
  rcases List.mem_cons.mp hy with rfl | hy
  ·exact zFh 45 (by decide)
  ·exact ih y hy
 | par p _ ih=>
  intro y hy
  simp only[List.mem_cons,List.mem_append,List.not_mem_nil,or_false]at hy
  rcases hy with rfl | hy | rfl
  ·exact zFh 40 (by decide)
  ·exact ih y hy
  ·exact zFh 41 (by decide)
 | cel x p hx _ ih=>
  intro y hy
  simp only[List.mem_cons,List.mem_append,List.not_mem_nil,or_false]at hy
  rcases hy with rfl | rfl | hy | rfl
  ·exact zGq (Or.inl hx)
  ·exact zFh 91 (by decide)
  ·exact ih y hy
  ·exact zFh 93 (by decide)
 | t1 p _ ih=>exact ih
 | t2 p o q _ ho _ ih1 ih2=>
  intro y hy
  simp only[List.mem_cons,List.mem_append]at hy
  rcases hy with hy | rfl | hy
  ·exact ih1 y hy
  ·exact in_no (Or.inl ho)
  ·exact ih2 y hy
 | s1 p _ ih=>exact ih
 | s2 p o q _ ho _ ih1 ih2=>
  intro y hy
  simp only[List.mem_cons,List.mem_append]at hy
  rcases hy with hy | rfl | hy
  ·exact ih1 y hy
  ·exact in_no (Or.inr (Or.inl ho))
  ·exact ih2 y hy
 | e1 p _ ih=>exact ih
 | e2 p o q _ ho _ ih1 ih2=>
  intro y hy
  simp only[List.mem_cons,List.mem_append]at hy
  rcases hy with hy | rfl | hy
  ·exact ih1 y hy
  ·exact in_no (Or.inr (Or.inr ho))
  ·exact ih2 y hy
def joinC:List (List ByteArray)→List ByteArray
 | []=>[]
 | [a]=>a
 | a::b::r=>a++zBU::joinC (b::r)
theorem zKB:∀(ps:List (List ByteArray)) (l:List ByteArray),joinC (ps++[l])=ps.flatMap (fun p=>p++[zBU])++l
 | [],l=>by simp[joinC]
 | [a],l=>by simp[joinC]
 | a::b::r,l=>by
  have ih:=zKB (b::r) l
  show joinC (a::b::(r++[l]))=_
  rw[joinC]
  rw[List.cons_append]at ih
  rw[ih]
  simp
theorem zKX {x:ByteArray}:((x.toList==[44])=true)↔x=zBU:=by
 rw[zCC];simp[zBU]
theorem zHM (t:List ByteArray):∀i,i≤t.length→t.take i=(zg t i).1.flatMap (fun p=>p++[zBU])++(t.take i).drop (zg t i).2
 | 0,_=>by simp[zg]
 | i+1,h=>by
  have ih:=zHM t i (by omega)
  have hb:=zGB t i
  have ht:t.take (i+1)=t.take i++[at' t i]:=by
   rw[zAi (by omega),List.take_succ_eq_append_getElem (by omega)]
  rw[zg]
  split
  ·rename_i hc
   have hx:=zKX.mp hc.1
   simp only
   have hd:(t.take (i+1)).drop (i+1)=[]:=List.drop_eq_nil_of_le (by rw[List.length_take];omega)
   rw[List.flatMap_append,hd]
   simp only[List.flatMap_cons,List.flatMap_nil,List.append_nil]
   rw[ht,hx]
   conv=>lhs;rw[ih]
   simp
  ·rw[ht,List.drop_append_of_le_length (by rw[List.length_take];omega),←List.append_assoc,←ih]
theorem zOP (t:List ByteArray):joinC (parts t)=t:=by
 rw[parts]
 split
 ·rename_i h
  rw[List.eq_nil_of_length_eq_zero h];rfl
 ·rw[zKB]
  have:=zHM t t.length (Nat.le_refl _)
  rw[List.take_length]at this
  exact this.symm
theorem zEx {a b:List ByteArray} (ha:∀x∈a,¬x=zBU):∀i,i≤a.length→zg (a++b) i=([],0)
 | 0,_=>rfl
 | i+1,h=>by
  rw[zg,if_neg,zEx ha i (by omega)]
  rintro ⟨h1,_⟩
  rw[zEs (by omega),zAi (by omega)]at h1
  exact ha _ (List.getElem_mem _) (zKX.mp h1)
theorem zQx:dch zBU=0:=by rw[zBU,zFv];decide
theorem zHL {a c:List ByteArray} (ha:∀x∈a,¬x=zBU) (hb:Bal a):∀j,j≤c.length→zg (a++zBU::c) (a.length+1+j)=(a::(zg c j).1,a.length+1+(zg c j).2)
 | 0,_=>by
  rw[Nat.add_zero,zg.eq_def]
  simp only
  rw[if_pos,zEx ha _ (Nat.le_refl _)]
  ·simp[zg]
  ·refine⟨zKX.mpr ?_,?_⟩
   ·rw[zG4];rfl
   ·rw[zCm a _ _ (Nat.le_refl _)];exact hb.zero
 | j+1,h=>by
  have ih:=zHL (c:=c) ha hb j (by omega)
  have e1:at' (a++zBU::c) (a.length+1+j)=at' c j:=by
   rw[show a.length+1+j=a.length+(j+1) by omega,zCR,zBq]
  have e2:depth (a++zBU::c) (a.length+1+j)=depth c j:=by
   rw[show a.length+1+j=a.length+(j+1) by omega,zB0,zBF,hb.zero,zQx];omega
  rw[show a.length+1+(j+1)=(a.length+1+j)+1 by omega,zg,e1,e2,ih]
  by_cases hc:((at' c j).toList==[44])=true∧depth c j=0
  ·rw[if_pos hc,zg,if_pos hc]
   simp only[List.cons_append,Prod.mk.injEq,List.cons.injEq,true_and]
   refine⟨?_,by omega⟩
   congr 1
   congr 1
   rw[show a.length+1+j=a.length+(j+1) by omega,List.take_append,List.take_of_length_le (by omega),show a.length+(j+1)-a.length=j+1 by omega,List.take_succ_cons,show a.length+1+(zg c j).2=a.length+((zg c j).2+1) by omega,List.drop_append]
   rw[List.drop_eq_nil_of_le (by omega),show a.length+((zg c j).2+1)-a.length=(zg c j).2+1 by omega]
   rfl
  ·rw[if_neg hc,zg,if_neg hc]
theorem zOQ {a c:List ByteArray} (ha:∀x∈a,¬x=zBU) (hb:Bal a) (hc:0 < c.length):parts (a++zBU::c)=a::parts c:=by
 have hl:(a++zBU::c).length=a.length+1+c.length:=by simp;omega
 rw[parts,parts,if_neg (by omega),if_neg (by omega),hl,zHL ha hb _ (Nat.le_refl _)]
 simp only[List.cons_append,List.cons.injEq,true_and]
 congr 2
 rw[show a.length+1+(zg c c.length).2=a.length+((zg c c.length).2+1) by omega,List.drop_append,List.drop_eq_nil_of_le (by omega),show a.length+((zg c c.length).2+1)-a.length=(zg c c.length).2+1 by omega]
 rfl
theorem zQF {a:List ByteArray} (ha:∀x∈a,¬x=zBU) (hb:0 < a.length):parts a=[a]:=by
 have:=zEx (b:=[]) ha _ (Nat.le_refl _)
 rw[List.append_nil]at this
 rw[parts,if_neg (by omega),this];rfl
theorem zQd:∀(args:List (List ByteArray)),(∀a∈args,Is 0 a)→0 < args.length→0 < (joinC args).length
 | [],_,h=>by simp at h
 | [a],h,_=>(zBa (h a (by simp))).ne
 | a::b::r,_,_=>by rw[joinC];simp;omega
theorem zHJ:∀(args:List (List ByteArray)),(∀a∈args,Is 0 a)→parts (joinC args)=args
 | [],_=>rfl
 | [a],h=>by
  have ha:=h a (by simp)
  exact zQF (fun x hx=>(zGF ha x hx).1) (zBa ha).ne
 | a::b::r,h=>by
  have ha:=h a (by simp)
  have hr:∀x∈b::r,Is 0 x:=fun x hx=>h x (by simp at hx ⊢;exact Or.inr hx)
  rw[joinC,zOQ (fun x hx=>(zGF ha x hx).1) (zBa ha) (zQd _ hr (by simp)),zHJ (b::r) hr]
theorem to_is {x:ByteArray}:((x.toList==[116,111])=true)↔x=toW:=by
 rw[zCC];simp[toW]
theorem zGb {b:List ByteArray}:∀(a:List ByteArray) (i:Nat),(∀x∈a,¬x=toW)→behindFrom (a++toW::b) i=i+a.length
 | [],i,_=>by rw[List.nil_append,behindFrom,if_pos (to_is.mpr rfl)];simp
 | x::a,i,h=>by
  rw[List.cons_append,behindFrom,if_neg (fun e=>h x (by simp) (to_is.mp e)),zGb a (i+1) (fun y hy=>h y (by simp[hy]))]
  simp;omega
theorem zGM {a b:List ByteArray} (h:∀x∈a,¬x=toW):behind (a++toW::b)=a.length:=by
 unfold behind;rw[zGb a 0 h];omega
theorem zGa:∀(t:List ByteArray) (i:Nat),0 < behindFrom t i→i≤behindFrom t i∧behindFrom t i < i+t.length∧at' t (behindFrom t i-i)=toW
 | [],i,h=>by simp[behindFrom]at h
 | x::r,i,h=>by
  rw[behindFrom]at h ⊢
  split at h
  ·rename_i hx
   rw[if_pos hx]
   refine⟨Nat.le_refl _,by simp,?_⟩
   rw[Nat.sub_self,zGN];exact to_is.mp hx
  ·rename_i hx
   rw[if_neg hx]
   obtain⟨h1,h2,h3⟩:=zGa r (i+1) h
   refine⟨by omega,by simp;omega,?_⟩
   rw[show behindFrom r (i+1)-i=(behindFrom r (i+1)-(i+1))+1 by omega,zBq]
   exact h3
theorem zQ4 {t:List ByteArray} (h:0 < behind t):behind t < t.length∧at' t (behind t)=toW:=by
 obtain⟨_,h2,h3⟩:=zGa t 0 h
 exact⟨by unfold behind;omega,h3⟩
end Rf
end Go.Proofs.YthleadfkfnnadaaGreat
