/- What stands in an expression; lists of expressions; the word to. -/
import Derived.Test.YthleadfkfnnadaaGreatRtTidy
import Derived.Test.YthleadfkfnnadaaGreatEqv2
set_option maxHeartbeats 4000000
set_option maxRecDepth 100000
set_option linter.unusedSimpArgs false
namespace Go.Proofs.YthleadfkfnnadaaGreat
variable {o x:ByteArray} {lo hi l1 h1:Int} {a p q sg c:List ByteArray} {k K n:Nat}
namespace Rf
open Rt
structure GM (t:Tk):Prop where
 num:t.kind=2↔xi t.text=true
 br:(t.kind=1/\aL t.text=false)↔yg t.text=true
def jf (ts:List Tk):Prop:=∀t∈ts,GM t
theorem jf.right {a b:List Tk} (h:jf (a++b)):jf b:=fun t ht=>h t (by simp[ht])
theorem jf.tail {t:Tk} {b:List Tk} (h:jf (t::b)):jf b:=fun u hu=>h u (by simp[hu])
theorem jf.head {t:Tk} {b:List Tk} (h:jf (t::b)):GM t:=h t (by simp)
theorem ZP {a b:List Tk}:tx (a++b)=tx a++tx b:=by simp[tx]
theorem xq {t:Tk} {b:List Tk}:tx (t::b)=t.text::tx b:=rfl
theorem KE {a:List Tk}:(tx a).length=a.length:=by simp[tx]
def toksOK (V A:ByteArray->Bool):List ByteArray->Bool
 | []=>true
 | x::r=>(if yg x=true then (if first r=qI then A x else V x)else true) && toksOK V A r
def ZG (V A:ByteArray->Bool) (e:List qM):Bool:=e.all (fun o=>if o.code=2 then V o.name else if o.code=3 then A o.name else true)
theorem jm (V A:ByteArray->Bool) (a b:List qM):ZG V A (a++b)=(ZG V A a && ZG V A b):=by simp[ZG]
theorem A8 (h:0 < p.length):first (p++q)=first p:=JS h
theorem ZQ (V A:ByteArray->Bool) {q:List ByteArray} (h:¬first q=qI):∀p:List ByteArray,toksOK V A (p++q)=(toksOK V A p && toksOK V A q)
 | []=>by simp[toksOK]
 | x::r=>by
  rw[yF,toksOK,toksOK,ZQ V A h r,Bool.and_assoc];cases r with
  | nil=>rw[xN,zA h,zA (show ¬first []=qI by simp[first,ve,qI])]
  | cons y s=>rw[A8 (by simp)]
theorem px (x:ByteArray):(7<=yI x/\yI x<=9)↔kp vJ x=true:=by
 simp only[yI,ZF,kp,vJ,yS];by_cases h1:x=⟨#[43]⟩
 ·subst h1;simp
 by_cases h2:x=⟨#[45]⟩
 ·subst h2;simp
 by_cases h3:x=⟨#[42]⟩
 ·subst h3;simp
 by_cases h4:x=⟨#[47]⟩
 ·subst h4;simp
 by_cases h5:x=⟨#[37]⟩
 ·subst h5;simp
 by_cases h6:x=⟨#[60]⟩
 ·subst h6;simp
 by_cases h7:x=⟨#[61]⟩
 ·subst h7;simp
 simp[h1,h2,h3,h4,h5,h6,h7,eY]
theorem iE (x:ByteArray):(5<=yI x/\yI x<=6)↔kp kL x=true:=by
 simp only[yI,ZF,kp,kL,yS];by_cases h1:x=⟨#[43]⟩
 ·subst h1;simp
 by_cases h2:x=⟨#[45]⟩
 ·subst h2;simp
 by_cases h3:x=⟨#[42]⟩
 ·subst h3;simp
 by_cases h4:x=⟨#[47]⟩
 ·subst h4;simp
 by_cases h5:x=⟨#[37]⟩
 ·subst h5;simp
 by_cases h6:x=⟨#[60]⟩
 ·subst h6;simp
 by_cases h7:x=⟨#[61]⟩
 ·subst h7;simp
 simp[h1,h2,h3,h4,h5,h6,h7,eY]
theorem gn (x:ByteArray):(10<=yI x/\yI x<=11)↔kp kF x=true:=by
 simp only[yI,ZF,kp,kF,yS];by_cases h1:x=⟨#[43]⟩
 ·subst h1;simp
 by_cases h2:x=⟨#[45]⟩
 ·subst h2;simp
 by_cases h3:x=⟨#[42]⟩
 ·subst h3;simp
 by_cases h4:x=⟨#[47]⟩
 ·subst h4;simp
 by_cases h5:x=⟨#[37]⟩
 ·subst h5;simp
 by_cases h6:x=⟨#[60]⟩
 ·subst h6;simp
 by_cases h7:x=⟨#[61]⟩
 ·subst h7;simp
 simp[h1,h2,h3,h4,h5,h6,h7,eY]
inductive Cm:Nat->List ByteArray->List qM->Prop
 | num (x:ByteArray):xi x=true->Cm 3 [x] [⟨1,val x,⟨#[]⟩⟩]
 | br (x:ByteArray):yg x=true->Cm 3 [x] [⟨2,0,x⟩]
 | neg (p:List ByteArray) (e:List qM):Cm 3 p e->Cm 3 (QM::p) (e++[⟨4,0,⟨#[]⟩⟩])
 | par (p:List ByteArray) (e:List qM):Cm 0 p e->Cm 3 (aZ::(p++[dS])) e
 | rE (x:ByteArray) (p:List ByteArray) (e:List qM):yg x=true->Cm 0 p e->Cm 3 (x::qI::(p++[kM])) (e++[⟨3,0,x⟩])
 | t1 (p:List ByteArray) (e:List qM):Cm 3 p e->Cm 2 p e
 | t2 (p:List ByteArray) (o:ByteArray) (q:List ByteArray) (e f:List qM):Cm 2 p e->kp vJ o=true->Cm 3 q f->Cm 2 (p++o::q) (e++f++[⟨yI o,0,⟨#[]⟩⟩])
 | s1 (p:List ByteArray) (e:List qM):Cm 2 p e->Cm 1 p e
 | s2 (p:List ByteArray) (o:ByteArray) (q:List ByteArray) (e f:List qM):Cm 1 p e->kp kL o=true->Cm 2 q f->Cm 1 (p++o::q) (e++f++[⟨yI o,0,⟨#[]⟩⟩])
 | e1 (p:List ByteArray) (e:List qM):Cm 1 p e->Cm 0 p e
 | e2 (p:List ByteArray) (o:ByteArray) (q:List ByteArray) (e f:List qM):Cm 1 p e->kp kF o=true->Cm 1 q f->Cm 0 (p++o::q) (e++f++[⟨yI o,0,⟨#[]⟩⟩])
theorem Cm.is {e:List qM} (h:Cm k p e):Is k p:=by
 induction h with
 | num x h=>exact .num x h
 | br x h=>exact .br x h
 | neg p _ _ ih=>exact .neg p ih
 | par p _ _ ih=>exact .par p ih
 | rE x p _ hx _ ih=>exact .rE x p hx ih
 | t1 p _ _ ih=>exact .t1 p ih
 | t2 p o q _ _ _ ho _ ih1 ih2=>exact .t2 p o q ih1 ho ih2
 | s1 p _ _ ih=>exact .s1 p ih
 | s2 p o q _ _ _ ho _ ih1 ih2=>exact .s2 p o q ih1 ho ih2
 | e1 p _ _ ih=>exact .e1 p ih
 | e2 p o q _ _ _ ho _ ih1 ih2=>exact .e2 p o q ih1 ho ih2
structure Level (sg:List ByteArray) (lo hi:Int) (k K:Nat):Prop where
 code:∀x,(lo<=yI x/\yI x<=hi)↔kp sg x=true
 base:∀p,Is k p->Is K p
 up:∀p o q,Is K p->kp sg o=true->Is k q->Is K (p++o::q)
 sgn:∀o,kp sg o=true->Bd o
 nob:∀o,kp sg o=true->¬o=qI
 Gq:∀p e,Cm k p e->Cm K p e
 cup:∀p o q e f,Cm K p e->kp sg o=true->Cm k q f->Cm K (p++o::q) (e++f++[⟨yI o,0,⟨#[]⟩⟩])
theorem mK:Level vJ 7 9 3 2:=⟨px,.t1,fun p o q=>.t2 p o q,fun _=>ay,fun o h=>by rcases JO h with rfl | rfl | rfl <;> simp[qI],.t1,.t2⟩
theorem mS:Level kL 5 6 2 1:=⟨iE,.s1,fun p o q=>.s2 p o q,fun _=>ba,fun o h=>by rcases JT h with rfl | rfl <;> simp[qI],.s1,.s2⟩
theorem uz (h:kp kF o=true):¬o=qI:=by rcases VD h with rfl | rfl <;> simp[qI]
theorem Bd.CV (h:Bd o):yg o=false:=by
 have:=h.opd;simp[KX]at this;exact this.1.1.1
theorem jI (V A:ByteArray->Bool) (h:yg o=false) (q:List ByteArray):toksOK V A (o::q)=toksOK V A q:=by
 rw[toksOK,zA (by rw[h];simp)];rfl
def Sound (pf:List Tk->JX) (k:Nat):Prop:=∀ts e r,jf ts->pf ts=some (e,r)->∃p,ts=p++r/\Is k (tx p)/\(∀V A,ZG V A e=toksOK V A (tx p))/\Cm k (tx p) e
theorem gB {pf:List Tk->JX} {sg:List ByteArray} {lo hi:Int} {k K:Nat} (L:Level sg lo hi k K) (h:Sound pf k):∀(g:Nat) (a:List ByteArray) (ea:List qM) (ts:List Tk) (e:List qM) (r:List Tk),jf ts->Is K a->Cm K a ea->pLoop pf lo hi g ts=some (e,r)->
  ∃p,ts=p++r/\Is K (a++tx p)/\(¬first (tx p)=qI)/\(∀V A,ZG V A e=toksOK V A (tx p))/\Cm K (a++tx p) (ea++e)
 | 0,_,_,_,_,_,_,_,_,h'=>by simp[pLoop]at h'
 | g+1,a,ea,[],e,r,_,ha,hca,h'=>by
  simp[pLoop]at h';obtain⟨rfl,rfl⟩:=h';exact⟨[],rfl,by simpa[tx] using ha,by simp[tx,first,ve,qI],fun V A=>rfl,by simpa[tx] using hca⟩
 | g+1,a,ea,t::ts,e,r,hok,ha,hca,h'=>by
  rw[pLoop]at h';split at h'
  ·rename_i hc;have o:=(L.code _).mp hc;cases h1:pf ts with
   | none=>rw[h1]at h';cases h'
   | some x=>
    obtain⟨H,r1⟩:=x;rw[h1]at h';simp only at h';obtain⟨z,j,U,N,R⟩:=h ts H r1 hok.tail h1;cases h2:pLoop pf lo hi g r1 with
    | none=>rw[h2]at h';cases h'
    | some y=>
     obtain⟨G,I⟩:=y;rw[h2]at h';simp only[zx,yZ]at h';obtain⟨rfl,rfl⟩:=h';have f:jf r1:=by rw[j]at hok;exact hok.tail.right
     have D:=L.up a t.text (tx z) ha o U;have i:=L.cup a t.text (tx z) ea H hca o R;obtain⟨J,F,T,n2,M,O⟩:=gB L h g _ _ r1 G I f D i h2;refine⟨t::(z++J),by rw[j,F];simp,?_,?_,fun V A=>?_,by rw[xq,ZP];simpa using O⟩
     ·rw[xq,ZP];simpa using T
     ·rw[xq];exact L.nob _ o
     ·rw[xq,jI V A (L.sgn _ o).CV,ZP,ZQ V A n2,jm,N V A];congr 1;show ((if yI t.text=2 then _ else if yI t.text=3 then _ else true) && ZG V A G)=_;have d:¬yI t.text=2/\¬yI t.text=3:=by
       unfold yI
       repeat' split
       all_goals omega
      rw[zA d.1,zA d.2,M V A];rfl
  ·simp only[zx,yZ]at h';obtain⟨rfl,rfl⟩:=h';exact⟨[],rfl,by simpa[tx] using ha,by simp[tx,first,ve,qI],fun V A=>rfl,by simpa[tx] using hca⟩
theorem dw {pf:List Tk->JX} (L:Level sg lo hi k K) (h:Sound pf k):Sound (Xa pf lo hi) K:=by
 intro ts e r f d;unfold Xa at d;cases h1:pf ts with
 | none=>rw[h1]at d;cases d
 | some x=>
  obtain⟨R,r1⟩:=x;rw[h1]at d;simp only at d;obtain⟨F,j,N,H,J⟩:=h ts R r1 f h1;cases h2:pLoop pf lo hi 25 r1 with
  | none=>rw[h2]at d;simp[Yb]at d
  | some y=>
   obtain⟨O,z⟩:=y;rw[h2]at d;simp only[Yb,zx,yZ]at d;obtain⟨rfl,rfl⟩:=d;have i:jf r1:=by rw[j]at f;exact f.right
   obtain⟨D,o,M,n2,G,I⟩:=gB L h 25 _ _ r1 O z i (L.base _ N) (L.Gq _ _ J) h2;refine⟨F++D,by rw[j,o];simp,by rw[ZP];exact M,fun V A=>?_,by rw[ZP];exact I⟩;rw[ZP,ZQ V A n2,jm,H V A,G V A]
theorem V6 {pf:List Tk->JX} (h:Sound pf 3):Sound (pComp pf) 0:=by
 have I:Sound (VI pf) 1:=dw mS (dw mK h);intro ts e r j d;unfold pComp at d;cases h1:VI pf ts with
 | none=>rw[h1]at d;cases d
 | some x=>
  obtain⟨T,r1⟩:=x;rw[h1]at d;obtain⟨z,i,G,D,F⟩:=I ts T r1 j h1;cases r1 with
  | nil=>
   simp only[zx,yZ]at d;obtain⟨rfl,rfl⟩:=d;exact⟨z,i,.e1 _ G,D,.e1 _ _ F⟩
  | cons t r1=>
   simp only at d;split at d
   ·rename_i hc;have f:=(gn _).mp hc;cases h2:VI pf r1 with
    | none=>rw[h2]at d;cases d
    | some y=>
     obtain⟨R,J⟩:=y;rw[h2]at d;simp only[zx,yZ]at d;obtain⟨rfl,rfl⟩:=d;have o:jf r1:=by rw[i]at j;exact j.right.tail
     obtain⟨L,H,O,M,N⟩:=I r1 R J o h2;refine⟨z++t::L,by rw[i,H];simp,by rw[ZP,xq];exact .e2 _ _ _ G f O,fun V A=>?_,by rw[ZP,xq];exact .e2 _ _ _ _ _ F f N⟩;rw[ZP,xq,ZQ V A (by exact uz f),jI V A (eb f).CV,jm,jm,D V A,M V A];have k:¬yI t.text=2/\¬yI t.text=3:=by omega
     show (_ && ((if yI t.text=2 then _ else if yI t.text=3 then _ else true) && true))=_;rw[zA k.1,zA k.2];simp
   ·simp only[zx,yZ]at d;obtain⟨rfl,rfl⟩:=d;exact⟨z,i,.e1 _ G,D,.e1 _ _ F⟩
theorem ZV (b:UInt8) (h:qt (b.toNat:Int)=false):yg ⟨#[b]⟩=false:=by
 have e:qC ⟨#[b]⟩ 0=(b.toNat:Int):=by rw[jB (by show 0 < 1;decide)];rfl
 simp[yg,e,h]
theorem bU {last:List qM} {y:JX} {e:List qM} {r:List Tk} (h:closed x last y=some (e,r)):∃e1 t,y=some (e1,t::r)/\t.text=x/\e=e1++last:=by
 unfold closed at h;split at h
 ·cases h
 ·cases h
 ·rename_i e1 t r1;split at h
  ·rename_i ht;simp only[zx,yZ]at h;obtain⟨rfl,rfl⟩:=h;exact⟨e1,t,rfl,ht,rfl⟩
  ·cases h
theorem ak:∀f,Sound (yV f) 3
 | 0=>by intro ts e r _ h;simp[yV]at h
 | f+1=>by
  intro ts e r i h;have G:=ak f;cases ts with
  | nil=>simp[yV]at h
  | cons t ts=>
   rw[yV]at h;split at h
   ·rename_i hm;cases h1:yV f ts with
    | none=>rw[h1]at h;cases h
    | some x=>
     obtain⟨y,H⟩:=x;rw[h1]at h;simp only[zx,yZ]at h;obtain⟨rfl,rfl⟩:=h;obtain⟨j,k,F,z,D⟩:=G ts y H i.tail h1;refine⟨t::j,by rw[k];rfl,by rw[xq,hm];exact .neg _ F,fun V A=>?_,by rw[xq,hm];exact .neg _ _ D⟩;rw[xq,hm,jI V A (ZV 45 (by decide)),jm,z V A];simp[ZG]
   ·split at h
    ·rename_i hm hp;obtain⟨y,c,h1,o,rfl⟩:=bU h;obtain⟨j,k,F,z,D⟩:=V6 G ts y (c::r) i.tail h1;refine⟨t::(j++[c]),by rw[k];simp,?_,fun V A=>?_,?_⟩
     ·rw[xq,ZP,hp];show Is 3 (aZ::(tx j++[c.text]));rw[o];exact .par _ F
     ·rw[xq,hp,jI V A (ZV 40 (by decide)),ZP];show _=toksOK V A (tx j++[c.text]);rw[o,ZQ V A (by show ¬(⟨#[41]⟩:ByteArray)=⟨#[91]⟩;simp),jI V A (ZV 41 (by decide)),jm,z V A];rfl
     ·rw[xq,ZP,hp,yX];show Cm 3 (aZ::(tx j++[c.text])) y;rw[o];exact .par _ _ D
    ·split at h
     ·rename_i hm hp hk;simp only[zx,yZ]at h;obtain⟨rfl,rfl⟩:=h;have hn:=i.head.num.mp hk;refine⟨[t],rfl,.num _ hn,fun V A=>?_,.num _ hn⟩;have:yg t.text=false:=by
       cases hq:yg t.text with
       | false=>rfl
       | true=>have:=i.head.br.mpr hq;omega
      show _=toksOK V A [t.text];rw[jI V A this];simp[ZG,toksOK]
     ·split at h
      ·rename_i hm hp hk hn;have d:=i.head.br.mp hn;cases ts with
       | nil=>
        simp only[pVar,zx,yZ]at h;obtain⟨rfl,rfl⟩:=h;refine⟨[t],rfl,.br _ d,fun V A=>?_,.br _ d⟩;show _=toksOK V A [t.text];rw[toksOK,zE d,zA (by simp[first,ve,qI])];simp[ZG,toksOK]
       | cons u ts=>
        rw[pVar]at h;split at h
        ·rename_i hu;obtain⟨y,c,h1,o,rfl⟩:=bU h;obtain⟨j,k,F,z,D⟩:=V6 G ts y (c::r) i.tail.tail h1;refine⟨t::u::(j++[c]),by rw[k];simp,?_,fun V A=>?_,?_⟩
         ·rw[xq,xq,ZP,hu];show Is 3 (t.text::qI::(tx j++[c.text]));rw[o];exact .rE _ _ d F
         ·rw[xq,xq,hu,ZP];show _=toksOK V A (t.text::⟨#[91]⟩::(tx j++[c.text]));rw[toksOK,zE d,zE (show first (⟨#[91]⟩::(tx j++[c.text]))=qI from rfl),jI V A (ZV 91 (by decide)),o,ZQ V A (by show ¬(⟨#[93]⟩:ByteArray)=⟨#[91]⟩;simp),jI V A (ZV 93 (by decide)),jm,z V A];simp[ZG,toksOK,Bool.and_comm]
         ·rw[xq,xq,ZP,hu];show Cm 3 (t.text::qI::(tx j++[c.text])) _;rw[o];exact .rE _ _ _ d D
        ·rename_i hu;simp only[zx,yZ]at h;obtain⟨rfl,rfl⟩:=h;refine⟨[t],rfl,.br _ d,fun V A=>?_,.br _ d⟩;show _=toksOK V A [t.text];rw[toksOK,zE d,zA (by simp[first,ve,qI])];simp[ZG,toksOK]
      ·cases h
theorem Jt:Sound Z1 0:=V6 (ak 24)
open Rt
inductive eD (sg:List ByteArray) (k:Nat):List ByteArray->Prop
 | nil:eD sg k []
 | cons (o:ByteArray) (q r:List ByteArray):kp sg o=true->Is k q->eD sg k r->eD sg k (o::(q++r))
theorem eD.snoc {t:List ByteArray} (h:eD sg k t) (o:ByteArray) (q:List ByteArray) (f:kp sg o=true) (d:Is k q):eD sg k (t++o::q):=by
 induction h with
 | nil=>have:=eD.cons o q [] f d .nil;simpa using this
 | cons o' q' r' ho' hq' _ ih=>have:=eD.cons o' q' _ ho' hq' ih;simpa using this
theorem wN (h:Is k p):k=2->∃a t,p=a++t/\Is 3 a/\eD vJ 3 t:=by
 induction h with
 | t1 p hp _=>intro _;exact⟨p,[],by simp,hp,.nil⟩
 | t2 p o q hp ho hq ih _=>
  intro _;obtain⟨a,t,rfl,f,d⟩:=ih rfl;exact⟨a,t++o::q,by simp,f,d.snoc o q ho hq⟩
 | _=>intro h;omega
theorem Br (h:Is k p):k=1->∃a t,p=a++t/\Is 2 a/\eD kL 2 t:=by
 induction h with
 | s1 p hp _=>intro _;exact⟨p,[],by simp,hp,.nil⟩
 | s2 p o q hp ho hq ih _=>
  intro _;obtain⟨a,t,rfl,f,d⟩:=ih rfl;exact⟨a,t++o::q,by simp,f,d.snoc o q ho hq⟩
 | _=>intro h;omega
theorem tZ (h:Is k p):k=0->Is 1 p\/∃a o b,p=a++o::b/\Is 1 a/\kp kF o=true/\Is 1 b:=by
 intro d;cases h with
 | e1 p hp=>exact Or.inl hp
 | e2 p o q hp ho hq=>exact Or.inr ⟨p,o,q,rfl,hp,ho,hq⟩
 | _=>omega
theorem nV (h:Is k p):k=3->(∃x,p=[x]/\xi x=true)\/(∃x,p=[x]/\yg x=true)\/(∃q,p=QM::q/\Is 3 q)\/(∃q,p=aZ::(q++[dS])/\Is 0 q)\/(∃x q,p=x::qI::(q++[kM])/\yg x=true/\Is 0 q):=by
 intro d;cases h with
 | num x h=>exact Or.inl ⟨x,rfl,h⟩
 | br x h=>exact Or.inr (Or.inl ⟨x,rfl,h⟩)
 | neg p h=>exact Or.inr (Or.inr (Or.inl ⟨p,rfl,h⟩))
 | par p h=>exact Or.inr (Or.inr (Or.inr (Or.inl ⟨p,rfl,h⟩)))
 | rE x p hx h=>exact Or.inr (Or.inr (Or.inr (Or.inr ⟨x,p,rfl,hx,h⟩)))
 | _=>omega
def Ends (lo hi:Int) (r:List Tk):Prop:=(¬first (tx r)=qI)/\¬(lo<=yI (first (tx r))/\yI (first (tx r))<=hi)
def rU (pf:List Tk->JX) (k n:Nat) (lo hi:Int):Prop:=∀p r,jf (p++r)->Is k (tx p)->p.length<=n->Ends lo hi r->∃e,pf (p++r)=some (e,r)
theorem X3 {p:List Tk} {b:List ByteArray} (h:tx p=a++b):∃p1 p2,p=p1++p2/\tx p1=a/\tx p2=b:=by
 obtain⟨p1,p2,i,f,d⟩:=List.map_eq_append_iff.mp h;exact⟨p1,p2,i,f,d⟩
theorem jj {p:List Tk} {b:List ByteArray} (h:tx p=x::b):∃t p2,p=t::p2/\t.text=x/\tx p2=b:=by
 obtain⟨t,p2,i,f,d⟩:=List.map_eq_cons_iff.mp h;exact⟨t,p2,i,f,d⟩
theorem cC {p:List Tk} (h:tx p=[]):p=[]:=by simpa[tx] using h
theorem sZ:yI (first [])=0:=by
 simp[first,ve,yI]
theorem Ai {pf:List Tk->JX} (L:Level sg lo hi k K) (h:rU pf k n l1 h1) (z:∀o,kp sg o=true->¬(l1<=yI o/\yI o<=h1)):∀(g:Nat) (p r:List Tk),jf (p++r)->eD sg k (tx p)->p.length<=n->p.length < g->Ends lo hi r->Ends l1 h1 r->∃e,pLoop pf lo hi g (p++r)=some (e,r):=by
 intro g
 induction g with
 | zero=>intro p r _ _ _ M;omega
 | succ g ih=>
  intro p r y ht O M J i;generalize f:tx p=l at ht;cases ht with
  | nil=>
   have:=cC f;subst this;cases r with
   | nil=>exact⟨_,rfl⟩
   | cons t r=>
    refine⟨[],?_⟩;show pLoop pf lo hi (g+1) (t::r)=_;rw[pLoop,zA (show ¬(lo<=yI t.text/\yI t.text<=hi)from J.2)]
  | cons o q rest ho hq hrest=>
   obtain⟨t,T,rfl,G,F⟩:=jj f;obtain⟨H,pr,rfl,R,N⟩:=X3 F;simp only[yE,ze]at O M;have x:Ends l1 h1 (pr++r):=by
    cases pr with
    | nil=>simpa using i
    | cons u pr=>
     have I:kp sg u.text=true:=by
      rw[<-N]at hrest;generalize j:tx (u::pr)=l2 at hrest;cases hrest with
      | nil=>simp[tx]at j
      | cons o' q' r' ho' _ _=>rw[xq]at j;injection j with j;rw[j];exact ho'
     exact⟨L.nob _ I,z _ I⟩
   have d:jf (H++(pr++r)):=by
    have:=y;simp only[yF,yK]at this;exact this.tail
   obtain⟨V,D⟩:=h H (pr++r) d (by rw[R];exact hq) (by omega) x;obtain⟨U,A⟩:=ih pr r d.right (by rw[N];exact hrest) (by omega) (by omega) J i;apply Exists.intro;simp only[yF,yK];rw[pLoop,zE ((L.code _).mpr (by rw[G];exact ho)),D];simp only;rw[A]
theorem gz {pf:List Tk->JX} (L:Level sg lo hi k K) (h:rU pf k n l1 h1) (i:∀o,kp sg o=true->¬(l1<=yI o/\yI o<=h1)) (y:∀p,Is K p->∃a t,p=a++t/\Is k a/\eD sg k t) (U:n<=24) {p r:List Tk} (d:jf (p++r)) (I:Is K (tx p)) (J:p.length<=n) (H:Ends lo hi r) (f:Ends l1 h1 r):∃e,Xa pf lo hi (p++r)=some (e,r):=by
 obtain⟨a,t,M,N,ht⟩:=y _ I;obtain⟨G,pt,rfl,O,F⟩:=X3 M;simp only[ze]at J;rw[yK]at d ⊢;have x:Ends l1 h1 (pt++r):=by
  cases pt with
  | nil=>simpa using f
  | cons u pt=>
   have D:kp sg u.text=true:=by
    rw[<-F]at ht;generalize j:tx (u::pt)=l2 at ht;cases ht with
    | nil=>simp[tx]at j
    | cons o' q' r' ho' _ _=>rw[xq]at j;injection j with j;rw[j];exact ho'
   exact⟨L.nob _ D,i _ D⟩
 obtain⟨T,A⟩:=h G (pt++r) d (by rw[O];exact N) (by omega) x;obtain⟨R,z⟩:=Ai L h i 25 pt r d.right (by rw[F];exact ht) (by omega) (by omega) H f;refine⟨T++R,?_⟩;unfold Xa;rw[A];simp only;rw[z];rfl
theorem Ends.sub {lo' hi':Int} {r:List Tk} (h:Ends lo hi r) (f:lo<=lo') (d:hi'<=hi):Ends lo' hi' r:=⟨h.1,fun ⟨a,b⟩=>h.2 ⟨by omega,by omega⟩⟩
theorem mL {pf:List Tk->JX} (y:n<=24) (h:rU pf 3 n 100 0):rU (pComp pf) 0 n 5 11:=by
 have A:rU (VQ pf) 2 n 7 9:=fun p r hok hp hl hr=>gz mK h (fun o _=>by omega) (fun p hp=>wN hp rfl) y hok hp hl hr ⟨hr.1,by omega⟩;have d:∀o,kp kL o=true->¬(7<=yI o/\yI o<=9):=fun o ho hc=>by
  have I:=(iE o).mpr ho;omega
 have f:rU (VI pf) 1 n 5 9:=fun p r hok hp hl hr=>gz mS A d (fun p hp=>Br hp rfl) y hok hp hl (hr.sub (by omega) (by omega)) (hr.sub (by omega) (by omega));intro p r hok hp hl hr;rcases tZ hp rfl with hp | ⟨a,o,b,he,ha,ho,hb⟩
 ·obtain⟨e,he⟩:=f p r hok hp hl (hr.sub (by omega) (by omega));refine⟨e,?_⟩;unfold pComp;rw[he];cases r with
  | nil=>rfl
  | cons t r=>
   simp only;rw[zA];intro hc;exact hr.2 ⟨by show 5<=yI t.text;omega,by show yI t.text<=11;omega⟩
 ·obtain⟨z,H,rfl,G,F⟩:=X3 he;obtain⟨t,x,rfl,k,D⟩:=jj F;simp only[ze,yE]at hl;rw[yK]at hok ⊢;rw[yF]at hok ⊢;have hc:=(gn o).mpr ho;obtain⟨L,j⟩:=f z (t::(x++r)) hok (by rw[G];exact ha) (by omega) ⟨by show ¬t.text=qI;rw[k];exact uz ho,by
   show ¬(5<=yI t.text/\yI t.text<=9);rw[k];omega⟩
  obtain⟨J,i⟩:=f x r hok.right.tail (by rw[D];exact hb) (by omega) (hr.sub (by omega) (by omega));apply Exists.intro;unfold pComp;rw[j];simp only;rw[k,zE hc,i]
theorem Jm (h:yg x=true\/xi x=true) (b:UInt8) (f:qt (b.toNat:Int)=false) (d:jo (b.toNat:Int)=false):¬x=⟨#[b]⟩:=by
 have:=mY h b f d;rw[ZF,kH]at this;exact this
theorem closing (b:UInt8) (h:b=41\/b=93):(¬(⟨#[b]⟩:ByteArray)=qI)/\¬(5<=yI ⟨#[b]⟩/\yI ⟨#[b]⟩<=11):=by
 rcases h with rfl | rfl <;> simp[qI,yI]
theorem dt:∀n,n<=24->rU (yV n) 3 n 100 0
 | 0,_=>by
  intro p r _ hp y;have:=(kh hp).ne;rw[KE]at this;omega
 | n+1,hn=>by
  intro p r d hp y J;have I:=dt n (by omega);have o:=mL (by omega) I;rcases nV hp rfl with⟨x,he,hx⟩| ⟨x,he,hx⟩| ⟨q,he,hq⟩| ⟨q,he,hq⟩| ⟨x,q,he,hx,hq⟩
  ·obtain⟨t,k,rfl,f,i⟩:=jj he;have:=cC i;subst this;apply Exists.intro;simp only[yF,xN];rw[yV,zA (by rw[f];exact Jm (Or.inr hx) 45 (by decide) (by decide)),zA (by rw[f];exact Jm (Or.inr hx) 40 (by decide) (by decide)),zE (d.head.num.mpr (by rw[f];exact hx))]
  ·obtain⟨t,k,rfl,f,i⟩:=jj he;have:=cC i;subst this;have A:=d.head.br.mpr (by rw[f];exact hx);simp only[yF,xN];rw[yV,zA (by rw[f];exact Jm (Or.inl hx) 45 (by decide) (by decide)),zA (by rw[f];exact Jm (Or.inl hx) 40 (by decide) (by decide)),zA (by omega),zE A];cases r with
   | nil=>exact⟨_,rfl⟩
   | cons u r=>
    apply Exists.intro;rw[pVar,zA (show ¬u.text=⟨#[91]⟩from J.1)]
  ·obtain⟨t,k,rfl,f,i⟩:=jj he;simp only[yE]at y;obtain⟨e,h⟩:=I k r d.tail (by rw[i];exact hq) (by omega) J;apply Exists.intro;rw[yF,yV,zE (show t.text=⟨#[45]⟩from f),h]
  ·obtain⟨t,k,rfl,f,i⟩:=jj he;obtain⟨z,L,rfl,G,F⟩:=X3 i;obtain⟨c,M,rfl,j,D⟩:=jj F;have:=cC D;subst this;simp only[yE,ze,qQ]at y;simp only[yF,yK,xN]at d ⊢;obtain⟨e,h⟩:=o z (c::r) d.tail (by rw[G];exact hq) (by omega) (by
    have:=closing 41 (Or.inl rfl);refine⟨by show ¬c.text=qI;rw[j];exact this.1,by show ¬(5<=yI c.text/\yI c.text<=11);rw[j];exact this.2⟩)
   apply Exists.intro;rw[yV,zA (by rw[f];show ¬(⟨#[40]⟩:ByteArray)=⟨#[45]⟩;simp),zE (show t.text=⟨#[40]⟩from f),h,closed,zE (show c.text=⟨#[41]⟩from j)]
  ·obtain⟨t,k,rfl,f,i⟩:=jj he;obtain⟨u,k,rfl,H,i⟩:=jj i;obtain⟨z,L,rfl,G,F⟩:=X3 i;obtain⟨c,M,rfl,j,D⟩:=jj F;have:=cC D;subst this;simp only[yE,ze,qQ]at y;simp only[yF,yK,xN]at d ⊢;have A:=d.head.br.mpr (by rw[f];exact hx);obtain⟨e,h⟩:=o z (c::r) d.tail.tail (by rw[G];exact hq) (by omega) (by
    have:=closing 93 (Or.inr rfl);refine⟨by show ¬c.text=qI;rw[j];exact this.1,by show ¬(5<=yI c.text/\yI c.text<=11);rw[j];exact this.2⟩)
   apply Exists.intro;rw[yV,zA (by rw[f];exact Jm (Or.inl hx) 45 (by decide) (by decide)),zA (by rw[f];exact Jm (Or.inl hx) 40 (by decide) (by decide)),zA (by omega),zE A,pVar,zE (show u.text=⟨#[91]⟩from H),h,closed,zE (show c.text=⟨#[93]⟩from j)]
theorem JN:rU Z1 0 24 5 11:=mL (zB _) (dt 24 (zB _))
open Rt
def kS:ByteArray:=⟨#[44]⟩
def Ym:ByteArray:=⟨#[116,111]⟩
theorem Vs (h:yg x=true\/xi x=true):¬x=kS/\¬x=Ym:=by
 refine⟨Jm h 44 (by decide) (by decide),?_⟩;rintro rfl;rcases h with h | h
 ·simp[yg,Ym,kp,KM]at h
 ·have e:qC Ym 0=116:=by rw[jB (by show 0 < 2;decide)];rfl
  simp[xi,e,jo]at h
theorem KY (b:UInt8) (h:¬b=44):¬(⟨#[b]⟩:ByteArray)=kS/\¬(⟨#[b]⟩:ByteArray)=Ym:=by
 refine⟨?_,?_⟩
 ·intro e;simp[kS]at e;exact h e
 ·intro e;simp[Ym]at e
theorem C7 (h:kp vJ o=true\/kp kL o=true\/kp kF o=true):¬o=kS/\¬o=Ym:=by
 rcases h with h | h | h
 ·rcases JO h with rfl | rfl | rfl <;> exact KY _ (by decide)
 ·rcases JT h with rfl | rfl <;> exact KY _ (by decide)
 ·rcases VD h with rfl | rfl <;> exact KY _ (by decide)
theorem K7 (h:Is k p):∀x∈p,¬x=kS/\¬x=Ym:=by
 induction h with
 | num x h=>intro y hy;simp at hy;subst hy;exact Vs (Or.inr h)
 | br x h=>intro y hy;simp at hy;subst hy;exact Vs (Or.inl h)
 | neg p _ ih=>
  intro y hy;rcases zw.mp hy with rfl | hy
  ·exact KY 45 (by decide)
  ·exact ih y hy
 | par p _ ih=>
  intro y hy;simp only[zw,zd,qb,Z2]at hy;rcases hy with rfl | hy | rfl
  ·exact KY 40 (by decide)
  ·exact ih y hy
  ·exact KY 41 (by decide)
 | rE x p hx _ ih=>
  intro y hy;simp only[zw,zd,qb,Z2]at hy;rcases hy with rfl | rfl | hy | rfl
  ·exact Vs (Or.inl hx)
  ·exact KY 91 (by decide)
  ·exact ih y hy
  ·exact KY 93 (by decide)
 | t1 p _ ih=>exact ih
 | t2 p o q _ ho _ ih1 ih2=>
  intro y hy;simp only[zw,zd]at hy;rcases hy with hy | rfl | hy
  ·exact ih1 y hy
  ·exact C7 (Or.inl ho)
  ·exact ih2 y hy
 | s1 p _ ih=>exact ih
 | s2 p o q _ ho _ ih1 ih2=>
  intro y hy;simp only[zw,zd]at hy;rcases hy with hy | rfl | hy
  ·exact ih1 y hy
  ·exact C7 (Or.inr (Or.inl ho))
  ·exact ih2 y hy
 | e1 p _ ih=>exact ih
 | e2 p o q _ ho _ ih1 ih2=>
  intro y hy;simp only[zw,zd]at hy;rcases hy with hy | rfl | hy
  ·exact ih1 y hy
  ·exact C7 (Or.inr (Or.inr ho))
  ·exact ih2 y hy
def joinC:List (List ByteArray)->List ByteArray
 | []=>[]
 | [a]=>a
 | a::b::r=>a++kS::joinC (b::r)
theorem gK:∀(ps:List (List ByteArray)) (l:List ByteArray),joinC (ps++[l])=ps.flatMap (fun p=>p++[kS])++l
 | [],l=>by simp[joinC]
 | [a],l=>by simp[joinC]
 | a::b::r,l=>by
  have d:=gK (b::r) l;show joinC (a::b::(r++[l]))=_;rw[joinC];rw[yF]at d;rw[d];simp
theorem gm:((x.toList==[44])=true)↔x=kS:=by
 rw[ZF];simp[kS]
theorem aS (t:List ByteArray):∀i,i<=t.length->t.take i=(yd t i).1.flatMap (fun p=>p++[kS])++(t.take i).drop (yd t i).2
 | 0,_=>by simp[yd]
 | i+1,h=>by
  have d:=aS t i (by omega);have o:=K1 t i;have f:t.take (i+1)=t.take i++[ve t i]:=by
   rw[qq (by omega),List.take_succ_eq_append_getElem (by omega)]
  rw[yd];split
  ·rename_i hc;have j:=gm.mp hc.1;simp only;have k:(t.take (i+1)).drop (i+1)=[]:=zp (by rw[jw];omega);rw[List.flatMap_append,k];simp only[Q0,List.flatMap_nil,yX];rw[f,j]
   conv=>lhs;rw[d]
   simp
  ·rw[f,List.drop_append_of_le_length (by rw[jw];omega),<-yK,<-d]
theorem sM (t:List ByteArray):joinC (parts t)=t:=by
 rw[parts];split
 ·rename_i h;rw[yu h];rfl
 ·rw[gK];have:=aS t t.length (zB _);rw[Zp]at this;exact this.symm
theorem Jc {a b:List ByteArray} (d:∀x∈a,¬x=kS):∀i,i<=a.length->yd (a++b) i=([],0)
 | 0,_=>rfl
 | i+1,h=>by
  rw[yd,zA,Jc d i (by omega)];rintro ⟨f,_⟩;rw[JS (by omega),qq (by omega)]at f;exact d _ (zj _) (gm.mp f)
theorem BG:J9 kS=0:=by rw[kS,Kl];decide
theorem aR {a c:List ByteArray} (f:∀x∈a,¬x=kS) (d:eH a):∀j,j<=c.length->yd (a++kS::c) (a.length+1+j)=(a::(yd c j).1,a.length+1+(yd c j).2)
 | 0,_=>by
  rw[qO,yd.eq_def];simp only;rw[zE,Jc f _ (zB _)]
  ·simp[yd]
  ·refine⟨gm.mpr ?_,?_⟩
   ·rw[V7];rfl
   ·rw[YO a _ _ (zB _)];exact d.zero
 | j+1,h=>by
  have i:=aR (c:=c) f d j (by omega);have o:ve (a++kS::c) (a.length+1+j)=ve c j:=by
   rw[show a.length+1+j=a.length+(j+1) by omega,Za,vK]
  have k:depth (a++kS::c) (a.length+1+j)=depth c j:=by
   rw[show a.length+1+j=a.length+(j+1) by omega,vi,jq,d.zero,BG];omega
  rw[show a.length+1+(j+1)=(a.length+1+j)+1 by omega,yd,o,k,i];by_cases hc:((ve c j).toList==[44])=true/\depth c j=0
  ·rw[zE hc,yd,zE hc];simp only[yF,yZ,vE,jH];refine⟨?_,by omega⟩;congr 1;congr 1;rw[show a.length+1+j=a.length+(j+1) by omega,List.take_append,yw (by omega),show a.length+(j+1)-a.length=j+1 by omega,qz,show a.length+1+(yd c j).2=a.length+((yd c j).2+1) by omega,Zr];rw[zp (by omega),show a.length+((yd c j).2+1)-a.length=(yd c j).2+1 by omega];rfl
  ·rw[zA hc,yd,zA hc]
theorem sN (h:∀x∈a,¬x=kS) (f:eH a) (i:0 < c.length):parts (a++kS::c)=a::parts c:=by
 have d:(a++kS::c).length=a.length+1+c.length:=by simp;omega
 rw[parts,parts,zA (by omega),zA (by omega),d,aR h f _ (zB _)];simp only[yF,vE,jH];congr 2;rw[show a.length+1+(yd c c.length).2=a.length+((yd c c.length).2+1) by omega,Zr,zp (by omega),show a.length+((yd c c.length).2+1)-a.length=(yd c c.length).2+1 by omega];rfl
theorem AM (d:∀x∈a,¬x=kS) (f:0 < a.length):parts a=[a]:=by
 have:=Jc (b:=[]) d _ (zB _);rw[yX]at this;rw[parts,zA (by omega),this];rfl
theorem At:∀(args:List (List ByteArray)),(∀a∈args,Is 0 a)->0 < args.length->0 < (joinC args).length
 | [],_,h=>by simp at h
 | [a],h,_=>(kh (h a (by simp))).ne
 | a::b::r,_,_=>by rw[joinC];simp;omega
theorem aP:∀(args:List (List ByteArray)),(∀a∈args,Is 0 a)->parts (joinC args)=args
 | [],_=>rfl
 | [a],h=>by
  have d:=h a (by simp);exact AM (fun x hx=>(K7 d x hx).1) (kh d).ne
 | a::b::r,h=>by
  have d:=h a (by simp);have f:∀x∈b::r,Is 0 x:=fun x hx=>h x (by simp at hx ⊢;exact Or.inr hx);rw[joinC,sN (fun x hx=>(K7 d x hx).1) (kh d) (At _ f (by simp)),aP (b::r) f]
theorem Bq:((x.toList==[116,111])=true)↔x=Ym:=by
 rw[ZF];simp[Ym]
theorem Va {b:List ByteArray}:∀(a:List ByteArray) (i:Nat),(∀x∈a,¬x=Ym)->behindFrom (a++Ym::b) i=i+a.length
 | [],i,_=>by rw[xN,behindFrom,zE (Bq.mpr rfl)];simp
 | x::a,i,h=>by
  rw[yF,behindFrom,zA (fun e=>h x (by simp) (Bq.mp e)),Va a (i+1) (fun y hy=>h y (by simp[hy]))];simp;omega
theorem VE {b:List ByteArray} (h:∀x∈a,¬x=Ym):behind (a++Ym::b)=a.length:=by
 unfold behind;rw[Va a 0 h];omega
theorem VZ:∀(t:List ByteArray) (i:Nat),0 < behindFrom t i->i<=behindFrom t i/\behindFrom t i < i+t.length/\ve t (behindFrom t i-i)=Ym
 | [],i,h=>by simp[behindFrom]at h
 | x::r,i,h=>by
  rw[behindFrom]at h ⊢;split at h
  ·rename_i hx;rw[zE hx];refine⟨zB _,by simp,?_⟩;rw[jC,VF];exact Bq.mp hx
  ·rename_i hx;rw[zA hx];obtain⟨j,f,d⟩:=VZ r (i+1) h;refine⟨by omega,by simp;omega,?_⟩;rw[show behindFrom r (i+1)-i=(behindFrom r (i+1)-(i+1))+1 by omega,vK];exact d
theorem BQ {t:List ByteArray} (h:0 < behind t):behind t < t.length/\ve t (behind t)=Ym:=by
 obtain⟨_,f,d⟩:=VZ t 0 h;exact⟨by unfold behind;omega,d⟩
end Rf
end Go.Proofs.YthleadfkfnnadaaGreat
