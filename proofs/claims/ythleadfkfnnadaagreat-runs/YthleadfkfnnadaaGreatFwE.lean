/- Going on from a line stays in its procedure: plain. -/
import Derived.Test.YthleadfkfnnadaaGreatFwA
set_option maxHeartbeats 4000000
set_option maxRecDepth 100000
namespace Go.Proofs.YthleadfkfnnadaaGreat
namespace Rt
def kd (ps:List PL) (n:Nat):Int:=((ps[n]?).getD zPL).form.kind
theorem zJD {ps:List PL} {n:Nat} {p:PL} (h:ps[n]?=some p):kd ps n=p.form.kind:=by rw[kd,h];rfl
def stk (ps:List PL):Nat→List Blk
 | 0=>[]
 | n+1=>zAS (stk ps n) (n+1) (kd ps n)
structure Nst (ps ls:List PL):Prop where
 len:ls.length=ps.length+1
 zero:ls[0]?=some zPL
 adm:∀n,n < ps.length→adm (stk ps n) (kd ps n)=true
 zo:∀n p,ps[n]?=some p→ls[n+1]?=some (zo (stk ps n) p)
 shut:stk ps ps.length=[]
theorem zNC (ps:List PL):∀(f k:Nat) (acc ls:List PL),k+f=ps.length→acc.length=k+1→nestFrom (ps.drop k) (k+1) (stk ps k) acc=(0,ls,[])→
  (∀j,j < acc.length→ls[j]?=acc[j]?)∧ls.length=ps.length+1∧stk ps ps.length=[]∧∀n p,k≤n→ps[n]?=some p→adm (stk ps n) p.form.kind=true∧ls[n+1]?=some (zo (stk ps n) p)
 | 0,k,acc,ls,hk,ha,h=>by
  rw[List.drop_eq_nil_of_le (by omega),nestFrom]at h
  injection h with _ h
  injection h with h1 h2
  subst h1
  have:k=ps.length:=by omega
  subst this
  refine⟨fun _ _=>rfl,by omega,h2,fun n p hn hp=>?_⟩
  rw[List.getElem?_eq_none (by omega)]at hp
  cases hp
 | f+1,k,acc,ls,hk,ha,h=>by
  have hkl:k < ps.length:=by omega
  rw[List.drop_eq_getElem_cons hkl,nestFrom]at h
  split at h
  ·next had=>
   have hkd:kd ps k=ps[k].form.kind:=zJD (List.getElem?_eq_getElem hkl)
   obtain⟨i1,i2,i3,i4⟩:=zNC ps f (k+1) (acc++[zo (stk ps k) ps[k]]) ls (by omega) (by simp[ha]) (by rw[stk,hkd];exact h)
   refine⟨fun j hj=>?_,i2,i3,fun n p hn hp=>?_⟩
   ·rw[i1 j (by simp;omega),List.getElem?_append_left hj]
   ·by_cases e:n=k
    ·subst e
     rw[List.getElem?_eq_getElem hkl]at hp
     injection hp with hp
     subst hp
     refine⟨had,?_⟩
     rw[i1 (n+1) (by simp;omega),List.getElem?_append_right (by omega),ha]
     simp
    ·exact i4 n p (by omega) hp
  ·injection h with h _;omega
theorem nst_of {ps ls:List PL} (h:nestFrom ps 1 [] [zPL]=(0,ls,[])):Nst ps ls:=by
 obtain⟨i1,i2,i3,i4⟩:=zNC ps ps.length 0 [zPL] ls (by omega) rfl h
 refine⟨i2,i1 0 (by simp),fun n hn=>?_,fun n p hp=>(i4 n p (Nat.zero_le _) hp).2,i3⟩
 have:=(i4 n ps[n] (Nat.zero_le _) (List.getElem?_eq_getElem hn)).1
 rw[zJD (List.getElem?_eq_getElem hn)]
 exact this
def stp (ps:List PL):Nat→List (Nat×Int)
 | 0=>[]
 | n+1=>if kd ps n=3∨kd ps n=5∨kd ps n=7 then stp ps n++[(n+1,kd ps n)]else if kd ps n=4 then (stp ps n).dropLast else stp ps n
theorem zMO {bs:List Blk} (h:bs≠[]):zAq bs=bs.getLast h:=by
 unfold zAq
 rw[List.getLastD_eq_getLast?,List.getLast?_eq_some_getLast h]
 rfl
theorem zHB (ps:List PL):∀n,(stk ps n).map (fun b=>(b.line,b.kind))=stp ps n
 | 0=>rfl
 | n+1=>by
  have ih:=zHB ps n
  rw[stk,stp,←ih]
  unfold zAS
  by_cases h3:kd ps n=3∨kd ps n=5∨kd ps n=7
  ·rw[if_pos h3,if_pos h3,List.map_append]
   rfl
  ·rw[if_neg h3,if_neg h3]
   by_cases h6:kd ps n=6
   ·rw[if_pos h6,if_neg (show ¬kd ps n=4 by omega)]
    by_cases hb:stk ps n=[]
    ·rw[if_pos hb,hb]
    ·rw[if_neg hb,List.map_append,zMO hb]
     conv=>rhs;rw[←List.dropLast_concat_getLast hb]
     rw[List.map_append]
     rfl
   ·rw[if_neg h6]
    by_cases h4:kd ps n=4
    ·rw[if_pos h4,if_pos h4,List.map_dropLast]
    ·rw[if_neg h4,if_neg h4]
def inn (L:List (Nat×Int)):Nat×Int:=L.getLastD (0,0)
def zC3 (L:List (Nat×Int)):Nat×Int:=L.headD (0,0)
theorem zJb (ps:List PL) (n:Nat):((zAq (stk ps n)).line,(zAq (stk ps n)).kind)=inn (stp ps n):=by
 rw[←zHB]
 by_cases hb:stk ps n=[]
 ·rw[hb];rfl
 ·rw[zMO hb,inn,List.getLastD_eq_getLast?,List.getLast?_map,List.getLast?_eq_some_getLast hb]
  rfl
theorem zPq (ps:List PL) (n:Nat):(zBg (stk ps n)).line=(zC3 (stp ps n)).1:=by
 rw[←zHB]
 cases stk ps n with
 | nil=>rfl
 | cons b r=>rfl
theorem zDC (ps:List PL) (n:Nat):stk ps n=[]↔stp ps n=[]:=by
 rw[←zHB];simp
structure StpOK (ps:List PL) (n:Nat):Prop where
 inc:((stp ps n).map (·.1)).Pairwise (· < ·)
 each:∀b∈stp ps n,1≤b.1∧b.1≤n∧kd ps (b.1-1)=b.2
 head:∀b r,stp ps n=b::r→b.2=3∧∀c∈r,c.2=5∨c.2=7
theorem zEP {L:List (Nat×Int)} (h:L≠[]):inn L∈L:=by
 unfold inn
 rw[List.getLastD_eq_getLast?,List.getLast?_eq_some_getLast h]
 exact List.getLast_mem h
theorem zKR {L:List (Nat×Int)}:∀b∈L.dropLast,b∈L:=fun _ hb=>List.dropLast_subset _ hb
theorem zB9 {ps ls:List PL} (h:Nst ps ls) {n:Nat} (hn:n < ps.length) (hk:¬(kd ps n=0∨kd ps n=1∨kd ps n=2∨kd ps n=3)):stp ps n≠[]:=by
 have:=h.adm n hn
 unfold Rt.adm at this
 intro e
 rw[if_neg (by omega),if_neg (by omega),if_pos ((zDC ps n).mpr e)]at this
 cases this
theorem zJM {ps ls:List PL} (h:Nst ps ls) {n:Nat} (hn:n < ps.length) (hk:kd ps n=1∨kd ps n=2∨kd ps n=3):stp ps n=[]:=by
 have:=h.adm n hn
 unfold Rt.adm at this
 rw[if_neg (by omega),if_pos hk]at this
 exact(zDC ps n).mp (of_decide_eq_true this)
theorem zMj {ps ls:List PL} (h:Nst ps ls) {n:Nat} (hn:n < ps.length) (hk:kd ps n=6):(inn (stp ps n)).2=5∧(zAq (stk ps n)).els=false:=by
 have:=h.adm n hn
 unfold Rt.adm at this
 have hne:=zB9 h hn (by omega)
 rw[if_neg (by omega),if_neg (by omega),if_neg (fun e=>hne ((zDC ps n).mp e)),if_pos hk]at this
 simp only[Bool.and_eq_true,decide_eq_true_eq,Bool.not_eq_true']at this
 rw[←zJb]
 exact this
theorem zQJ {L:List (Nat×Int)} (h:(L.map (·.1)).Pairwise (· < ·)):(L.dropLast.map (·.1)).Pairwise (· < ·):=by
 rw[List.map_dropLast]
 exact h.sublist (List.dropLast_sublist _)
theorem zFS {ps ls:List PL} (h:Nst ps ls):∀n,n≤ps.length→StpOK ps n
 | 0,_=>⟨by simp[stp],by simp[stp],fun b r e=>by simp[stp]at e⟩
 | n+1,hn=>by
  have ih:=zFS h n (by omega)
  by_cases h3:kd ps n=3∨kd ps n=5∨kd ps n=7
  ·have e:stp ps (n+1)=stp ps n++[(n+1,kd ps n)]:=by rw[stp,if_pos h3]
   refine⟨?_,fun b hb=>?_,fun b r hb=>?_⟩
   ·rw[e,List.map_append,List.pairwise_append]
    refine⟨ih.inc,List.pairwise_singleton _ _,fun x hx y hy=>?_⟩
    obtain⟨b,hb,rfl⟩:=List.mem_map.mp hx
    have:=(ih.each b hb).2.1
    simp at hy
    omega
   ·rw[e]at hb
    rcases List.mem_append.mp hb with hb | hb
    ·have:=ih.each b hb
     exact⟨this.1,by omega,this.2.2⟩
    ·rw[List.mem_singleton.mp hb]
     exact⟨by simp,by simp,by simp⟩
   ·rw[e]at hb
    cases hs:stp ps n with
    | nil=>
     rw[hs]at hb
     have hk:kd ps n=3:=by
      rcases h3 with h3 | h3
      ·exact h3
      ·exact absurd hs (zB9 h (by omega) (by omega))
     simp at hb
     rw[←hb.1,hb.2]
     exact⟨hk,by simp⟩
    | cons c q=>
     rw[hs]at hb
     simp at hb
     obtain⟨rfl,rfl⟩:=hb
     have:=ih.head c q hs
     refine⟨this.1,fun x hx=>?_⟩
     rcases List.mem_append.mp hx with hx | hx
     ·exact this.2 x hx
     ·rw[List.mem_singleton.mp hx]
      rcases h3 with h3 | h3
      ·have:=zJM h (show n < ps.length by omega) (by omega)
       rw[hs]at this
       cases this
      ·exact h3
  ·by_cases h4:kd ps n=4
   ·have e:stp ps (n+1)=(stp ps n).dropLast:=by rw[stp,if_neg h3,if_pos h4]
    refine⟨by rw[e];exact zQJ ih.inc,fun b hb=>?_,fun b r hb=>?_⟩
    ·rw[e]at hb
     have:=ih.each b (zKR b hb)
     exact⟨this.1,by omega,this.2.2⟩
    ·rw[e]at hb
     cases hs:stp ps n with
     | nil=>rw[hs]at hb;simp at hb
     | cons c q=>
      rw[hs]at hb
      have:=ih.head c q hs
      cases q with
      | nil=>simp at hb
      | cons d q=>
       rw[List.dropLast_cons_of_ne_nil (by simp)]at hb
       injection hb with e1 e2
       subst e1
       rw[←e2]
       exact⟨this.1,fun x hx=>this.2 x (zKR x hx)⟩
   ·have e:stp ps (n+1)=stp ps n:=by rw[stp,if_neg h3,if_neg h4]
    exact⟨by rw[e];exact ih.inc,fun b hb=>by rw[e]at hb;have:=ih.each b hb;exact⟨this.1,by omega,this.2.2⟩,fun b r hb=>by rw[e]at hb;exact ih.head b r hb⟩
theorem zJa {ps:List PL} {o i:Nat} (ho:o≤i) (hi:∀b∈stp ps i,b.1≠o):∀j,∀b∈stp ps (i+j),b.1≠o
 | 0=>hi
 | j+1=>by
  have ih:=zJa ho hi j
  intro b hb
  rw[←Nat.add_assoc,stp]at hb
  split at hb
  ·rcases List.mem_append.mp hb with hb | hb
   ·exact ih b hb
   ·rw[List.mem_singleton.mp hb];simp only;omega
  ·split at hb
   ·exact ih b (zKR b hb)
   ·exact ih b hb
theorem zJr {ps:List PL} {n:Nat} (h:stp ps n≠[]) (h2:stp ps (n+1)≠[]):zC3 (stp ps (n+1))=zC3 (stp ps n):=by
 rw[stp]at h2 ⊢
 cases hs:stp ps n with
 | nil=>exact absurd hs h
 | cons c q=>
  rw[hs]at h2
  split
  ·rfl
  ·rename_i h3
   rw[if_neg h3]at h2
   split
   ·rename_i h4
    rw[if_pos h4]at h2
    cases q with
    | nil=>simp at h2
    | cons d q=>rfl
   ·rfl
theorem zMo {ps:List PL} {o:Nat}:∀(j i:Nat),o≤i→(∃b∈stp ps i,b.1=o)→(∃b∈stp ps (i+j),b.1=o)→zC3 (stp ps (i+j))=zC3 (stp ps i)
 | 0,i,_,_,_=>rfl
 | j+1,i,ho,hi,hj=>by
  have hm:∃b∈stp ps (i+1),b.1=o:=by
   by_cases hm:∃b∈stp ps (i+1),b.1=o
   ·exact hm
   ·obtain⟨b,hb,e⟩:=hj
    exact absurd e (zJa (ps:=ps) (i:=i+1) (by omega) (fun c hc hce=>hm ⟨c,hc,hce⟩) j b (by rw[show i+1+j=i+(j+1) by omega];exact hb))
  rw[show i+(j+1)=(i+1)+j by omega]at hj ⊢
  rw[zMo j (i+1) (by omega) hm hj]
  obtain⟨b,hb,_⟩:=hi
  obtain⟨c,hc,_⟩:=hm
  exact zJr (List.ne_nil_of_mem hb) (List.ne_nil_of_mem hc)
def lkn (ps:List PL):Nat→Lks
 | 0=>List.replicate (ps.length+1) (0,0)
 | n+1=>zCa (ps.length+1) (lkn ps n) (zo (stk ps n) ((ps[n]?).getD zPL)) (n+1)
theorem zPW (ps:List PL):∀n,(lkn ps n).length=ps.length+1
 | 0=>by simp[lkn]
 | n+1=>by rw[lkn,zE5,zPW ps n]
theorem zJx {ps ls:List PL} (h:Nst ps ls):∀f k,k+f=ps.length→nestLk (ps.length+1) (ps.drop k) (k+1) (stk ps k) (lkn ps k)=lkn ps ps.length
 | 0,k,hk=>by
  have:k=ps.length:=by omega
  subst this
  rw[List.drop_eq_nil_of_le (Nat.le_refl _),nestLk]
 | f+1,k,hk=>by
  have hkl:k < ps.length:=by omega
  have hkd:kd ps k=ps[k].form.kind:=zJD (List.getElem?_eq_getElem hkl)
  have had:=h.adm k hkl
  rw[hkd]at had
  have ih:=zJx h f (k+1) (by omega)
  rw[List.drop_eq_getElem_cons hkl,nestLk,if_pos had]
  rw[stk,lkn,hkd,List.getElem?_eq_getElem hkl]at ih
  exact ih
theorem zDm {ps ls:List PL} (h:Nst ps ls):zBv ps=lkn ps ps.length:=zJx h ps.length 0 (by omega)
theorem zJ5 (lk:Lks) (o:Nat) (x q:Int):(zAy (lk.modify o (fun y=>(y.1,x))) q).1=(zAy lk q).1:=by
 unfold zAy
 split
 ·rfl
 ·rw[List.getElem?_modify]
  cases lk[q.toNat]? with
  | none=>rfl
  | some y=>
   simp only[Option.map_eq_map,Option.map_some,Option.getD_some]
   split <;> rfl
theorem zNQ (lk:Lks) (o:Nat) (x:Int) (h:o < lk.length):(zAy (lk.modify o (fun y=>(x,y.2))) (o:Int)).1=x:=by
 unfold zAy
 rw[if_neg (by omega),List.getElem?_modify,Int.toNat_natCast,List.getElem?_eq_getElem h]
 simp
structure LkOK (ps:List PL) (n:Nat):Prop where
 els:∀m,m < n→kd ps m=6→(zAy (lkn ps n) ((inn (stp ps m)).1:Nat)).1=(m:Int)+1
 noe:∀o:Nat,(zAy (lkn ps n) o).1=0∨∃m:Nat,m < n∧kd ps m=6∧(inn (stp ps m)).1=o∧(zAy (lkn ps n) o).1=(m:Int)+1
 cls:∀o:Nat,1≤o→o≤n→(kd ps (o-1)=3∨kd ps (o-1)=5∨kd ps (o-1)=7)→(∃b∈stp ps n,b.1=o)∨∃e:Nat,e < n∧kd ps e=4∧(inn (stp ps e)).1=o∧(zAy (lkn ps n) o).2=(e:Int)+1
 blk:∀b∈stk ps n,b.els=false→(zAy (lkn ps n) (b.line:Nat)).1=0
theorem zGG {L:List (Nat×Int)} (h:L≠[]):L=L.dropLast++[inn L]:=by
 unfold inn
 rw[List.getLastD_eq_getLast?,List.getLast?_eq_some_getLast h]
 exact(List.dropLast_concat_getLast h).symm
theorem zID {ps ls:List PL} (h:Nst ps ls) {n:Nat} (hn:n < ps.length) (hk:kd ps n=6∨kd ps n=4):(zo (stk ps n) ((ps[n]?).getD zPL)).opener=((inn (stp ps n)).1:Nat)∧(zo (stk ps n) ((ps[n]?).getD zPL)).form.kind=kd ps n:=by
 have hne:stk ps n≠[]:=fun e=>zB9 h hn (by omega) ((zDC ps n).mp e)
 have hk':((ps[n]?).getD zPL).form.kind=6∨((ps[n]?).getD zPL).form.kind=4:=hk
 refine⟨?_,zFZ _ _⟩
 unfold zo
 rw[if_neg hne,if_pos hk',←zJb]
theorem stk_lt {ps ls:List PL} (h:Nst ps ls) {n:Nat} (hn:n≤ps.length) (hne:stk ps n≠[]):∀b∈(stk ps n).dropLast,b∈stk ps n∧b.line < (inn (stp ps n)).1:=by
 intro b hb
 have hp:=(zFS h n hn).inc
 have hne':stp ps n≠[]:=fun e=>hne ((zDC ps n).mpr e)
 rw[zGG hne',List.map_append,List.pairwise_append]at hp
 refine⟨List.dropLast_subset _ hb,?_⟩
 have hm:(b.line,b.kind)∈(stp ps n).dropLast:=by
  rw[←zHB,←List.map_dropLast]
  exact List.mem_map.mpr ⟨b,hb,rfl⟩
 exact hp.2.2 b.line (List.mem_map.mpr ⟨_,hm,rfl⟩) _ (by simp)
theorem lk_ok {ps ls:List PL} (h:Nst ps ls):∀n,n≤ps.length→LkOK ps n
 | 0,_=>⟨fun m hm=>by omega,fun o=>Or.inl (by
   unfold lkn zAy
   rw[if_neg (by omega),List.getElem?_replicate]
   split <;> rfl),fun o h1 h2=>by omega,fun b hb=>by simp[stk]at hb⟩
 | n+1,hn=>by
  have ih:=lk_ok h n (by omega)
  have hlen:=zPW ps n
  have hok:=zFS h n (by omega)
  have hnl:n < ps.length:=by omega
  by_cases h6:kd ps n=6
  ·have hne:=zB9 h hnl (show ¬(kd ps n=0∨kd ps n=1∨kd ps n=2∨kd ps n=3) by omega)
   have hne':stk ps n≠[]:=fun e=>hne ((zDC ps n).mp e)
   obtain⟨b1,b2,b3⟩:=hok.each _ (zEP hne)
   obtain⟨p1,p2⟩:=zID h hnl (Or.inl h6)
   have hst:stp ps (n+1)=stp ps n:=by rw[stp,if_neg (by omega),if_neg (by omega)]
   have hlk:lkn ps (n+1)=(lkn ps n).modify (inn (stp ps n)).1 (fun y=>((n:Int)+1,y.2)):=by
    rw[lkn,zCa,p1,if_pos (by omega),p2,if_pos h6]
    rfl
   have h0:(zAy (lkn ps n) ((inn (stp ps n)).1:Nat)).1=0:=by
    have hl:=zJb ps n
    have:=ih.blk (zAq (stk ps n)) (by rw[zMO hne'];exact List.getLast_mem hne') (zMj h hnl h6).2
    rw[←hl]
    exact this
   refine⟨fun m hm hk=>?_,fun o=>?_,fun o h1 h2 h3=>?_,fun b hb he=>?_⟩
   ·rw[hlk]
    by_cases e:m=n
    ·subst e;exact zNQ _ _ _ (by omega)
    ·have:=ih.els m (by omega) hk
     by_cases e2:(inn (stp ps m)).1=(inn (stp ps n)).1
     ·rw[e2,h0]at this;omega
     ·rw[zD5 _ _ _ _ (by omega) (by omega)];exact this
   ·rw[hlk]
    by_cases e:o=(inn (stp ps n)).1
    ·subst e
     exact Or.inr ⟨n,by omega,h6,rfl,zNQ _ _ _ (by omega)⟩
    ·rw[zD5 _ _ _ _ (by omega) (by omega)]
     rcases ih.noe o with h' | ⟨m,m1,m2,m3,m4⟩
     ·exact Or.inl h'
     ·exact Or.inr ⟨m,by omega,m2,m3,m4⟩
   ·rw[hlk,zNR,hst]
    by_cases e:o=n+1
    ·subst e
     rw[Nat.add_sub_cancel]at h3
     omega
    ·rcases ih.cls o h1 (by omega) h3 with h' | ⟨m,m1,m2,m3,m4⟩
     ·exact Or.inl h'
     ·exact Or.inr ⟨m,by omega,m2,m3,m4⟩
   ·rw[stk]at hb
    unfold zAS at hb
    rw[if_neg (by omega),if_pos h6,if_neg hne']at hb
    rcases List.mem_append.mp hb with hb | hb
    ·obtain⟨c1,c2⟩:=stk_lt h (by omega) hne' b hb
     rw[hlk,zD5 _ _ _ _ (by omega) (by omega)]
     exact ih.blk b c1 he
    ·rw[List.mem_singleton.mp hb]at he;cases he
  ·by_cases h4:kd ps n=4
   ·have hne:=zB9 h hnl (show ¬(kd ps n=0∨kd ps n=1∨kd ps n=2∨kd ps n=3) by omega)
    have hne':stk ps n≠[]:=fun e=>hne ((zDC ps n).mp e)
    obtain⟨b1,b2,b3⟩:=hok.each _ (zEP hne)
    obtain⟨p1,p2⟩:=zID h hnl (Or.inr h4)
    have hst:stp ps (n+1)=(stp ps n).dropLast:=by rw[stp,if_neg (by omega),if_pos h4]
    have hlk:lkn ps (n+1)=(lkn ps n).modify (inn (stp ps n)).1 (fun y=>(y.1,(n:Int)+1)):=by
     rw[lkn,zCa,p1,if_pos (by omega),p2,if_neg h6,if_pos h4]
     rfl
    refine⟨fun m hm hk=>?_,fun o=>?_,fun o h1 h2 h3=>?_,fun b hb he=>?_⟩
    ·rw[hlk,zJ5]
     have:m≠n:=fun e=>by subst e;omega
     exact ih.els m (by omega) hk
    ·rw[hlk,zJ5]
     rcases ih.noe o with h' | ⟨m,m1,m2,m3,m4⟩
     ·exact Or.inl h'
     ·exact Or.inr ⟨m,by omega,m2,m3,m4⟩
    ·rw[hlk,hst]
     by_cases e:o=(inn (stp ps n)).1
     ·subst e
      exact Or.inr ⟨n,by omega,h4,rfl,zJ6 _ _ _ (by omega)⟩
     ·rw[zD5 _ _ _ _ (by omega) (by omega)]
      have:o≠n+1:=fun e=>by subst e;rw[Nat.add_sub_cancel]at h3;omega
      rcases ih.cls o h1 (by omega) h3 with⟨b,hb,hbo⟩| ⟨m,m1,m2,m3,m4⟩
      ·refine Or.inl ⟨b,?_,hbo⟩
       rw[zGG hne]at hb
       rcases List.mem_append.mp hb with hb | hb
       ·exact hb
       ·rw[List.mem_singleton.mp hb]at hbo;exact absurd hbo.symm e
      ·exact Or.inr ⟨m,by omega,m2,m3,m4⟩
    ·rw[stk]at hb
     unfold zAS at hb
     rw[if_neg (by omega),if_neg h6,if_pos h4]at hb
     rw[hlk,zJ5]
     exact ih.blk b (List.dropLast_subset _ hb) he
   ·have hlk:lkn ps (n+1)=lkn ps n:=by
     rw[lkn,zCa,zFZ]
     have e:((ps[n]?).getD zPL).form.kind=kd ps n:=rfl
     rw[e,if_neg h6,if_neg h4]
     split <;> rfl
    by_cases h3:kd ps n=3∨kd ps n=5∨kd ps n=7
    ·have hst:stp ps (n+1)=stp ps n++[(n+1,kd ps n)]:=by rw[stp,if_pos h3]
     refine⟨fun m hm hk=>?_,fun o=>?_,fun o h1 h2 h3'=>?_,fun b hb he=>?_⟩
     ·rw[hlk]
      have:m≠n:=fun e=>by subst e;omega
      exact ih.els m (by omega) hk
     ·rw[hlk]
      rcases ih.noe o with h' | ⟨m,m1,m2,m3,m4⟩
      ·exact Or.inl h'
      ·exact Or.inr ⟨m,by omega,m2,m3,m4⟩
     ·rw[hlk,hst]
      by_cases e:o=n+1
      ·subst e
       exact Or.inl ⟨(n+1,kd ps n),by simp,rfl⟩
      ·rcases ih.cls o h1 (by omega) h3' with⟨b,hb,hbo⟩| ⟨m,m1,m2,m3,m4⟩
       ·exact Or.inl ⟨b,List.mem_append_left _ hb,hbo⟩
       ·exact Or.inr ⟨m,by omega,m2,m3,m4⟩
     ·rw[stk]at hb
      unfold zAS at hb
      rw[if_pos h3]at hb
      rw[hlk]
      rcases List.mem_append.mp hb with hb | hb
      ·exact ih.blk b hb he
      ·rw[List.mem_singleton.mp hb]
       rcases ih.noe (n+1)with h' | ⟨m,m1,m2,m3,m4⟩
       ·exact h'
       ·exfalso
        have hne:=zB9 h (show m < ps.length by omega) (show ¬(kd ps m=0∨kd ps m=1∨kd ps m=2∨kd ps m=3) by omega)
        have:=(zFS h m (by omega)).each _ (zEP hne)
        omega
    ·have hst:stp ps (n+1)=stp ps n:=by rw[stp,if_neg h3,if_neg h4]
     have hsk:stk ps (n+1)=stk ps n:=by rw[stk];unfold zAS;rw[if_neg h3,if_neg h6,if_neg h4]
     refine⟨fun m hm hk=>?_,fun o=>?_,fun o h1 h2 h3'=>?_,fun b hb he=>?_⟩
     ·rw[hlk]
      have:m≠n:=fun e=>by subst e;omega
      exact ih.els m (by omega) hk
     ·rw[hlk]
      rcases ih.noe o with h' | ⟨m,m1,m2,m3,m4⟩
      ·exact Or.inl h'
      ·exact Or.inr ⟨m,by omega,m2,m3,m4⟩
     ·rw[hlk,hst]
      by_cases e:o=n+1
      ·subst e
       rw[Nat.add_sub_cancel]at h3'
       exact absurd h3' h3
      ·rcases ih.cls o h1 (by omega) h3' with h' | ⟨m,m1,m2,m3,m4⟩
       ·exact Or.inl h'
       ·exact Or.inr ⟨m,by omega,m2,m3,m4⟩
     ·rw[hsk]at hb
      rw[hlk]
      exact ih.blk b hb he
end Rt
end Go.Proofs.YthleadfkfnnadaaGreat
namespace Go.Proofs.YthleadfkfnnadaaGreat
open Go.RowKit
namespace Rt
theorem zCG (n:Nat) (h:n≤1000):wrap64 (n:Int)=n:=IntWalk.wrap64_in _ (by omega)
theorem ln_at {ps pls:List PL} (h:Nst ps pls) {n:Nat} (hn:n < ps.length):zB7 pls ((n:Int)+1)=zo (stk ps n) ps[n]:=by
 have:=h.zo n ps[n] (List.getElem?_eq_getElem hn)
 rw[zB7,if_neg (by omega),show ((n:Int)+1).toNat=n+1 by omega,this]
 rfl
theorem zEN {ps:List PL} {n:Nat} (hn:n < ps.length):kd ps n=ps[n].form.kind:=zJD (List.getElem?_eq_getElem hn)
theorem zHU {ps pls:List PL} (h:Nst ps pls) {n:Nat} (hn:n < ps.length):(zB7 pls ((n:Int)+1)).form=ps[n].form:=by rw[ln_at h hn,(zDG _ _).2]
theorem zE4 {ps pls:List PL} (h:Nst ps pls) {n:Nat} (hn:n < ps.length):(zB7 pls ((n:Int)+1)).form.kind=kd ps n:=by rw[zHU h hn,zEN hn]
theorem zDd {ps pls:List PL} (h:Nst ps pls) {n:Nat} (hn:n < ps.length):zT pls ((n:Int)+1)=ps[n].form:=by
 have:=h.zo n ps[n] (List.getElem?_eq_getElem hn)
 rw[zT,if_neg (by omega),show ((n:Int)+1).toNat=n+1 by omega,this]
 exact(zDG _ _).2
theorem zML {ps pls:List PL} (h:Nst ps pls) {n:Nat} (hn:n < ps.length) (hne:stp ps n≠[]):(zB7 pls ((n:Int)+1)).proc=((zC3 (stp ps n)).1:Nat):=by
 have hne':stk ps n≠[]:=fun e=>hne ((zDC ps n).mp e)
 rw[ln_at h hn,←zPq]
 unfold zo
 rw[if_neg hne']
 split <;> rfl
theorem zDl {ps pls:List PL} (h:Nst ps pls) {n:Nat} (hn:n < ps.length) (hk:kd ps n=6∨kd ps n=4):(zB7 pls ((n:Int)+1)).opener=((inn (stp ps n)).1:Nat):=by
 have:=(zID h hn hk).1
 rw[List.getElem?_eq_getElem hn]at this
 rw[ln_at h hn]
 exact this
theorem zEX {ps pls:List PL} (h:Nst ps pls) {n:Nat} (hn:n < ps.length) (hne:stp ps n≠[]):1≤(inn (stp ps n)).1∧(inn (stp ps n)).1≤n∧kd ps ((inn (stp ps n)).1-1)=(inn (stp ps n)).2∧((inn (stp ps n)).2=3∨(inn (stp ps n)).2=5∨(inn (stp ps n)).2=7):=by
 have hok:=zFS h n (by omega)
 obtain⟨a,b,c⟩:=hok.each _ (zEP hne)
 refine⟨a,b,c,?_⟩
 cases hs:stp ps n with
 | nil=>exact absurd hs hne
 | cons d q=>
  obtain⟨h1,h2⟩:=hok.head d q hs
  have hm:=zEP hne
  rw[hs]at hm
  rcases List.mem_cons.mp hm with e | hm
  ·exact Or.inl (by rw[e];exact h1)
  ·exact Or.inr (h2 _ hm)
theorem zL7 {ps pls:List PL} (h:Nst ps pls) {e:Nat} (he:e < ps.length) (hk:kd ps e=4) (h3:(inn (stp ps e)).2≠3):stp ps (e+1)≠[]∧zC3 (stp ps (e+1))=zC3 (stp ps e):=by
 have hne:=zB9 h he (show ¬(kd ps e=0∨kd ps e=1∨kd ps e=2∨kd ps e=3) by omega)
 have hst:stp ps (e+1)=(stp ps e).dropLast:=by rw[stp,if_neg (by omega),if_pos hk]
 have hne2:stp ps (e+1)≠[]:=by
  rw[hst]
  intro e1
  have hs:=zGG hne
  rw[e1,List.nil_append]at hs
  exact h3 ((zFS h e (by omega)).head _ [] hs).1
 exact⟨hne2,zJr hne hne2⟩
theorem zLl {ps pls:List PL} (h:Nst ps pls) {o n e:Nat} (ho:∃b∈stp ps n,b.1=o) (he:e < ps.length) (hk:kd ps e=4) (hi:(inn (stp ps e)).1=o):n≤e:=by
 by_cases hlt:n≤e
 ·exact hlt
 ·exfalso
  have hne:=zB9 h he (show ¬(kd ps e=0∨kd ps e=1∨kd ps e=2∨kd ps e=3) by omega)
  have hst:stp ps (e+1)=(stp ps e).dropLast:=by rw[stp,if_neg (by omega),if_pos hk]
  have hp:=(zFS h e (by omega)).inc
  rw[zGG hne,List.map_append,List.pairwise_append]at hp
  have hb:=(zEX h he hne).2.1
  have hgone:=zJa (ps:=ps) (o:=o) (i:=e+1) (by omega) (fun b hb=>by
   rw[hst]at hb
   have:=hp.2.2 b.1 (List.mem_map.mpr ⟨b,hb,rfl⟩) (inn (stp ps e)).1 (by simp)
   omega) (n-(e+1))
  rw[show e+1+(n-(e+1))=n by omega]at hgone
  obtain⟨b,hb1,hb2⟩:=ho
  exact hgone b hb1 hb2
theorem zMe {ps pls:List PL} (h:Nst ps pls) {o:Nat} (ho:o < ps.length) (hk:kd ps o=3∨kd ps o=5∨kd ps o=7):∃e:Nat,o < e∧e < ps.length∧kd ps e=4∧(inn (stp ps e)).1=o+1∧(inn (stp ps e)).2=kd ps o∧(zAy (zBv ps) ((o:Int)+1)).2=(e:Int)+1:=by
 have hl:=lk_ok h ps.length (Nat.le_refl _)
 rw[zDm h]
 rcases hl.cls (o+1) (by omega) (by omega) (by rw[Nat.add_sub_cancel];exact hk)with⟨b,hb,_⟩| ⟨e,e1,e2,e3,e4⟩
 ·rw[show stp ps ps.length=[]from (zDC ps _).mp h.shut]at hb
  simp at hb
 ·have hne:=zB9 h e1 (show ¬(kd ps e=0∨kd ps e=1∨kd ps e=2∨kd ps e=3) by omega)
  obtain⟨i1,i2,i3,_⟩:=zEX h e1 hne
  rw[e3,Nat.add_sub_cancel]at i3
  exact⟨e,by omega,e1,e2,e3,i3.symm,by rw[←e4];rfl⟩
theorem opened {ps:List PL} {o:Nat} (hk:kd ps o=3∨kd ps o=5∨kd ps o=7):stp ps (o+1)=stp ps o++[(o+1,kd ps o)]:=by rw[stp,if_pos hk]
theorem out_app {L:List (Nat×Int)} {x:Nat×Int} (h:L≠[]):zC3 (L++[x])=zC3 L:=by
 cases L with
 | nil=>exact absurd rfl h
 | cons a r=>rfl
theorem zEr {ps pls:List PL} (h:Nst ps pls) {o e:Nat} (ho:o < ps.length) (hk:kd ps o=5∨kd ps o=7) (he:e < ps.length) (hi:(inn (stp ps e)).1=o+1) (hne:stp ps e≠[]):zC3 (stp ps e)=zC3 (stp ps o)∧stp ps o≠[]:=by
 have hop:=opened (ps:=ps) (o:=o) (Or.inr hk)
 have hne0:=zB9 h ho (show ¬(kd ps o=0∨kd ps o=1∨kd ps o=2∨kd ps o=3) by omega)
 obtain⟨i1,i2,i3,_⟩:=zEX h he hne
 have hs:=zMo (ps:=ps) (o:=o+1) (e-(o+1)) (o+1) (Nat.le_refl _) ⟨(o+1,kd ps o),by rw[hop];simp,rfl⟩ ⟨inn (stp ps e),by rw[show o+1+(e-(o+1))=e by omega];exact zEP hne,hi⟩
 rw[show o+1+(e-(o+1))=e by omega,hop,out_app hne0]at hs
 exact⟨hs,hne0⟩
theorem stop_not {ps pls:List PL} (h:Nst ps pls) {n:Nat} (hn:n < ps.length) (hs:zAK pls (zB7 pls ((n:Int)+1))=false):zAL (kd ps n)=false∧(kd ps n=4→(inn (stp ps n)).2≠3):=by
 unfold zAK at hs
 rw[zE4 h hn]at hs
 cases hsk:zAL (kd ps n)with
 | true=>rw[hsk,if_pos rfl]at hs;cases hs
 | false=>
  refine⟨rfl,fun h4 e=>?_⟩
  have hne:=zB9 h hn (show ¬(kd ps n=0∨kd ps n=1∨kd ps n=2∨kd ps n=3) by omega)
  obtain⟨i1,i2,i3,_⟩:=zEX h hn hne
  rw[hsk,if_neg (by simp),if_pos h4,zDl h hn (Or.inr h4)]at hs
  have hf:=zDd h (n:=(inn (stp ps n)).1-1) (by omega)
  rw[show (((inn (stp ps n)).1-1:Nat):Int)+1=((inn (stp ps n)).1:Nat) by omega]at hf
  rw[hf,←zEN,i3,e]at hs
  simp at hs
theorem go_in {ps pls:List PL} (h:Nst ps pls) (hl:ps.length≤100):∀(f n:Nat),n≤ps.length→ps.length < f+n→stp ps n≠[]→∃l:Nat,goOn pls (zBv ps) f ((n:Int)+1)=(l:Int)+1∧l < ps.length∧zAK pls (zB7 pls ((l:Int)+1))=true∧stp ps l≠[]∧zC3 (stp ps l)=zC3 (stp ps n)
 | 0,n,hn,hf,_=>by omega
 | f+1,n,hn,hf,hne=>by
  have hnl:n < ps.length:=by
   by_cases e:n=ps.length
   ·rw[e]at hne;exact absurd ((zDC ps _).mp h.shut) hne
   ·omega
  rw[goOn,if_pos (by rw[h.len];omega)]
  by_cases hs:zAK pls (zB7 pls ((n:Int)+1))=true
  ·rw[if_pos hs]
   exact⟨n,rfl,hnl,hs,hne,rfl⟩
  ·rw[if_neg hs,zE4 h hnl]
   obtain⟨s1,s2⟩:=stop_not h hnl (by simpa using hs)
   by_cases h4:kd ps n=4
   ·obtain⟨i1,i2,i3,i4⟩:=zEX h hnl hne
    rw[zDl h hnl (Or.inr h4)]
    have hfm:=zDd h (n:=(inn (stp ps n)).1-1) (by omega)
    rw[show (((inn (stp ps n)).1-1:Nat):Int)+1=((inn (stp ps n)).1:Nat) by omega]at hfm
    rw[hfm,←zEN,i3]
    by_cases h7:(inn (stp ps n)).2=7
    ·rw[if_pos ⟨h4,h7⟩]
     obtain⟨b1,b2⟩:=zEr h (o:=(inn (stp ps n)).1-1) (e:=n) (by omega) (Or.inr (by rw[i3,h7])) hnl (by omega) hne
     refine⟨(inn (stp ps n)).1-1,by omega,by omega,?_,b2,b1.symm⟩
     unfold zAK
     rw[zE4 h (by omega),i3,h7]
     rfl
    ·rw[if_neg (fun e=>h7 e.2),if_neg (by omega)]
     obtain⟨c1,c2⟩:=zL7 h hnl h4 (s2 h4)
     rw[show wrap64 ((n:Int)+1+1)=((n+1:Nat):Int)+1 by have:=zCG (n+2) (by omega);rw[show ((n:Int)+1+1)=((n+2:Nat):Int) by omega,this];omega]
     obtain⟨l,l1,l2,l3,l4,l5⟩:=go_in h hl f (n+1) (by omega) (by omega) c1
     exact⟨l,l1,l2,l3,l4,l5.trans c2⟩
   ·rw[if_neg (fun e=>h4 e.1)]
    by_cases h6:kd ps n=6
    ·rw[if_pos h6,zDl h hnl (Or.inl h6)]
     obtain⟨i1,i2,i3,i4⟩:=zEX h hnl hne
     have h5:=(zMj h hnl h6).1
     obtain⟨e,e1,e2,e3,e4,e5,e6⟩:=zMe h (o:=(inn (stp ps n)).1-1) (by omega) (by rw[i3,h5];exact Or.inr (Or.inl rfl))
     rw[show (((inn (stp ps n)).1-1:Nat):Int)+1=((inn (stp ps n)).1:Nat) by omega]at e6
     rw[e6,show wrap64 ((e:Int)+1+1)=((e+1:Nat):Int)+1 by have:=zCG (e+2) (by omega);rw[show ((e:Int)+1+1)=((e+2:Nat):Int) by omega,this];omega]
     have hee:(inn (stp ps e)).1=(inn (stp ps n)).1:=by omega
     have hle:=zLl h ⟨inn (stp ps n),zEP hne,rfl⟩ e2 e3 hee
     have hnee:=zB9 h e2 (show ¬(kd ps e=0∨kd ps e=1∨kd ps e=2∨kd ps e=3) by omega)
     obtain⟨c1,c2⟩:=zL7 h e2 e3 (by rw[e5,i3,h5];decide)
     obtain⟨b1,_⟩:=zEr h (o:=(inn (stp ps n)).1-1) (e:=n) (by omega) (Or.inl (by rw[i3,h5])) hnl (by omega) hne
     obtain⟨d1,_⟩:=zEr h (o:=(inn (stp ps n)).1-1) (e:=e) (by omega) (Or.inl (by rw[i3,h5])) e2 (by omega) hnee
     obtain⟨l,l1,l2,l3,l4,l5⟩:=go_in h hl f (e+1) (by omega) (by omega) c1
     exact⟨l,l1,l2,l3,l4,l5.trans (c2.trans (d1.trans b1.symm))⟩
    ·rw[if_neg h6]
     have h123:¬(kd ps n=1∨kd ps n=2∨kd ps n=3):=fun e=>hne (zJM h hnl e)
     have h57:¬kd ps n=5∧¬kd ps n=7:=by
      constructor
      ·intro e;rw[e]at s1;cases s1
      ·intro e;rw[e]at s1;cases s1
     have hst:stp ps (n+1)=stp ps n:=by rw[stp,if_neg (by omega),if_neg h4]
     rw[show wrap64 ((n:Int)+1+1)=((n+1:Nat):Int)+1 by have:=zCG (n+2) (by omega);rw[show ((n:Int)+1+1)=((n+2:Nat):Int) by omega,this];omega]
     obtain⟨l,l1,l2,l3,l4,l5⟩:=go_in h hl f (n+1) (by omega) (by omega) (by rw[hst];exact hne)
     exact⟨l,l1,l2,l3,l4,by rw[l5,hst]⟩
theorem other_in {ps pls:List PL} (h:Nst ps pls) (hl:ps.length≤100) {n:Nat} (hn:n < ps.length) (hk:kd ps n=5∨kd ps n=7):∃j:Nat,zBj (zBv ps) ((n:Int)+1)=((j+1:Nat):Int)+1∧n < j∧j < ps.length∧stp ps (j+1)≠[]∧zC3 (stp ps (j+1))=zC3 (stp ps n):=by
 have hlk:=lk_ok h ps.length (Nat.le_refl _)
 unfold zBj
 rcases hlk.noe (n+1)with h0 | ⟨m,m1,m2,m3,m4⟩
 ·rw[←zDm h,show ((n+1:Nat):Int)=(n:Int)+1 by omega]at h0
  rw[h0,if_neg (by omega)]
  obtain⟨e,e1,e2,e3,e4,e5,e6⟩:=zMe h hn (Or.inr hk)
  have hnee:=zB9 h e2 (show ¬(kd ps e=0∨kd ps e=1∨kd ps e=2∨kd ps e=3) by omega)
  obtain⟨c1,c2⟩:=zL7 h e2 e3 (by rw[e5];omega)
  obtain⟨d1,_⟩:=zEr h hn hk e2 e4 hnee
  refine⟨e,?_,e1,e2,c1,c2.trans d1⟩
  rw[e6]
  have:=zCG (e+2) (by omega)
  rw[show ((e:Int)+1+1)=((e+2:Nat):Int) by omega,this]
  omega
 ·rw[←zDm h,show ((n+1:Nat):Int)=(n:Int)+1 by omega]at m4
  rw[m4,if_pos (by omega)]
  have hnee:=zB9 h m1 (show ¬(kd ps m=0∨kd ps m=1∨kd ps m=2∨kd ps m=3) by omega)
  have hst:stp ps (m+1)=stp ps m:=by rw[stp,if_neg (by omega),if_neg (by omega)]
  obtain⟨d1,_⟩:=zEr h hn hk m1 m3 hnee
  have:=(zEX h m1 hnee).2.1
  refine⟨m,?_,by omega,m1,by rw[hst];exact hnee,by rw[hst];exact d1⟩
  have:=zCG (m+2) (by omega)
  rw[show ((m:Int)+1+1)=((m+2:Nat):Int) by omega,this]
  omega
end Rt
end Go.Proofs.YthleadfkfnnadaaGreat
