/- The machine: a number printed. -/
import Derived.Test.YthleadfkfnnadaaGreatRefR
import Derived.Test.YthleadfkfnnadaaGreatFwE
import Derived.Test.YthleadfkfnnadaaGreatLwE
set_option maxHeartbeats 4000000
set_option maxRecDepth 100000
namespace Go.Proofs.YthleadfkfnnadaaGreat
open Go.RowKit
namespace Rf
open Rt
theorem zMg {pls:List PL} {ls:List (List ByteArray)} (h:zCS pls ls) {l:Nat} (hl:l < ls.length):RelN ls l (zB7 pls ((l:Int)+1)) ls[l]:=by
 obtain⟨p,h1,h2⟩:=h.get hl
 rw[zB7,if_neg (by omega),show ((l:Int)+1).toNat=l+1 by omega,h1]
 exact h2
theorem zEq {ps pls:List PL} {ls:List (List ByteArray)} (h:Nst ps pls) (hb:zCS pls ls):ps.length=ls.length:=by
 have:=h.len
 have:=hb.len
 omega
theorem zHR {ps pls:List PL} {ls:List (List ByteArray)} (h:Nst ps pls) (hb:zCS pls ls) {n:Nat} (hn:n < ps.length) (hk:kd ps n=6∨kd ps n=4):openerFrom ls n 1=(inn (stp ps n)).1:=by
 have hl:n < ls.length:=by rw[←zEq h hb];exact hn
 have hr:=zMg hb hl
 have ho:=zDl h hn hk
 have hi:=zBk (zB7 pls ((n:Int)+1)).form.kind
 rw[zE4 h hn]at hi
 have hk':=zE4 h hn
 rcases hk with hk | hk
 ·have:=hr.els (by rw[hk'];exact hi.2.2.2.2.2.2.1.mpr hk)
  omega
 ·have:=hr.opener (by rw[hk'];exact hi.2.2.2.2.2.2.2.mpr hk)
  omega
theorem zLd {ps pls:List PL} {ls:List (List ByteArray)} (h:Nst ps pls) (hb:zCS pls ls) {n:Nat} (hn:n < ls.length):HF (first ls[n]) (idx (kd ps n)):=by
 have:=zCt (zMg hb hn).line
 rw[zE4 h (by rw[zEq h hb];exact hn)]at this
 exact this
theorem zLp {ps pls:List PL} {ls:List (List ByteArray)} (h:Nst ps pls) (hb:zCS pls ls) {o e:Nat} (he:e < ps.length) (hk:kd ps e=4) (hi:(inn (stp ps e)).1=o+1):closer ls o=e+1:=by
 have hl:e < ls.length:=by rw[←zEq h hb];exact he
 have ho:=zHR h hb he (Or.inr hk)
 rw[hi]at ho
 have hc:=zEp e 1 o (by omega) (by omega) ho
 have hF:=zLd h hb hl
 have h7:idx (kd ps e)=7:=by rw[hk];rfl
 rw[h7]at hF
 have:=zHp hl hF (ls.length-e-1) ((1:Nat):Int)
 rw[show ls.length-e-1+1=ls.length-e by omega,if_pos rfl,if_pos (by omega)]at this
 rw[hc,this]
theorem zJF {ps pls:List PL} {ls:List (List ByteArray)} (h:Nst ps pls) (hb:zCS pls ls) (hlen:ls.length≤100):∀(f k:Nat),k≤ls.length→goOn pls (zBv ps) f ((k:Int)+1)=(goesFrom ls f k:Nat)
 | 0,k,_=>rfl
 | f+1,k,hk=>by
  have hpl:=zEq h hb
  rw[goOn,goesFrom]
  by_cases hkl:k < ls.length
  ·rw[if_pos (by rw[h.len];omega),if_neg (show ¬ls.length≤k by omega),zr hkl]
   have hr:=zMg hb hkl
   have hs:=stop_eq hb hkl hr
   have hn:k < ps.length:=by omega
   obtain⟨_,_,_,_,_,f5,f6,f7⟩:=zLd h hb hkl
   obtain⟨_,_,_,_,_,i5,i6,i7⟩:=zBk (kd ps k)
   have hw:wrap64 ((k:Int)+1+1)=((k+1:Nat):Int)+1:=by
    have:=zCG (k+2) (by omega)
    rw[show ((k:Int)+1+1)=((k+2:Nat):Int) by omega,this]
    omega
   rw[hs,zE4 h hn,hw]
   by_cases hst:zAT ls k ls[k]=true
   ·rw[if_pos hst,if_pos hst];rfl
   ·rw[if_neg hst,if_neg hst,f6,f7]
    by_cases h6:kd ps k=6
    ·rw[if_neg (by omega),if_pos h6,if_pos (decide_eq_true (i6.mpr h6)),zDl h hn (Or.inl h6),zHR h hb hn (Or.inl h6)]
     have hne:=zB9 h hn (show ¬(kd ps k=0∨kd ps k=1∨kd ps k=2∨kd ps k=3) by omega)
     obtain⟨j1,j2,j3,_⟩:=zEX h hn hne
     have h5:=(zMj h hn h6).1
     obtain⟨e,e1,e2,e3,e4,e5,e6⟩:=zMe h (o:=(inn (stp ps k)).1-1) (by omega) (by rw[j3,h5];exact Or.inr (Or.inl rfl))
     rw[show (((inn (stp ps k)).1-1:Nat):Int)+1=((inn (stp ps k)).1:Nat) by omega]at e6
     rw[zLp h hb e2 e3 e4,e6,show wrap64 ((e:Int)+1+1)=((e+1:Nat):Int)+1 by have:=zCG (e+2) (by omega);rw[show ((e:Int)+1+1)=((e+2:Nat):Int) by omega,this];omega]
     exact zJF h hb hlen f (e+1) (by omega)
    ·have n6:¬decide (idx (kd ps k)=6)=true:=fun e=>h6 (i6.mp (of_decide_eq_true e))
     rw[if_neg n6]
     by_cases h4:kd ps k=4
     ·have hne:=zB9 h hn (show ¬(kd ps k=0∨kd ps k=1∨kd ps k=2∨kd ps k=3) by omega)
      obtain⟨j1,j2,j3,_⟩:=zEX h hn hne
      have hol:(inn (stp ps k)).1-1 < ls.length:=by omega
      obtain⟨_,_,_,_,_,g5,_⟩:=zLd h hb hol
      obtain⟨_,_,_,_,_,i5',_⟩:=zBk (kd ps ((inn (stp ps k)).1-1))
      rw[zDl h hn (Or.inr h4),zHR h hb hn (Or.inr h4),if_pos (decide_eq_true (i7.mpr h4)),zr hol,g5]
      have hfm:=zDd h (n:=(inn (stp ps k)).1-1) (by omega)
      rw[show (((inn (stp ps k)).1-1:Nat):Int)+1=((inn (stp ps k)).1:Nat) by omega]at hfm
      rw[hfm,←zEN]
      by_cases h7:kd ps ((inn (stp ps k)).1-1)=7
      ·rw[if_pos ⟨h4,h7⟩,if_pos (decide_eq_true (i5'.mpr h7))]
      ·rw[if_neg (fun e=>h7 e.2),if_neg h6,if_neg (fun e=>h7 (i5'.mp (of_decide_eq_true e)))]
       exact zJF h hb hlen f (k+1) (by omega)
     ·rw[if_neg (fun e=>h4 e.1),if_neg h6,if_neg (fun e=>h4 (i7.mp (of_decide_eq_true e)))]
      exact zJF h hb hlen f (k+1) (by omega)
  ·rw[if_neg (by rw[h.len];omega),if_pos (show ls.length≤k by omega)];rfl
theorem zIM {ls:List (List ByteArray)} (hn:nested ls=0):∀(f g k:Nat),ls.length < f+k→ls.length < g+k→k≤ls.length→goesFrom ls f k=goesFrom ls g k
 | 0,g,k,hf,_,_=>by omega
 | f+1,0,k,_,hg,_=>by omega
 | f+1,g+1,k,hf,hg,hk=>by
  rw[goesFrom,goesFrom]
  by_cases hkl:ls.length≤k
  ·rw[if_pos hkl,if_pos hkl]
  ·rw[if_neg hkl,if_neg hkl]
   have hlt:k < ls.length:=by omega
   rw[zr hlt]
   by_cases hel:((first ls[k]).toList==[101,108,115,101])=true
   ·obtain⟨o1,o2⟩:=zPc hn hlt hel
    have ob:=zCU ls k 1
    have cb:=zKa ls (l:=openerFrom ls k 1-1) (by omega)
    rw[if_pos hel,if_pos hel,zIM hn f g _ (by omega) (by omega) cb]
   ·rw[if_neg hel,if_neg hel,zIM hn f g (k+1) (by omega) (by omega) (by omega)]
theorem zLg {ps pls:List PL} {ls:List (List ByteArray)} (h:Nst ps pls) (hb:zCS pls ls) (hlen:ls.length≤100) {k:Nat} (hk:k≤ls.length):goOn pls (zBv ps) 102 ((k:Int)+1)=(zAp ls k:Nat):=by
 rw[zJF h hb hlen 102 k hk,zAp,zIM hb.nested 102 (ls.length+1-k) k (by omega) (by omega) hk]
theorem zFe {ls:List (List ByteArray)} {l c:Nat}:∀f m,(∀j,m≤j→j < m+f→¬(((first (zAA ls j)).toList==[101,108,115,101])=true∧openerFrom ls j 1=l+1))→otherFrom ls l c f m=c
 | 0,m,_=>rfl
 | f+1,m,h=>by
  rw[otherFrom,if_neg (h m (Nat.le_refl _) (by omega))]
  exact zFe f (m+1) (fun j h1 h2=>h j (by omega) (by omega))
theorem zFd {ls:List (List ByteArray)} {l c x:Nat} (hx:((first (zAA ls x)).toList==[101,108,115,101])=true∧openerFrom ls x 1=l+1):∀f m,m≤x→x < m+f→(∀j,m≤j→j < x→¬(((first (zAA ls j)).toList==[101,108,115,101])=true∧openerFrom ls j 1=l+1))→otherFrom ls l c f m=x+1
 | 0,m,_,_,_=>by omega
 | f+1,m,h1,h2,h=>by
  rw[otherFrom]
  by_cases e:m=x
  ·subst e;rw[if_pos hx]
  ·rw[if_neg (h m (Nat.le_refl _) (by omega))]
   exact zFd hx f (m+1) (by omega) (by omega) (fun j h1 h2=>h j (by omega) h2)
theorem zM9 {ps pls:List PL} {ls:List (List ByteArray)} (h:Nst ps pls) (hb:zCS pls ls) (hlen:ls.length≤100) {n:Nat} (hn:n < ps.length) (hk:kd ps n=5∨kd ps n=7):zBj (zBv ps) ((n:Int)+1)=((other ls n:Nat):Int)+1∧other ls n≤ls.length:=by
 have hpl:=zEq h hb
 have hlk:=lk_ok h ps.length (Nat.le_refl _)
 obtain⟨e,e1,e2,e3,e4,e5,e6⟩:=zMe h hn (Or.inr hk)
 have hc:=zLp h hb e2 e3 e4
 have hels:∀j,j < ls.length→((first (zAA ls j)).toList==[101,108,115,101])=true∧openerFrom ls j 1=n+1→kd ps j=6∧(inn (stp ps j)).1=n+1:=by
  intro j hj ⟨q1,q2⟩
  obtain⟨_,_,_,_,_,_,f6,_⟩:=zLd h hb hj
  rw[zr hj,f6]at q1
  have h6:=(zBk (kd ps j)).2.2.2.2.2.2.1.mp (of_decide_eq_true q1)
  rw[zHR h hb (by omega) (Or.inl h6)]at q2
  exact⟨h6,q2⟩
 have hels2:∀j,j < ls.length→((first (zAA ls j)).toList==[101,108,115,101])=true∧openerFrom ls j 1=n+1→(zAy (zBv ps) ((n:Int)+1)).1=(j:Int)+1:=by
  intro j hj hq
  obtain⟨q1,q2⟩:=hels j hj hq
  have:=hlk.els j (by omega) q1
  rw[q2,←zDm h,show ((n+1:Nat):Int)=(n:Int)+1 by omega]at this
  exact this
 unfold zBj other
 rw[hc]
 rcases hlk.noe (n+1)with h0 | ⟨m,m1,m2,m3,m4⟩
 ·rw[←zDm h,show ((n+1:Nat):Int)=(n:Int)+1 by omega]at h0
  rw[h0,if_neg (by omega),e6]
  have ho:=zFe (ls:=ls) (l:=n) (c:=e+1) (e+1-(n+2)) (n+1) (fun j h1 h2 hq=>by
   have:=hels2 j (by omega) hq
   omega)
  rw[ho]
  refine⟨?_,by omega⟩
  have:=zCG (e+2) (by omega)
  rw[show ((e:Int)+1+1)=((e+2:Nat):Int) by omega,this]
  omega
 ·rw[←zDm h,show ((n+1:Nat):Int)=(n:Int)+1 by omega]at m4
  rw[m4,if_pos (by omega)]
  have hnee:=zB9 h m1 (show ¬(kd ps m=0∨kd ps m=1∨kd ps m=2∨kd ps m=3) by omega)
  have hb1:=(zEX h m1 hnee).2.1
  have hle:=zLl h (n:=m) ⟨inn (stp ps m),zEP hnee,m3⟩ e2 e3 e4
  have hme:m≠e:=fun q=>by rw[q]at m2;omega
  have hml:m < ls.length:=by omega
  obtain⟨_,_,_,_,_,_,f6,_⟩:=zLd h hb hml
  have hx:((first (zAA ls m)).toList==[101,108,115,101])=true∧openerFrom ls m 1=n+1:=by
   rw[zr hml,f6,zHR h hb m1 (Or.inl m2),m2]
   exact⟨rfl,m3⟩
  have ho:=zFd (ls:=ls) (l:=n) (c:=e+1) hx (e+1-(n+2)) (n+1) (by omega) (by omega) (fun j h1 h2 hq=>by
   have:=hels2 j (by omega) hq
   omega)
  rw[ho]
  refine⟨?_,by omega⟩
  have:=zCG (m+2) (by omega)
  rw[show ((m:Int)+1+1)=((m+2:Nat):Int) by omega,this]
  omega
end Rf
end Go.Proofs.YthleadfkfnnadaaGreat
namespace Go.Proofs.YthleadfkfnnadaaGreat
open Go.RowKit
attribute [local go_sem ↓] Go.wp_at_zero Go.wp_at_succ
theorem zPE (w:World) (M B:Nat) (ty:TypeId) (tail:List Value) (S:Rt.Src) (m:Rt.Mc) (X:McX) (BB:Nat) (fm:Rt.zAU) (a1 a2 a3:Option Addr) (c1 c2 c3:Nat) (h:McS w M B ty tail S m X) (hm:Mok S m) (hf:zAd w BB (fmA fm a1 a2 a3 c1 c2 c3) fm) (hsm:Rt.Small fm) (hops:∀o∈fm.values,o.length≤900) (hk:fm.kind=5∨fm.kind=7) :
  Calls Tryz.prog 149 #[.pointer (some ⟨M,0,none⟩),.agg (fmA fm a1 a2 a3 c1 c2 c3)] w (zI2 M B ty tail S X (Rt.perform S m fm) w):=by
 have hbA:=((Below.refl w.heap.size w).alloc (Nat.le_refl _) (.cells (fmA fm a1 a2 a3 c1 c2 c3) 143)).alloc (by simp) (.cells #[.int .i64 0,.int .i64 0,.slice none 0 0] 157)
 have bF:=zV (heap_alloc_new w (.cells (fmA fm a1 a2 a3 c1 c2 c3) 143)) (.cells #[.int .i64 0,.int .i64 0,.slice none 0 0] 157)
 have bR:=zAG w (.cells (fmA fm a1 a2 a3 c1 c2 c3) 143) (.cells #[.int .i64 0,.int .i64 0,.slice none 0 0] 157)
 have hA:=h.zH hbA
 have hfA:=zCO hf hbA
 have HP:=zB (show Rt.perform S m fm=if (Rt.zBR S m fm).2=0 then ⟨0,if (Rt.zBR S m fm).1=0 then Rt.zBj S.lk m.line else wrap64 (m.line+1),[Rt.stay m.line],m⟩else Rt.ended m (Rt.zBR S m fm).2 by unfold Rt.perform;simp only;rw[if_neg (by omega),if_neg (by omega),if_neg (by omega),if_neg (by omega),if_pos hk])
 have HH:=zB h
 clear h hf hk
 go_enter Tryz.func149,Tryz.ntmps149
 go_wp2_with fail
 refine(zF3 _ M B ty tail S m X BB fm a1 a2 a3 c1 c2 c3 hA hm hfA hsm hops).mono ?_
 rintro e w1 ⟨rfl,hb1⟩
 have hB1:=hbA.trans (hb1.mono (B':=w.heap.size) (by simp;omega))
 have bR1:=zK bR hb1
 have h1:=hA.zH hb1
 clear hA hfA hbA bF bR hb1
 generalize Rt.zBR S m fm=v at *
 obtain⟨v1,v2⟩:=v
 simp only at HP
 by_cases hv:v2=0
 ·subst hv
  replace HP:=zB ((zA HP).trans (if_pos rfl))
  have c6:=h1.c6
  have HA:=zB (And.intro (Aft.start (zA HH) hB1) bR1)
  have HPr:=zB h1.prog
  clear h1 hB1 bR1 hm hops hsm
  by_cases hz:v1=0
  ·subst hz
   rw[if_pos rfl]at HP
   go_wp2_with fail
   go_region_with ((go_at_call 183;refine(zK3 _ _ _ _ _ _ _ m.line ((zA HPr).zH (zS _))).mono ?_;rintro e w2 ⟨rfl,hb2⟩))
   all_goals
    have hAx:=(zA HA).1.below (zm hb2)
    have bRx:=zK (zA HA).2 (zm hb2)
    clear hb2 HA HPr c6
    generalize Rt.zBj S.lk m.line=nx at *
    have c6x:=hAx.mc.c6
    have hQ:=hAx.frm.size
    have hRlt:=zJ bRx
    obtain⟨r0,r1,r2⟩:=zY bRx
    have z:=zI bRx
    have hne1:¬w.heap.size+1=w2.heap.size:=by omega
    have hne2:¬w2.heap.size=w.heap.size+1:=by omega
    have hMlt:M < w2.heap.size:=Nat.lt_of_lt_of_le hAx.lt hQ
    have hne3:¬M=w2.heap.size:=by omega
    have HF:=zB (fun a b c=>And.intro ((hAx.three bRx (by omega) (by unfold PTy;decide) a b c).below ((Below.refl _ _).alloc (Nat.le_refl _) (.cells #[.int .i64 1,.int .i64 m.line,.int .i64 0,.int .i64 0,.int .i64 0] 162))) (zJC 1 w2 w.heap.size (w.heap.size+1) #[.int .i64 1,.int .i64 m.line,.int .i64 0,.int .i64 0,.int .i64 0] hQ a b c rfl (by omega)))
    have HG:=zB (fun a b c:Value=>zY (zV (zFx bRx a b c) (.cells #[.int .i64 1,.int .i64 m.line,.int .i64 0,.int .i64 0,.int .i64 0] 162)))
    clear hAx bRx
    go_wp2_with fail
    refine bodyPost_ret (v:=.agg #[.int .i64 0,.int .i64 (nx),.slice (some ⟨w2.heap.size,0,none⟩) 1 1]) ?_ rfl ⟨_,_,by rw[zA HP],by rw[zA HP];exact(zA HF _ _ _).1,by rw[zA HP];exact(zA HF _ _ _).2⟩
    have E:=zA HG (.int .i64 0) (.int .i64 (nx)) (.slice (some ⟨w2.heap.size,0,none⟩) 1 1)
    revert E
    generalize (W3 w2 (w.heap.size+1) (.int .i64 0) (.int .i64 (nx)) (.slice (some ⟨w2.heap.size,0,none⟩) 1 1)).alloc (.cells #[.int .i64 1,.int .i64 m.line,.int .i64 0,.int .i64 0,.int .i64 0] 162)=wz
    intro E
    simp[results,Tryz.results149,go_sem,E.1,E.2.1,E.2.2]
  ·rw[if_neg hz]at HP
   have bz:(v1==0)=false:=by rw[beq_eq_false_iff_ne];exact hz
   obtain⟨hAx,bRx⟩:=zA HA
   clear HA HPr hz
   have c6x:=hAx.mc.c6
   have hQ:=hAx.frm.size
   have hRlt:=zJ bRx
   obtain⟨r0,r1,r2⟩:=zY bRx
   have z:=zI bRx
   have hne1:¬w.heap.size+1=w1.heap.size:=by omega
   have hne2:¬w1.heap.size=w.heap.size+1:=by omega
   have hMlt:M < w1.heap.size:=Nat.lt_of_lt_of_le hAx.lt hQ
   have hne3:¬M=w1.heap.size:=by omega
   have HF:=zB (fun a b c=>And.intro ((hAx.three bRx (by omega) (by unfold PTy;decide) a b c).below ((Below.refl _ _).alloc (Nat.le_refl _) (.cells #[.int .i64 1,.int .i64 m.line,.int .i64 0,.int .i64 0,.int .i64 0] 162))) (zJC 1 w1 w.heap.size (w.heap.size+1) #[.int .i64 1,.int .i64 m.line,.int .i64 0,.int .i64 0,.int .i64 0] hQ a b c rfl (by omega)))
   have HG:=zB (fun a b c:Value=>zY (zV (zFx bRx a b c) (.cells #[.int .i64 1,.int .i64 m.line,.int .i64 0,.int .i64 0,.int .i64 0] 162)))
   clear hAx bRx
   go_wp2_with fail
   refine bodyPost_ret (v:=.agg #[.int .i64 0,.int .i64 (wrap64 (m.line+1)),.slice (some ⟨w1.heap.size,0,none⟩) 1 1]) ?_ rfl ⟨_,_,by rw[zA HP],by rw[zA HP];exact(zA HF _ _ _).1,by rw[zA HP];exact(zA HF _ _ _).2⟩
   have E:=zA HG (.int .i64 0) (.int .i64 (wrap64 (m.line+1))) (.slice (some ⟨w1.heap.size,0,none⟩) 1 1)
   revert E
   generalize (W3 w1 (w.heap.size+1) (.int .i64 0) (.int .i64 (wrap64 (m.line+1))) (.slice (some ⟨w1.heap.size,0,none⟩) 1 1)).alloc (.cells #[.int .i64 1,.int .i64 m.line,.int .i64 0,.int .i64 0,.int .i64 0] 162)=wz
   intro E
   simp[results,Tryz.results149,go_sem,E.1,E.2.1,E.2.2]
 ·replace HP:=zB ((zA HP).trans (if_neg hv))
  have bv:(v2 != 0)=true:=by simpa using hv
  obtain⟨r0,r1,r2⟩:=zY bR1
  have z:=zI bR1
  have HF:=zB (fun a b c=>(Aft.start (zA HH) hB1).three bR1 (by omega) (by unfold PTy;decide) a b c)
  clear h1 hB1 bR1 hv hm hops hsm
  go_wp2_with fail
  refine bodyPost_ret (v:=.agg #[.int .i64 v2,.int .i64 0,.slice none 0 0]) ?_ rfl ⟨_,_,by rw[zA HP];rfl,by rw[zA HP];exact zA HF _ _ _,by rw[zA HP];exact World.ownsRow_nil _ _ _ _⟩
  simp[results,Tryz.results149,go_sem,r0,r1,r2]
def zAn (X:McX) (m:Rt.Mc) (tail:List Value):Array Value:=([X.lv,X.iv,X.fv,X.vv,.int .i64 m.taken,X.ov,.int .i64 m.line,.int .i64 m.fin]++tail).toArray
theorem McS.step {w w1:World} {M B:Nat} {ty:TypeId} {tail:List Value} {S:Rt.Src} {m m':Rt.Mc} {X X':McX} (h:McS w M B ty tail S m X) (hs:w.heap.size≤w1.heap.size) (hM:w1.heap[M]?=w.heap[M]?)
  (hk:∀(k:Nat) (x:Obj),w.heap[k]?=some x→(∃c t,x=Obj.cells c t (0,0)∧PTy t)→w1.heap[k]?=some x) (i:Nat) (v:Value) (hb:(zAn X m tail).setIfInBounds i v=zAn X' m' tail) (ho:Own w1 (rowsOf S.input X' m')) (hl:X'.lv=X.lv) (hc:X'.cs=X.cs)
  (fl:X'.fps.length=m'.zD.length) (vl:X'.vps.length=m'.values.length):McS (w1.setCell ⟨M,i,none⟩ v) M B ty tail S m' X':=by
 have hother:∀k,k≠M→(w1.setCell ⟨M,i,none⟩ v).heap[k]?=w1.heap[k]?:=fun k hk=>Below.heap_setCell w1 ⟨M,i,none⟩ _ k hk
 have hM1:w1.heap[M]?=some (.cells (zAn X m tail) ty (0,0)):=hM.trans h.block
 refine h.next ?_ (by simpa[World.setCell] using hs) (fun k x hx hne hp=>by rw[hother k hne];exact hk k x hx hp) ⟨fun r hr=>zAZ (ho.rows r hr) (fun g hg=>hother g ?_),ho.apart⟩ hl hc fl vl
 ·have:=zO hM1 i v
  rw[hb]at this
  exact this
 ·intro e
  obtain⟨c,hc⟩:=zAj (ho.rows r hr) hg
  rw[e,hM1]at hc
  injection hc with hc
  injection hc with _ hc
  have h3:=zJh hr
  rw[←hc]at h3
  rcases h3 with e | e | e
  ·exact h.ty.1 e
  ·exact h.ty.2.1 e
  ·exact h.ty.2.2.1 e
theorem Frm.setM {w w1:World} {M:Nat} {F:List Nat} (h:Frm w w1 (M::F)) (i:Nat) (v:Value):Frm w (w1.setCell ⟨M,i,none⟩ v) (M::F):=
 ⟨h.os,h.tape,h.output,Nat.le_trans h.size (by simp[World.setCell]),fun k hk hn=>by
  rw[Below.heap_setCell w1 ⟨M,i,none⟩ v k (fun e=>hn (by rw[show k=M from e];exact List.mem_cons_self ..))]
  exact h.block k hk hn⟩
theorem McS.outPush {w w1 wx:World} {M B:Nat} {ty:TypeId} {tail:List Value} {S:Rt.Src} {m:Rt.Mc} {X:McX} (h:McS w M B ty tail S m X) (hb:Below w.heap.size w wx) (hg:wx.grownBy w1 X.ov.ownBlock) (v:Int) (ov':Value)
  (hown:w1.ownsRow 0 3 1 ov' (m.output.length+1) (zz (m.output++[v]))) (hat:∀g,ov'.ownBlock=some g→X.ov.ownBlock=some g∨w.heap.size≤g) :
  McS (w1.setCell ⟨M,5,none⟩ ov') M B ty tail S { m with output:=m.output++[v] } { X with ov:=ov' }∧Frm w (w1.setCell ⟨M,5,none⟩ ov') (M::zDX X)∧zCz w (zDX X) (zDX { X with ov:=ov' }):=by
 have hrow:=h.out
 have hkeep:∀k,k < w.heap.size→X.ov.ownBlock≠some k→w1.heap[k]?=w.heap[k]?:=fun k hk hv=>(hg.block k (Nat.lt_of_lt_of_le hk hb.size) (Ne.symm hv)).trans (hb.block k hk)
 have hint:∀g,X.ov.ownBlock=some g→∃c,w.heap[g]?=some (.cells c 3 (0,0)):=fun g hg=>zAj hrow hg
 have hMne:X.ov.ownBlock≠some M:=by
  intro e
  obtain⟨c,hc⟩:=hint M e
  rw[h.block]at hc
  injection hc with hc
  injection hc with _ hc
  exact h.ty.1 hc
 have hk:∀(k:Nat) (x:Obj),w.heap[k]?=some x→(∃c t,x=Obj.cells c t (0,0)∧PTy t)→w1.heap[k]?=some x:=by
  intro k x hx hp
  rw[hkeep k (zJ hx) (fun e=>by
   obtain⟨c,hc⟩:=hint k e
   rw[hx]at hc
   injection hc with hc
   obtain⟨c',t',e2,hp⟩:=hp
   rw[hc]at e2
   injection e2 with _ e2
   rw[←e2]at hp
   exact absurd hp (by unfold PTy;decide))]
  exact hx
 have hrows:rowsOf S.input X m=[zQ X.iv S.input,⟨153,2,X.fv,m.zD.length,fCells X.fps m.zD⟩,⟨24,1,X.vv,m.values.length,X.vps⟩]++zQ X.ov m.output::(List.zipWith zQ X.fps (m.zD.map Rt.Fm.params)++List.zipWith zQ X.vps m.values):=rfl
 have ho:=h.own
 rw[hrows]at ho
 obtain⟨o1,o2⟩:=ho.swap (w':=w1) (r':=zQ ov' (m.output++[v])) hkeep (by show World.ownsRow _ 0 3 1 _ (m.output++[v]).length _;rw[List.length_append];exact hown) hat
 have hmc:=h.step (w1:=w1) (m':={ m with output:=m.output++[v] }) (X':={ X with ov:=ov' }) (Nat.le_trans hb.size hg.size) (hkeep M (zJ h.block) hMne) hk 5 ov' (by simp[zAn]) o1 rfl rfl h.fl h.vl
 refine⟨hmc,?_,?_⟩
 ·refine Frm.setM ⟨hg.os.trans hb.os,hg.tape.trans hb.tape,hg.output.trans hb.output,Nat.le_trans hb.size hg.size,fun k hk2 hn=>hkeep k hk2 (fun e=>hn (List.mem_cons_of_mem _ ?_))⟩ _ _
  rw[←h.zAJ]
  exact zAf (r:=zQ X.ov m.output) (by rw[hrows];simp) e
 ·rw[←h.zAJ,←hmc.zAJ]
  exact o2
theorem Aft.more {M B:Nat} {ty:TypeId} {tail:List Value} {S:Rt.Src} {m m2:Rt.Mc} {X X1 X2:McX} {w w1 w2:World} (h:Aft M B ty tail S X X1 m w w1) (hmc:McS w2 M B ty tail S m2 X2) (hf:Frm w1 w2 (M::zDX X1)) (hg:zCz w1 (zDX X1) (zDX X2)):Aft M B ty tail S X X2 m2 w w2:=by
 refine⟨hmc,h.frm.trans hf ?_,h.grow.trans hg h.frm.size,h.lt⟩
 intro k hk
 rcases List.mem_cons.mp hk with rfl | hk
 ·exact Or.inl (List.mem_cons_self ..)
 ·rcases h.grow k hk with h' | h'
  ·exact Or.inl (List.mem_cons_of_mem _ h')
  ·exact Or.inr h'
theorem zP7 (w:World) (M B:Nat) (ty:TypeId) (tail:List Value) (S:Rt.Src) (m:Rt.Mc) (X:McX) (BB:Nat) (fm:Rt.zAU) (a1 a2 a3:Option Addr) (c1 c2 c3:Nat) (h:McS w M B ty tail S m X) (hm:Mok S m) (hf:zAd w BB (fmA fm a1 a2 a3 c1 c2 c3) fm) (hsm:Rt.Small fm) (hops:∀o∈fm.values,o.length≤900) (hk:fm.kind=10) :
  Calls Tryz.prog 147 #[.pointer (some ⟨M,0,none⟩),.agg (fmA fm a1 a2 a3 c1 c2 c3)] w (zI2 M B ty tail S X (Rt.perform S m fm) w):=by
 obtain⟨i0,hi0,hz0,hz1,hz2⟩:=info_parts Tryz.zCv
 have hbA:=((Below.refl w.heap.size w).alloc (Nat.le_refl _) (.cells (fmA fm a1 a2 a3 c1 c2 c3) 143)).alloc (by simp) (.cells #[.int .i64 0,.int .i64 0,.slice none 0 0] 157)
 have bR:=zAG w (.cells (fmA fm a1 a2 a3 c1 c2 c3) 143) (.cells #[.int .i64 0,.int .i64 0,.slice none 0 0] 157)
 have hA:=h.zH hbA
 have hfA:=zCO hf hbA
 have HP:=zB (show Rt.perform S m fm=if (Rt.zBR S m fm).2=0 then (if 50≤m.output.length then Rt.ended m 6 else ⟨0,wrap64 (m.line+1),[Rt.stay m.line,⟨5,0,⟨0,0⟩,0⟩],{ m with output:=m.output++[(Rt.zBR S m fm).1] }⟩)else Rt.ended m (Rt.zBR S m fm).2 by unfold Rt.perform;simp only;rw[if_neg (by omega),if_neg (by omega),if_pos hk])
 have HH:=zB h
 have hol:=hm.output
 clear h hf hk
 go_enter Tryz.func147,Tryz.ntmps147
 go_wp2_with fail
 refine(zF3 _ M B ty tail S m X BB fm a1 a2 a3 c1 c2 c3 hA hm hfA hsm hops).mono ?_
 rintro e w1 ⟨rfl,hb1⟩
 have hB1:=hbA.trans (hb1.mono (B':=w.heap.size) (by simp;omega))
 have bR1:=zK bR hb1
 have h1:=hA.zH hb1
 clear hA hfA hbA bR hb1
 generalize Rt.zBR S m fm=v at *
 obtain⟨v1,v2⟩:=v
 simp only at HP
 have c5:=h1.c5
 by_cases hv:v2=0
 ·subst hv
  replace HP:=zB ((zA HP).trans (if_pos rfl))
  obtain⟨oad,ocap,hov⟩:=zE h1.out
  by_cases h50:50≤m.output.length
  ·replace HP:=zB ((zA HP).trans (if_pos h50))
   have h50':(50:Int)≤(m.output.length:Int):=by omega
   obtain⟨r0,r1,r2⟩:=zY bR1
   have z:=zI bR1
   have HF:=zB (fun a b c=>(Aft.start (zA HH) hB1).three bR1 (by omega) (by unfold PTy;decide) a b c)
   rw[hov]at c5
   clear h1 hB1 bR1 hm hops hsm hov h50
   go_wp2_with fail
   refine bodyPost_ret (v:=.agg #[.int .i64 6,.int .i64 0,.slice none 0 0]) ?_ rfl ⟨_,_,by rw[zA HP];rfl,by rw[zA HP];exact zA HF _ _ _,by rw[zA HP];exact World.ownsRow_nil _ _ _ _⟩
   simp[results,Tryz.results147,go_sem,r0,r1,r2]
  ·replace HP:=zB ((zA HP).trans (if_neg h50))
   have h50':¬(50:Int)≤(m.output.length:Int):=by omega
   have hown:=h1.out
   have hMlt:=zJ h1.block
   have H1:=zB h1
   have HA1:=zB (And.intro (Aft.start (zA HH) hB1) bR1)
   have H5:=zB hov
   rw[hov]at c5 hown
   clear h1 hB1 bR1 hm hops hsm hov h50
   go_wp2_with (at_builtin;refine wpList_append_lies _ rfl _ _ 24 rfl 0 3 i0 _ 1 8 Tryz.underlying24 hi0 hz0 hz1 hz2 rfl (by decide) _ _ _ rfl (hown.alloc _) ⟨w1.heap.size,0,none⟩ 1 1 [.int .i64 v1] rfl rfl (cell_one_new _ _ _) (by simp[Value.oneCell']) (by omega) (by unfold maxLen;omega) (by omega) (Nat.zero_le _) (w1.heap.size+1) (by simp) ?_)
   intro g cap' w4 hown4 hgrow hat hlt4
   rw[←zA H5]at hgrow hat
   have hbN:=(Below.refl w1.heap.size w1).alloc (Nat.le_refl _) (.cells #[.int .i64 v1] 3)
   obtain⟨q1,q2,q3⟩:=(zA H1).outPush hbN hgrow v1 (.slice (some ⟨g,0,none⟩) (m.output.length+1) cap') (by rw[zz,List.map_append];exact hown4) (fun g' hg'=>by simp[Value.ownBlock]at hg';subst hg';rcases hat with h | h;exact Or.inl h;exact Or.inr (by omega))
   obtain⟨hA1,bR1⟩:=zA HA1
   have hne:∀(N:Nat) (c:Array Value) (t:TypeId),w1.heap[N]?=some (.cells c t (0,0))→t≠3→w4.heap[N]?=some (.cells c t (0,0)):=by
    intro N c t hN ht
    rw[hgrow.block N (Nat.lt_of_lt_of_le (zJ hN) hbN.size) (fun e=>by
     obtain⟨c',hc⟩:=zAj (zA H1).out e.symm
     rw[hN]at hc
     injection hc with hc
     injection hc with _ hc
     exact ht hc),hbN.block N (zJ hN)]
    exact hN
   have bM4:=hne M _ _ (zA H1).block (zA H1).ty.1
   have bR4:=hne _ _ _ bR1 (by decide)
   have c5':w4.cell? ⟨M,5,none⟩=some X.ov:=by have:=zC bM4 5 (by simp);simpa using this
   have f5':=zI bM4 5
   have hMR:M≠w.heap.size+1:=by have:=hA1.lt;omega
   have bR5:(w4.setCell ⟨M,5,none⟩ (.slice (some ⟨g,0,none⟩) (m.output.length+1) cap')).heap[w.heap.size+1]?=some (.cells #[.int .i64 0,.int .i64 0,.slice none 0 0] 157 (0,0)):=by
    rw[Below.heap_setCell w4 ⟨M,5,none⟩ _ _ (by show w.heap.size+1≠M;omega)];exact bR4
   have hAx:=hA1.more q1 q2 q3
   have c6':w4.cell? ⟨M,6,none⟩=some (.int .i64 m.line):=by have:=zC bM4 6 (by simp);simpa using this
   obtain⟨r0,r1,r2⟩:=zY bR4
   have z:=zI bR4
   have hRlt:=zJ bR4
   have hM4:=zJ bM4
   have hQ:=hAx.frm.size
   have hsz:(w4.setCell ⟨M,5,none⟩ (.slice (some ⟨g,0,none⟩) (m.output.length+1) cap')).heap.size=w4.heap.size:=by simp[World.setCell]
   have hne1:¬w.heap.size+1=w4.heap.size:=by omega
   have hne2:¬w4.heap.size=w.heap.size+1:=by omega
   have hne3:¬M=w4.heap.size:=by omega
   have hne4:¬M=w.heap.size+1:=hMR
   have hne5:¬w.heap.size+1=M:=fun e=>hMR e.symm
   have HF:=zB (fun a b c=>And.intro ((hAx.three bR5 (by omega) (by unfold PTy;decide) a b c).below ((Below.refl _ _).alloc (Nat.le_refl _) (.cells #[.int .i64 1,.int .i64 m.line,.int .i64 0,.int .i64 0,.int .i64 0,.int .i64 5,.int .i64 0,.int .i64 0,.int .i64 0,.int .i64 0] 162))) (zJC 2 _ w.heap.size (w.heap.size+1) #[.int .i64 1,.int .i64 m.line,.int .i64 0,.int .i64 0,.int .i64 0,.int .i64 5,.int .i64 0,.int .i64 0,.int .i64 0,.int .i64 0] hQ a b c rfl (by omega)))
   have HG:=zB (fun a b c:Value=>zY (zV (zFx bR5 a b c) (.cells #[.int .i64 1,.int .i64 m.line,.int .i64 0,.int .i64 0,.int .i64 0,.int .i64 5,.int .i64 0,.int .i64 0,.int .i64 0,.int .i64 0] 162)))
   rw[hsz]at HF
   clear hown4 hgrow hat hown hlt4 q1 q2 q3 hA1 bR1 HA1 H1 bM4 bR4 bR5 hAx hne hbN hsz
   go_wp2_with fail
   refine bodyPost_ret (v:=.agg #[.int .i64 0,.int .i64 (wrap64 (m.line+1)),.slice (some ⟨w4.heap.size,0,none⟩) 2 2]) ?_ rfl ⟨_,_,by rw[zA HP],by rw[zA HP];exact(zA HF _ _ _).1,by rw[zA HP];exact(zA HF _ _ _).2⟩
   have E:=zA HG (.int .i64 0) (.int .i64 (wrap64 (m.line+1))) (.slice (some ⟨w4.heap.size,0,none⟩) 2 2)
   revert E
   generalize (W3 (w4.setCell ⟨M,5,none⟩ (.slice (some ⟨g,0,none⟩) (m.output.length+1) cap')) (w.heap.size+1) (.int .i64 0) (.int .i64 (wrap64 (m.line+1))) (.slice (some ⟨w4.heap.size,0,none⟩) 2 2)).alloc (.cells #[.int .i64 1,.int .i64 m.line,.int .i64 0,.int .i64 0,.int .i64 0,.int .i64 5,.int .i64 0,.int .i64 0,.int .i64 0,.int .i64 0] 162)=wz
   intro E
   simp[results,Tryz.results147,go_sem,E.1,E.2.1,E.2.2]
 ·replace HP:=zB ((zA HP).trans (if_neg hv))
  have bv:(v2 != 0)=true:=by simpa using hv
  obtain⟨r0,r1,r2⟩:=zY bR1
  have z:=zI bR1
  have HF:=zB (fun a b c=>(Aft.start (zA HH) hB1).three bR1 (by omega) (by unfold PTy;decide) a b c)
  clear h1 hB1 bR1 hv hm hops hsm c5
  go_wp2_with fail
  refine bodyPost_ret (v:=.agg #[.int .i64 v2,.int .i64 0,.slice none 0 0]) ?_ rfl ⟨_,_,by rw[zA HP];rfl,by rw[zA HP];exact zA HF _ _ _,by rw[zA HP];exact World.ownsRow_nil _ _ _ _⟩
  simp[results,Tryz.results147,go_sem,r0,r1,r2]
end Go.Proofs.YthleadfkfnnadaaGreat
