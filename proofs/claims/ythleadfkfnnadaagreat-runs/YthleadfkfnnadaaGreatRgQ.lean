/- What Run answers, by both. -/
import Derived.Test.YthleadfkfnnadaaGreatGnE
import Derived.Test.YthleadfkfnnadaaGreatLwE
import Derived.Test.YthleadfkfnnadaaGreatRefX
import Derived.Test.YthleadfkfnnadaaGreatRgI
import Derived.Test.YthleadfkfnnadaaGreatRgM
set_option maxHeartbeats 4000000
set_option maxRecDepth 100000
namespace Go.Proofs.YthleadfkfnnadaaGreat
open Go.RowKit
attribute [local go_sem ↓] Go.wp_at_zero Go.wp_at_succ
theorem Rt.zMD {s:ByteArray} (h:(Rt.zAY s).1=0):Rt.zAY s=(0,0,(Rt.zAY s).2.2):=by
 refine Prod.ext h (Prod.ext ?_ rfl)
 unfold Rt.zAY Rt.zC1 Rt.zBn Rt.zA0 at h ⊢
 repeat' split
 all_goals first | rfl | (exfalso;simp_all)
noncomputable def zGm (s:ByteArray) (inp:List Int) (fuel:Int):zG5:=
 if 100 < inp.length then ⟨0,0,[],1,0⟩
 else if ¬(Rt.zAY s).1=0 then ⟨0,0,[],(Rt.zAY s).1,(Rt.zAY s).2.1⟩
 else if fuel < 0∨1000 < fuel then ⟨0,0,[],5,0⟩
 else ⟨(Rt.runM (zA1 s (Rt.zAY s).2.2 inp) fuel.toNat (Rt.firstM (zA1 s (Rt.zAY s).2.2 inp))).1.fin,(Rt.runM (zA1 s (Rt.zAY s).2.2 inp) fuel.toNat (Rt.firstM (zA1 s (Rt.zAY s).2.2 inp))).2,(Rt.runM (zA1 s (Rt.zAY s).2.2 inp) fuel.toNat (Rt.firstM (zA1 s (Rt.zAY s).2.2 inp))).1.output,0,0⟩
theorem zGc.refused {r:zG5} {er ln:Int} {w w':World} {e:Ending} (hr:r=⟨0,0,[],er,ln⟩) (hb:Below w.heap.size w w') (he:e=.returned (.tuple #[.agg zJQ,.int .i64 er,.int .i64 ln])):zGc r w e w':=by
 subst hr he
 exact⟨hb,_,rfl,World.ownsRow_nil _ _ _ _⟩
theorem zIb (s:ByteArray) (iv:Value) (inp:List Int) (fuel:Int) (w:World) (hs:s.size≤maxLen) (hi:zBP w iv inp) (r:zG5) (er ln:Int) (hr:r=⟨0,0,[],er,ln⟩) (h:(100 < inp.length∧er=1∧ln=0)∨(inp.length≤100∧¬er=0∧∃pls,Rt.zAY s=(er,ln,pls))) :
  Calls Tryz.prog 25 #[.string s,iv,.int .i64 fuel] w (zGc r w):=by
 have HI:=zB hi
 obtain⟨iad,icap,rfl,_⟩:=hi
 have HR:=zB hr
 have her:(er != 0)=true:=by rcases h with⟨_,rfl,_⟩| ⟨_,h,_⟩ <;> simp_all
 have HH:=zB h
 clear h hr
 go_enter Tryz.func25,Tryz.ntmps25
 go_wp2_with fail
 have hb0:=(Below.refl w.heap.size w).alloc (Nat.le_refl _) (.cells zJQ 52)
 refine(zMI s _ inp _ hs ((zA HI).zH hb0) (fun p hp=>zO4 hp)).mono ?_
 rintro e w1 ⟨hb1,hcase⟩
 have hB1:Below w.heap.size w w1:=hb0.trans (hb1.mono (by simp))
 have bR1:=zK (heap_alloc_new w (.cells zJQ 52)) hb1
 have he:e=.returned (.tuple #[.agg zFH,.int .i64 er,.int .i64 ln]):=by
  rcases zA HH with⟨h1,h2,h3⟩| ⟨h1,h2,p,h3⟩
  ·subst h2 h3
   rcases hcase with⟨_,he⟩| ⟨h,_⟩
   ·exact he
   ·omega
  ·rcases hcase with⟨h,_⟩| ⟨_,er',ln',pls',hR,hc⟩
   ·omega
   ·rw[h3]at hR
    injection hR with e1 hR
    injection hR with e2 _
    subst e1 e2
    rcases hc with⟨_,he⟩| ⟨h0,_⟩
    ·exact he
    ·exact absurd h0 h2
 subst he
 have hRlt:=zJ bR1
 obtain⟨r0,r1,r2⟩:=zY bR1
 have z:=zI bR1
 have bR2:=zO (zO (zO bR1 0 (.int .i64 0)) 1 (.int .i64 0)) 2 (.slice none 0 0)
 have E0:=fun o=>(zY (zV bR2 o)).1
 have E1:=fun o=>(zY (zV bR2 o)).2.1
 have E2:=fun o=>(zY (zV bR2 o)).2.2
 have HE:=zB (And.intro E0 (And.intro E1 E2))
 clear E0 E1 E2 bR2
 have hB2:=zt (zt (zt hB1 (Nat.le_refl _) 0 (.int .i64 0)) (Nat.le_refl _) 1 (.int .i64 0)) (Nat.le_refl _) 2 (.slice none 0 0)
 have HB:=zB (hB2.alloc hB2.size (.cells zFH 90))
 clear hb0 hb1 hB1 hB2 bR1 hcase
 go_wp2_with fail
 refine bodyPost_ret (v:=.tuple #[.agg zJQ,.int .i64 er,.int .i64 ln]) ?_ rfl (zGc.refused (zA HR) (zA HB) rfl)
 simp[results,Tryz.results25,go_sem,(zA HE).1,(zA HE).2.1,(zA HE).2.2]
theorem run_fuel (s:ByteArray) (iv:Value) (inp:List Int) (fuel:Int) (w:World) (pls:List Rt.PL) (hs:s.size≤maxLen) (hi:zBP w iv inp) (hR:Rt.zAY s=(0,0,pls)) (hl:inp.length≤100) (hfu:fuel < 0∨1000 < fuel) (r:zG5) (hr:r=⟨0,0,[],5,0⟩) :
  Calls Tryz.prog 25 #[.string s,iv,.int .i64 fuel] w (zGc r w):=by
 have HI:=zB hi
 obtain⟨iad,icap,rfl,_⟩:=hi
 have HR:=zB hr
 clear hr
 go_enter Tryz.func25,Tryz.ntmps25
 go_wp2_with fail
 have hb0:=(Below.refl w.heap.size w).alloc (Nat.le_refl _) (.cells zJQ 52)
 refine(zMI s _ inp _ hs ((zA HI).zH hb0) (fun p hp=>zO4 hp)).mono ?_
 rintro e w1 ⟨hb1,hcase⟩
 have hB1:Below w.heap.size w w1:=hb0.trans (hb1.mono (by simp))
 have bR1:=zK (heap_alloc_new w (.cells zJQ 52)) hb1
 rcases hcase with⟨hlt,_⟩| ⟨_,er,ln,pls',hR',hc⟩
 ·exact absurd hlt (by omega)
 rw[hR]at hR'
 injection hR' with e1 hR'
 injection hR' with e2 e3
 subst e1 e2 e3
 rcases hc with⟨h0,_⟩| ⟨_,_,hlen,M0,X,rfl,hM0,hblk,hmc⟩
 ·exact absurd rfl h0
 obtain⟨la,lc,ia,ic,fa,fc,va,vc,oa,oc,q1,q2,q3,q4,q5⟩:=hmc.shape
 generalize Rt.firstM (zA1 s pls inp)=m0 at *
 have hcells:zAn X m0 []=#[.slice la pls.length lc,.slice ia inp.length ic,.slice fa m0.zD.length fc,.slice va m0.values.length vc,.int .i64 m0.taken,.slice oa m0.output.length oc,.int .i64 m0.line,.int .i64 m0.fin]:=by
  simp only[zAn,q1,q2,q3,q4,q5,zA1,List.length_map]
  rfl
 rw[hcells]
 have hRlt:=zJ bR1
 obtain⟨r0,r1,r2⟩:=zY bR1
 have z:=zI bR1
 have bR2:=zO (zO (zO bR1 0 (.int .i64 0)) 1 (.int .i64 0)) 2 (.slice none 0 0)
 have E0:=fun o=>(zY (zV bR2 o)).1
 have E1:=fun o=>(zY (zV bR2 o)).2.1
 have E2:=fun o=>(zY (zV bR2 o)).2.2
 have HE:=zB (And.intro E0 (And.intro E1 E2))
 clear E0 E1 E2 bR2
 have hB2:=zt (zt (zt hB1 (Nat.le_refl _) 0 (.int .i64 0)) (Nat.le_refl _) 1 (.int .i64 0)) (Nat.le_refl _) 2 (.slice none 0 0)
 have HB:=zB (fun o=>hB2.alloc hB2.size o)
 clear hmc hcells q1 q2 q3 q4 q5 hb0 hb1 hB1 hB2 bR1 hblk hR
 by_cases hz:fuel < 0
 ·go_wp2_with fail
  refine bodyPost_ret (v:=.tuple #[.agg zJQ,.int .i64 5,.int .i64 0]) ?_ rfl (zGc.refused (zA HR) (zA HB _) rfl)
  simp[results,Tryz.results25,go_sem,(zA HE).1,(zA HE).2.1,(zA HE).2.2]
 ·have hz2:1000 < fuel:=by omega
  go_wp2_with fail
  refine bodyPost_ret (v:=.tuple #[.agg zJQ,.int .i64 5,.int .i64 0]) ?_ rfl (zGc.refused (zA HR) (zA HB _) rfl)
  simp[results,Tryz.results25,go_sem,(zA HE).1,(zA HE).2.1,(zA HE).2.2]
theorem run_all (s:ByteArray) (iv:Value) (inp:List Int) (fuel:Int) (w:World) (hs:s.size≤maxLen) (hi:zBP w iv inp) :
  Calls Tryz.prog 25 #[.string s,iv,.int .i64 fuel] w (zGc (zGm s inp fuel) w):=by
 by_cases hl:100 < inp.length
 ·exact zIb s iv inp fuel w hs hi _ 1 0 (by unfold zGm;rw[if_pos hl]) (Or.inl ⟨hl,rfl,rfl⟩)
 ·by_cases h0:(Rt.zAY s).1=0
  ·have hR:=Rt.zMD h0
   by_cases hf:fuel < 0∨1000 < fuel
   ·exact run_fuel s iv inp fuel w _ hs hi hR (by omega) hf _ (by unfold zGm;rw[if_neg hl,if_neg (not_not_intro h0),if_pos hf])
   ·obtain⟨n,hn⟩:∃n:Nat,fuel=(n:Int):=⟨fuel.toNat,by omega⟩
    subst hn
    refine(zP0 s iv inp n w _ hs hi hR (by omega) (by omega)).mono ?_
    rintro e w' ⟨hb,v,he,ho⟩
    have hA:zGm s inp (n:Int)=⟨(Rt.runM (zA1 s (Rt.zAY s).2.2 inp) n (Rt.firstM (zA1 s (Rt.zAY s).2.2 inp))).1.fin,(Rt.runM (zA1 s (Rt.zAY s).2.2 inp) n (Rt.firstM (zA1 s (Rt.zAY s).2.2 inp))).2,(Rt.runM (zA1 s (Rt.zAY s).2.2 inp) n (Rt.firstM (zA1 s (Rt.zAY s).2.2 inp))).1.output,0,0⟩:=by
     unfold zGm
     rw[if_neg hl,if_neg (not_not_intro h0),if_neg hf,Int.toNat_natCast]
    rw[hA]
    exact⟨hb,v,he,ho⟩
  ·exact zIb s iv inp fuel w hs hi _ (Rt.zAY s).1 (Rt.zAY s).2.1 (by unfold zGm;rw[if_neg hl,if_pos h0]) (Or.inr ⟨by omega,h0,(Rt.zAY s).2.2,rfl⟩)
end Go.Proofs.YthleadfkfnnadaaGreat
namespace Go.Proofs.YthleadfkfnnadaaGreat
open Go.RowKit
namespace Rf
open Rt
theorem zQt {ps pls:List PL} {ls:List (List ByteArray)} {S:Rt.Src} {m:Mc} (C:Ctx ps pls ls S) (F:zGQ ps pls ls S m) (hfin:m.fin=0) (hil:S.input.length≤100):zGQ ps pls ls S (zAI S m).1:=by
 suffices h:∃p n,Step ps pls ls S m p n by
  obtain⟨p,n,h⟩:=h
  exact h.2.2
 obtain⟨l,h1,h2,h3,h4⟩:=F.line
 have hl:l < ls.length:=by rw[←C.len];exact h1
 have hli:=C.both.form hl
 rw[show ((l+1:Nat):Int)=(l:Int)+1 from rfl,zDd C.nst h1]at hli
 have hsk:zAL ps[l].form.kind=true∨ps[l].form.kind=4:=by
  unfold zAK at h3
  rw[zHU C.nst h1]at h3
  by_cases a:zAL ps[l].form.kind=true
  ·exact Or.inl a
  ·rw[if_neg a]at h3
   by_cases b:ps[l].form.kind=4
   ·exact Or.inr b
   ·rw[if_neg b]at h3;exact absurd h3 (by decide)
 have leave:∀k:Int,(k=13∨k=4)→ps[l].form=⟨k,⟨#[]⟩,0,[],[],[]⟩→∃p n,Step ps pls ls S m p n:=fun k hk hf=>by
  obtain⟨s1,s2⟩:=zJd C F hfin h1 h2 h4 hk hf
  by_cases h0:m.zD.length < 2
  ·exact⟨_,_,s1 h0⟩
  ·obtain⟨c,_,_,hs⟩:=s2 h0
   exact⟨_,_,hs⟩
 generalize ls[l]=t at hli
 generalize hf:ps[l].form=f at hli hsk leave
 cases hli with
 | empty=>exact absurd hsk (by decide)
 | var x hx=>exact absurd hsk (by simp[zAL])
 | array x n _ _ _ _=>exact absurd hsk (by simp[zAL])
 | proc x q _ _ _=>exact absurd hsk (by simp[zAL])
 | end_=>exact leave 4 (Or.inr rfl) rfl
 | if_ p e he=>exact⟨_,_,zFT C F hfin h1 h2 h4 (Or.inl rfl) hf⟩
 | zKQ=>exact absurd hsk (by decide)
 | zGf p e he=>exact⟨_,_,zFT C F hfin h1 h2 h4 (Or.inr rfl) hf⟩
 | set1 x p e hx he=>exact⟨_,_,zLA C F hfin h1 h2 h4 hf⟩
 | set2 x q i p e hx hq he=>exact⟨_,_,zK9 C F hfin h1 h2 h4 hf⟩
 | print p e he=>exact⟨_,_,zJc C F hfin h1 h2 h4 hf⟩
 | read x hx=>exact⟨_,_,zLB C F hfin h1 h2 h4 hil hf⟩
 | call x args vs hx he=>exact⟨_,_,(zLC C F hfin h1 h2 h4 hf).2.2⟩
 | zEw=>exact leave 13 (Or.inl rfl) rfl
end Rf
theorem zIN (s:ByteArray) (iv:Value) (inp:List Int) (w:World) (hs:s.size≤maxLen) (hi:zBP w iv inp) :
  Calls Tryz.prog 53 #[.string s,iv] w fun e w'=>(100 < inp.length∧e=.returned (.tuple #[.pointer none,.int .i64 1,.int .i64 0])∧w'=w)∨(inp.length≤100∧ReadRP s w e w'):=by
 obtain⟨iad,icap,rfl⟩:=hi.form
 clear hi
 by_cases hl:100 < inp.length
 ·have hl':(100:Int) < (inp.length:Int):=by omega
  go_enter Tryz.func53,Tryz.ntmps53
  go_wp2_with fail
  go_ret3
  exact Or.inl ⟨hl,rfl,rfl⟩
 ·have hl':¬(100:Int) < (inp.length:Int):=by omega
  go_enter Tryz.func53,Tryz.ntmps53
  go_wp2_with fail
  refine(Read_ref s _ hs).mono ?_
  rintro e w1 ⟨hb,(⟨h1,rfl⟩| ⟨h1,h2,h3,h4,h5,S,g,cap,rfl,h6⟩)⟩
  ·go_wp2_with fail
   go_ret3
   exact Or.inr ⟨by omega,hb,Or.inl ⟨h1,rfl⟩⟩
  ·go_wp2_with fail
   go_ret3
   exact Or.inr ⟨by omega,hb,Or.inr ⟨h1,h2,h3,h4,h5,S,g,cap,rfl,h6⟩⟩
theorem W7_block {w:World} {R:Nat} {x0 x1 x2 x3 x4 x5 x6:Value} {t:TypeId} (h:w.heap[R]?=some (.cells #[x0,x1,x2,x3,x4,x5,x6] t (0,0))) (a b c d e f g:Value):(W7 w R a b c d e f g).heap[R]?=some (.cells #[a,b,c,d,e,f,g] t (0,0)):=by
 have:=zO (zO (zO (zO (zO (zO (zO h 0 a) 1 b) 2 c) 3 d) 4 e) 5 f) 6 g
 simpa using this
theorem W7_other (w:World) (R k:Nat) (a b c d e f g:Value) (h:k≠R):(W7 w R a b c d e f g).heap[k]?=w.heap[k]?:=by
 unfold W7
 rw[Below.heap_setCell _ ⟨R,6,none⟩ _ k h,Below.heap_setCell _ ⟨R,5,none⟩ _ k h,Below.heap_setCell _ ⟨R,4,none⟩ _ k h,Below.heap_setCell _ ⟨R,3,none⟩ _ k h,Below.heap_setCell _ ⟨R,2,none⟩ _ k h,Below.heap_setCell _ ⟨R,1,none⟩ _ k h,Below.heap_setCell _ ⟨R,0,none⟩ _ k h]
theorem zAg.aside7 {w:World} {S g cap N:Nat} {ls:List (List ByteArray)} {x:Array Value} (h:zAg w S g cap ls) (hN:w.heap[N]?=some (.cells x 72 (0,0))) (a b c d e f i:Value):zAg (W7 w N a b c d e f i) S g cap ls:=
 h.stay (fun k t ht hk=>W7_other w N k a b c d e f i (fun e=>by
  have:=hk.ne (zFy.intro hN) (by rcases ht with rfl | rfl | rfl <;> decide)
  exact this e))
theorem zFz.refused {r:zG5} {er ln:Int} {w w':World} {e:Ending} (hr:r=⟨0,0,[],er,ln⟩) (hb:Below w.heap.size w w') (he:e=.returned (.tuple #[.int .i64 0,.int .i64 0,.slice none 0 0,.int .i64 er,.int .i64 ln])):zFz r w e w':=by
 subst hr he
 exact⟨hb,_,rfl,none,0,rfl,Or.inl rfl⟩
theorem zFq (s:ByteArray) (iv:Value) (inp:List Int) (fuel:Int) (w:World) (hs:s.size≤maxLen) (hi:zBP w iv inp) (r:zG5) (er ln:Int) (hr:r=⟨0,0,[],er,ln⟩) (h:(100 < inp.length∧er=1∧ln=0)∨(inp.length≤100∧¬er=0∧(Rf.zBx s).1=er∧(Rf.zBx s).2.1=ln)) :
  Calls Tryz.prog 27 #[.string s,iv,.int .i64 fuel] w (zFz r w):=by
 have HI:=zB hi
 obtain⟨iad,icap,rfl⟩:=hi.form
 have HR:=zB hr
 have her:(er != 0)=true:=by rcases h with⟨_,rfl,_⟩| ⟨_,h,_⟩ <;> simp_all
 have HH:=zB h
 clear h hr hi
 go_enter Tryz.func27,Tryz.ntmps27
 go_wp2_with fail
 refine(zIN s _ inp _ hs (zA HI)).mono ?_
 rintro e w1 hcase
 have he:e=.returned (.tuple #[.pointer none,.int .i64 er,.int .i64 ln])∧Below w.heap.size w w1:=by
  rcases zA HH with⟨h1,h2,h3⟩| ⟨h1,h2,h3,h4⟩
  ·subst h2 h3
   rcases hcase with⟨_,he,rfl⟩| ⟨h,_⟩
   ·exact⟨he,Below.refl _ _⟩
   ·omega
  ·rcases hcase with⟨h,_⟩| ⟨_,hb,hc⟩
   ·omega
   ·rw[h3,h4]at hc
    rcases hc with⟨_,he⟩| ⟨h0,_⟩
    ·exact⟨he,hb⟩
    ·exact absurd h0 h2
 obtain⟨rfl,hb⟩:=he
 clear hcase
 go_wp2_with fail
 refine bodyPost_ret (v:=.tuple #[.int .i64 0,.int .i64 0,.slice none 0 0,.int .i64 er,.int .i64 ln]) ?_ rfl (zFz.refused (zA HR) hb rfl)
 simp[results,Tryz.results27,go_sem]
theorem zNn (s:ByteArray) (iv:Value) (inp:List Int) (fuel:Int) (w:World) (hs:s.size≤maxLen) (hi:zBP w iv inp) (hR:(Rf.zBx s).1=0) (hl:inp.length≤100) (hfu:fuel < 0∨1000 < fuel) (r:zG5) (hr:r=⟨0,0,[],5,0⟩) :
  Calls Tryz.prog 27 #[.string s,iv,.int .i64 fuel] w (zFz r w):=by
 have HI:=zB hi
 obtain⟨iad,icap,rfl⟩:=hi.form
 have HR:=zB hr
 clear hr hi
 go_enter Tryz.func27,Tryz.ntmps27
 go_wp2_with fail
 refine(zIN s _ inp _ hs (zA HI)).mono ?_
 rintro e w1 (⟨h,_⟩| ⟨_,hb,(⟨h0,_⟩| ⟨_,_,_,_,_,S,g,cap,rfl,_⟩)⟩)
 ·omega
 ·exact absurd hR h0
 by_cases hz:fuel < 0
 ·go_wp2_with fail
  refine bodyPost_ret (v:=.tuple #[.int .i64 0,.int .i64 0,.slice none 0 0,.int .i64 5,.int .i64 0]) ?_ rfl (zFz.refused (zA HR) hb rfl)
  simp[results,Tryz.results27,go_sem]
 ·have hz2:1000 < fuel:=by omega
  go_wp2_with fail
  refine bodyPost_ret (v:=.tuple #[.int .i64 0,.int .i64 0,.slice none 0 0,.int .i64 5,.int .i64 0]) ?_ rfl (zFz.refused (zA HR) hb rfl)
  simp[results,Tryz.results27,go_sem]
theorem zMb (s:ByteArray) (iv:Value) (inp:List Int) (fuel:Nat) (w:World) (pls:List Rt.PL) (hs:s.size≤maxLen) (hi:zBP w iv inp) (hR:Rt.zAY s=(0,0,pls)) (hl:inp.length≤100) (hfu:fuel≤1000) (r:zG5) (hr:r=⟨(Rt.runM (zA1 s pls inp) fuel (Rt.firstM (zA1 s pls inp))).1.fin,(Rt.runM (zA1 s pls inp) fuel (Rt.firstM (zA1 s pls inp))).2,(Rt.runM (zA1 s pls inp) fuel (Rt.firstM (zA1 s pls inp))).1.output,0,0⟩) :
  Calls Tryz.prog 27 #[.string s,iv,.int .i64 fuel] w (zFz r w):=by
 have HI:=zB hi
 obtain⟨iad,icap,rfl⟩:=hi.form
 have HR:=zB hr
 have hR1:(Rf.zBx s).1=0:=by rw[←(Rf.zME s).1,hR]
 have hS:=zMY (inp:=inp) hR hl
 have hK0:=zFn hS
 have hfu0:¬(fuel:Int) < 0:=by omega
 have hfu1:¬(1000:Int) < (fuel:Int):=by omega
 clear hr hi
 go_enter Tryz.func27,Tryz.ntmps27
 go_wp2_with fail
 refine(zIN s _ inp _ hs (zA HI)).mono ?_
 rintro e w1 (⟨h,_⟩| ⟨_,hb1,(⟨h0,_⟩| ⟨_,_,hlin,_,hl100,Sb,g,cap,rfl,hG⟩)⟩)
 ·omega
 ·exact absurd hR1 h0
 have hC:=Rf.ctx_of inp hR (hlin.lawful hl100)
 generalize (Rf.zBx s).2.2=ls at *
 generalize (Rt.rForms 0 (Rt.lines s) [Rt.zPL]).2.drop 1=ps at *
 obtain⟨hF0,D,hD,hDl,hP0⟩:=Rf.zO5 hC
 have HCC:=zB hC
 have HG:=zB (And.intro hG hb1)
 have HK:=zB (And.intro hS (And.intro hF0 hK0))
 have hin:(zA1 s pls inp).input=inp:=rfl
 generalize zA1 s pls inp=S at *
 clear hG hb1 hC hlin hS hF0 hK0 hR1 hR
 go_wp2_with fail
 refine(zQq _ Sb g cap D ls (Rf.zKh pls) (zA HG).1 (zA HCC).law (zA HCC).both.nested hD hDl (fun k hk=>(Rf.zN0 (zA HCC) hk).1) (fun k hk=>(Rf.zN0 (zA HCC) hk).2)).mono ?_
 rintro e w2 ⟨hb2,fv,vv,cv,ov,rfl,hW2⟩
 rw[←hP0]at hW2 ⊢
 obtain⟨_,_,fps,cps,hQ2⟩:=hW2
 obtain⟨xa,xc,ya,yc,za,zc,oa,oc,f1,f2,f3,f4⟩:=hQ2.zBp
 simp only at f1 f2 f3 f4
 subst f1 f2 f3 f4
 have hsz1:=(zA HG).2.size
 have hbw2:=(zA HG).2.trans (hb2.mono (B':=w.heap.size) hsz1)
 have HQ2:=zB (And.intro (hQ2.mono (B':=w.heap.size) hsz1) hbw2)
 have hG2:=(zA HG).1.zH hb2
 have HG2:=zB (And.intro hG2 hbw2)
 have hsz2:=hbw2.size
 clear hb2 hQ2 hbw2 hG2 hP0 hD
 unfold plA
 generalize Rt.firstM S=m0 at *
 have hb3:=(Below.refl w2.heap.size w2).alloc (Nat.le_refl _) (.cells (plA (.slice xa (Rf.zP pls m0).zD.length xc) (.slice ya (Rf.zP pls m0).vars.length yc) (.slice za (Rf.zP pls m0).cells.length zc) (.slice oa (Rf.zP pls m0).out.length oc) (Rf.zP pls m0)) 72)
 have hn3:=heap_alloc_new w2 (.cells (plA (.slice xa (Rf.zP pls m0).zD.length xc) (.slice ya (Rf.zP pls m0).vars.length yc) (.slice za (Rf.zP pls m0).cells.length zc) (.slice oa (Rf.zP pls m0).out.length oc) (Rf.zP pls m0)) 72)
 have HB3:=zB (And.intro hb3 (And.intro hn3 hsz2))
 clear hb3 hn3
 unfold plA at HB3
 go_wp2_with fail
 generalize (w2.alloc (.cells #[.slice xa (Rf.zP pls m0).zD.length xc,.slice ya (Rf.zP pls m0).vars.length yc,.slice za (Rf.zP pls m0).cells.length zc,.int .i64 (Rf.zP pls m0).read,.slice oa (Rf.zP pls m0).out.length oc,.int .i64 (Rf.zP pls m0).line,.int .i64 (Rf.zP pls m0).fin] 72))=w3 at *
 obtain⟨P,hP⟩:∃P,P=w2.heap.size:=⟨_,rfl⟩
 have hwP:w.heap.size≤P:=by omega
 rw[←hP]
 have hP2:=(zA HB3).2.1
 rw[←hP]at hP2
 have HB3:=zB (And.intro (zA HB3).1 (And.intro hP2 hsz2))
 clear hP hP2
 go_loopw [15] (fun i wr=>∃(k:Nat) (m:Rt.Mc) (X:PlX),k≤fuel∧i=.int .i64 k∧zAg wr Sb g cap ls∧PlQ wr w.heap.size (Rf.zP pls m) X∧wr.heap[P]?=some (.cells (plA X.fv X.vv X.cv X.ov (Rf.zP pls m)) 72 (0,0))∧Below w.heap.size w wr∧Rf.zGQ ps pls ls S m∧zET S m∧Rt.runM S fuel m0=((Rt.runM S (fuel-k) m).1,(Rt.runM S (fuel-k) m).2+k))
  (fun i _=>fuel+1-(intOf i).toNat)
 case atStart=>exact⟨0,m0,_,Nat.zero_le _,rfl,(zA HG2).1.zH (zA HB3).1,(zA HQ2).1.zH (zA HB3).1,(zA HB3).2.1,(zA HQ2).2.trans ((zA HB3).1.mono (B':=w.heap.size) (zA HB3).2.2),(zA HK).2.1,(zA HK).2.2,rfl⟩
 case round=>
  obtain⟨k,m,X,hk,rfl,hG,hQ,hblk,hbe,hF,hkm,hrun⟩:=hrel
  obtain⟨xa,xc,ya,yc,za,zc,oa,oc,f1,f2,f3,f4⟩:=hQ.zBp
  have hpa:plA X.fv X.vv X.cv X.ov (Rf.zP pls m)=#[.slice xa (Rf.zP pls m).zD.length xc,.slice ya (Rf.zP pls m).vars.length yc,.slice za (Rf.zP pls m).cells.length zc,.int .i64 (Rf.zP pls m).read,.slice oa (Rf.zP pls m).out.length oc,.int .i64 m.line,.int .i64 m.fin]:=by rw[f1,f2,f3,f4];rfl
  rw[hpa]at hblk
  have hEnv:=Rf.zDW (zA HCC) hF
  have hV:=hQ.val hEnv.ok.some (by have:=hEnv.ok.cells;omega)
  have hov:=hV.out
  rw[f4]at hov
  obtain⟨q0,q1,q2,q3,q4,q5,q6⟩:=seven hblk
  have zq:=zI hblk
  have HA:=zB (And.intro hbe (And.intro hblk (And.intro hov (And.intro hF hkm))))
  have hPlt:=zJ hblk
  have HRUN:=zB hrun
  by_cases hlt:k < fuel
  ·have hlt':(k:Int) < (fuel:Int):=by omega
   by_cases hz:m.fin=0
   ·have hz':(m.fin==0)=true:=by simpa using hz
    have HN:=zB (show Rt.runM S fuel m0=((Rt.runM S (fuel-(k+1)) (Rt.zAI S m).1).1,(Rt.runM S (fuel-(k+1)) (Rt.zAI S m).1).2+(k+1)) by
     rw[hrun,show fuel-k=(fuel-(k+1))+1 by omega,Rt.runM,if_pos hz]
     simp only[Prod.mk.injEq,true_and]
     omega)
    have hSt:=step_doc (zA HCC) hF hz hkm (by rw[hin];exact hl) wr Sb g cap (.slice iad inp.length icap) X.fv X.vv X.cv X.ov hG hV (by rw[hin];exact(zA HI).zH hbe)
    rw[hpa,hz]at hSt
    have HSt:=zB hSt
    have HG4:=zB hG
    clear hG hQ hbe hF hkm hrun hpa hEnv hV hov hSt f1 f2 f3 f4
    go_wp2_with fail
    refine(zA HSt).mono ?_
    rintro e w4 ⟨hb4,fv,vv,cv,ov,rfl,_,_,fps,cps,hQ4⟩
    obtain⟨ya1,yc1,yb1,yd1,ye1,yf1,yg1,yh1,f1,f2,f3,f4⟩:=hQ4.zBp
    simp only at f1 f2 f3 f4
    subst f1 f2 f3 f4
    have hP4:=zK (zA HA).2.1 hb4
    have hQ4':=hQ4.mono (B':=w.heap.size) (zA HA).1.size
    have hfin:=PlQ.w7 (w0:=w) hQ4' hP4 ((zA HA).1.trans (hb4.mono (B':=w.heap.size) (zA HA).1.size)) hwP (.slice ya1 (Rf.zP pls (Rt.zAI S m).1).zD.length yc1) (.slice yb1 (Rf.zP pls (Rt.zAI S m).1).vars.length yd1) (.slice ye1 (Rf.zP pls (Rt.zAI S m).1).cells.length yf1) (.int .i64 (Rf.zP pls (Rt.zAI S m).1).read) (.slice yg1 (Rf.zP pls (Rt.zAI S m).1).out.length yh1) (.int .i64 (Rf.zP pls (Rt.zAI S m).1).line) (.int .i64 (Rf.zP pls (Rt.zAI S m).1).fin)
    have hblk7:=W7_block hP4 (.slice ya1 (Rf.zP pls (Rt.zAI S m).1).zD.length yc1) (.slice yb1 (Rf.zP pls (Rt.zAI S m).1).vars.length yd1) (.slice ye1 (Rf.zP pls (Rt.zAI S m).1).cells.length yf1) (.int .i64 (Rf.zP pls (Rt.zAI S m).1).read) (.slice yg1 (Rf.zP pls (Rt.zAI S m).1).out.length yh1) (.int .i64 (Rf.zP pls (Rt.zAI S m).1).line) (.int .i64 (Rf.zP pls (Rt.zAI S m).1).fin)
    have hG7:=((zA HG4).zH hb4).aside7 hP4 (.slice ya1 (Rf.zP pls (Rt.zAI S m).1).zD.length yc1) (.slice yb1 (Rf.zP pls (Rt.zAI S m).1).vars.length yd1) (.slice ye1 (Rf.zP pls (Rt.zAI S m).1).cells.length yf1) (.int .i64 (Rf.zP pls (Rt.zAI S m).1).read) (.slice yg1 (Rf.zP pls (Rt.zAI S m).1).out.length yh1) (.int .i64 (Rf.zP pls (Rt.zAI S m).1).line) (.int .i64 (Rf.zP pls (Rt.zAI S m).1).fin)
    have HF:=zB (And.intro hG7 (And.intro hfin.1 (And.intro hblk7 (And.intro hfin.2 (And.intro (Rf.zQt (zA HCC) (zA HA).2.2.2.1 hz (by rw[hin];exact hl)) (zGk (zA HK).1 (zA HA).2.2.2.2))))))
    clear q0 q1 q2 q3 q4 q5 q6 zq
    obtain⟨q0,q1,q2,q3,q4,q5,q6⟩:=seven hP4
    have zq:=zI hP4
    clear hb4 hQ4 hQ4' hfin hblk7 hG7 hP4 hblk
    unfold plA
    generalize hP1:Rf.zP pls (Rt.zAI S m).1=P1 at *
    have HP1:=zB hP1
    clear hP1
    go_wp2_with fail
    go_roundw
    case rel=>
     obtain⟨g1,g2,g3,g4,g5,g6⟩:=zA HF
     exact⟨k+1,(Rt.zAI S m).1,⟨.slice ya1 P1.zD.length yc1,.slice yb1 P1.vars.length yd1,.slice ye1 P1.cells.length yf1,.slice yg1 P1.out.length yh1,fps,cps⟩,by omega,by go_num,g1,by rw[zA HP1];exact g2,by rw[zA HP1];exact g3,g4,g5,g6,zA HN⟩
    case measure=>simp[intOf];omega
   ·have hz':(m.fin==0)=false:=by simpa using hz
    have HE:=zB (show Rt.runM S fuel m0=(m,k) by
     rw[hrun,show fuel-k=(fuel-k-1)+1 by omega,Rt.runM,if_neg hz]
     simp)
    clear hG hQ hbe hF hkm hrun hpa hEnv hV hov f1 f2 f3 f4 hblk
    go_wp2_with fail
    go_region_held3 (fun w'=>w'.cell? ⟨P,6,none⟩=some (.int .i64 m.fin)∧w'.cell? ⟨P,4,none⟩=some (.slice oa (Rf.zP pls m).out.length oc)) (go_keep) (fail)
    go_wp2_with fail
    refine bodyPost_ret (v:=.tuple #[.int .i64 m.fin,.int .i64 k,.slice oa (Rf.zP pls m).out.length oc,.int .i64 0,.int .i64 0]) ?_ rfl ?_
    ·simp[results,Tryz.results27,go_sem]
    ·rw[zA HR,zA HE]
     exact⟨(zA HA).1.trans ((zS _).mono (zA HA).1.size),_,rfl,(zA HA).2.2.1.zH (zS _)⟩
  ·have hlt':¬(k:Int) < (fuel:Int):=by omega
   have HE:=zB (show Rt.runM S fuel m0=(m,k) by
    rw[hrun,show fuel-k=0 by omega,Rt.runM]
    simp)
   clear hG hQ hbe hF hkm hrun hpa hEnv hV hov f1 f2 f3 f4 hblk
   go_wp2_with fail
   go_region_held3 (fun w'=>w'.cell? ⟨P,6,none⟩=some (.int .i64 m.fin)∧w'.cell? ⟨P,4,none⟩=some (.slice oa (Rf.zP pls m).out.length oc)) (go_keep) (fail)
   go_wp2_with fail
   refine bodyPost_ret (v:=.tuple #[.int .i64 m.fin,.int .i64 k,.slice oa (Rf.zP pls m).out.length oc,.int .i64 0,.int .i64 0]) ?_ rfl ?_
   ·simp[results,Tryz.results27,go_sem]
   ·rw[zA HR,zA HE]
    exact⟨(zA HA).1.trans ((zS _).mono (zA HA).1.size),_,rfl,(zA HA).2.2.1.zH (zS _)⟩
theorem Run_ref (s:ByteArray) (iv:Value) (inp:List Int) (fuel:Int) (w:World) (hs:s.size≤maxLen) (hi:zBP w iv inp) :
  Calls Tryz.prog 27 #[.string s,iv,.int .i64 fuel] w (zFz (zGm s inp fuel) w):=by
 obtain⟨e1,e2,_⟩:=Rf.zME s
 by_cases hl:100 < inp.length
 ·exact zFq s iv inp fuel w hs hi _ 1 0 (by unfold zGm;rw[if_pos hl]) (Or.inl ⟨hl,rfl,rfl⟩)
 ·by_cases h0:(Rt.zAY s).1=0
  ·have hR:=Rt.zMD h0
   by_cases hf:fuel < 0∨1000 < fuel
   ·exact zNn s iv inp fuel w hs hi (by rw[←e1];exact h0) (by omega) hf _ (by unfold zGm;rw[if_neg hl,if_neg (not_not_intro h0),if_pos hf])
   ·obtain⟨n,hn⟩:∃n:Nat,fuel=(n:Int):=⟨fuel.toNat,by omega⟩
    subst hn
    exact zMb s iv inp n w _ hs hi hR (by omega) (by omega) _ (by unfold zGm;rw[if_neg hl,if_neg (not_not_intro h0),if_neg hf,Int.toNat_natCast])
  ·exact zFq s iv inp fuel w hs hi _ (Rt.zAY s).1 (Rt.zAY s).2.1 (by unfold zGm;rw[if_neg hl,if_pos h0]) (Or.inr ⟨by omega,h0,e1.symm,e2.symm⟩)
theorem zPS (S:Rt.Src):∀(k:Nat) (m:Rt.Mc),zET S m→Good S→(Rt.runM S k m).1.output.length≤50
 | 0,m,h,_=>h.out
 | k+1,m,h,hS=>by
  rw[Rt.runM]
  split
  ·exact zPS S k _ (zGk hS h) hS
  ·exact h.out
theorem runA_few (s:ByteArray) (l:List Int) (fuel:Int):(zGm s l fuel).out.length≤1000:=by
 unfold zGm
 split
 ·simp
 ·next h1=>
  split
  ·simp
  ·next h2=>
   split
   ·simp
   ·have hS:=zMY (inp:=l) (pls:=(Rt.zAY s).2.2) (s:=s) (Rt.zMD (Decidable.not_not.mp h2)) (by omega)
    have:=zPS _ fuel.toNat _ (zFn hS) hS
    simp only
    omega
theorem runs_as:zKp zGm:=⟨runA_few,fun s l fuel w v hs hi=>run_all s v l fuel w hs hi,fun s l fuel w v hs hi=>Run_ref s v l fuel w hs hi⟩
end Go.Proofs.YthleadfkfnnadaaGreat
