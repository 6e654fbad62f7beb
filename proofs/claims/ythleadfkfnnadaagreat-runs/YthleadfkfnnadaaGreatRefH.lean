/- The document's answer: lines with names that may stand there, continued. -/
import Derived.Test.YthleadfkfnnadaaGreatRefF
set_option maxHeartbeats 4000000
set_option maxRecDepth 100000
namespace Go.Proofs.YthleadfkfnnadaaGreat
open Go.RowKit
namespace Rf
def namesFrom (ls:List (List ByteArray)) (l:Nat) (t:List ByteArray):Nat→Nat→Bool
 | 0,_=>true
 | f+1,k=>zD1 ls l (at' t k) (cellAt t k) && namesFrom ls l t f (k+1)
def zPT (ls:List (List ByteArray)) (l:Nat) (t:List ByteArray):Bool:=
 decide (decl ls (at' t 1)=l+1) && !zGR (t.drop 2) && (!((at' t 1).toList==[109,97,105,110])|| decide (t.length=2))
def zA3 (ls:List (List ByteArray)) (l:Nat) (t:List ByteArray):Bool:=
 if ((first t).toList==[118,97,114])=true then decide (decl ls (at' t 1)=l+1)
 else if ((first t).toList==[97,114,114,97,121])=true then decide (decl ls (at' t 1)=l+1)
 else if ((first t).toList==[112,114,111,99])=true then zPT ls l t
 else if ((first t).toList==[99,97,108,108])=true then zDf ls t && namesFrom ls l t (t.length-2) 2
 else namesFrom ls l t (t.length-1) 1
end Rf
structure zMk (ls:List (List ByteArray)) (l:Nat) (hl:l < ls.length):Prop where
 home:Rf.zDb ls[l]=false→∀i (h:i < ls[l].length),Rf.zi ls[l][i]=true→0 < Rf.home ls (l+1)
 call:((Rf.first ls[l]).toList==[99,97,108,108])=true→2≤ls[l].length
theorem zJj (w:World) (S g cap:Nat) (ls:List (List ByteArray)) (l:Nat) (h:zAg w S g cap ls) (hL:Lawful ls) (hl:l < ls.length)
  (hz:((Rf.first ls[l]).toList==[118,97,114])=true∨(((Rf.first ls[l]).toList==[118,97,114])=false∧((Rf.first ls[l]).toList==[97,114,114,97,121])=true)) :
  Calls Tryz.prog 83 #[.pointer (some ⟨S,0,none⟩),.int .i64 ((l:Int)+1)] w fun e w'=>e=.returned (.bool (Rf.zA3 ls l ls[l]))∧Below w.heap.size w w':=by
 have hlen:=hL.len
 have HL:=zB hL
 have HH:=zB h
 have cT:=h.top
 obtain⟨ad,c,cR,hv⟩:=h.row l hl
 have h2:2≤ls[l].length:=hL.top _ (List.getElem_mem hl) (by unfold Rf.zDb;rcases hz with hz | ⟨_,hz⟩ <;> rw[hz] <;> simp)
 obtain⟨b,o,rfl⟩:=hv.zAM (by intro e;rw[e]at h2;simp at h2)
 have hl':(l:Int) < (ls.length:Int):=by omega
 have hw1:IntKind.i64.wrap ((l:Int)+1-1)=l:=by rw[show (l:Int)+1-1=(l:Int) by omega];exact IntWalk.i64_in _ ⟨by omega,by omega⟩
 have hw0:IntKind.i64.wrap (l:Int)=l:=IntWalk.i64_in _ ⟨by omega,by omega⟩
 have h1:1 < ls[l].length:=by omega
 have HC:Hid (∀w',zu w' (.slice (some ⟨b,o,none⟩) ls[l].length c) ls[l]→w'.cell? ⟨b,o+1,none⟩=some (.string ls[l][1])):=zB (by
  intro w' h
  obtain⟨b',o',cap',he,c0⟩:=h.cell h1
  simp at he
  obtain⟨⟨rfl,rfl⟩,rfl⟩:=he
  exact c0)
 have HV:=zB hv
 have HA:=zB (Rf.zAi h1)
 have hR:Rf.zA3 ls l ls[l]=decide (Rf.decl ls ls[l][1]=l+1):=by
  rw[←zA HA]
  rcases hz with hz | ⟨hz1,hz⟩
  ·rw[Rf.zA3,if_pos hz]
  ·rw[Rf.zA3,if_neg (by rw[hz1];simp),if_pos hz]
 have HR:=zB hR
 clear h hL hv HA hR
 generalize Rf.zA3 ls l ls[l]=R at *
 go_enter Tryz.func83,Tryz.ntmps83
 go_wp2_with fail
 refine(zAN _ S g cap ls l (zA HH) hl hlen).mono ?_
 rintro e w1 ⟨rfl,hb1⟩
 have HS1:=zB (And.intro ((zA HH).zH hb1) hb1)
 have cx:=zA HC _ ((zA HV).zH hb1)
 clear hb1 cT cR
 generalize ls[l][1]=x at *
 generalize Rf.first ls[l]=z at *
 have hnl:=Nat.lt_of_lt_of_le (show 1 < 2 by omega) h2
 have h1':(1:Int) < (ls[l].length:Int):=by omega
 rcases hz with hz | ⟨hz1,hz⟩
 all_goals
  go_wp2_with (go_at_call 84;refine(zAb _ S g cap ls x (zA HS1).1 (zA HL)).mono ?_;rintro e w2 ⟨rfl,hb2⟩;have HS2:=zB ((zA HS1).2.trans (hb2.mono (zA HS1).2.size));clear hb2)
  go_ret
  exact⟨by rw[zA HR];exact zj (by rw[Bool.eq_iff_iff];simp;omega),zA HS2⟩
theorem zOE (w:World) (S g cap:Nat) (ls:List (List ByteArray)) (l:Nat) (h:zAg w S g cap ls) (hL:Lawful ls) (hl:l < ls.length)
  (q1:((Rf.first ls[l]).toList==[118,97,114])=false) (q2:((Rf.first ls[l]).toList==[97,114,114,97,121])=false) (q3:((Rf.first ls[l]).toList==[112,114,111,99])=true) :
  Calls Tryz.prog 83 #[.pointer (some ⟨S,0,none⟩),.int .i64 ((l:Int)+1)] w fun e w'=>e=.returned (.bool (Rf.zA3 ls l ls[l]))∧Below w.heap.size w w':=by
 have hlen:=hL.len
 have HL:=zB hL
 have HH:=zB h
 have cT:=h.top
 have hf:=hL.zDN hl
 have hn1:=hf.1
 obtain⟨ad,c,cR,hv⟩:=h.row l hl
 have h2:2≤ls[l].length:=hL.top _ (List.getElem_mem hl) (by unfold Rf.zDb;rw[q3];simp)
 obtain⟨b,o,rfl⟩:=hv.zAM (by intro e;rw[e]at h2;simp at h2)
 obtain⟨ad',c',he,hcap⟩:=hv.form
 simp at he
 obtain⟨rfl,rfl⟩:=he
 have hl':(l:Int) < (ls.length:Int):=by omega
 have hw1:IntKind.i64.wrap ((l:Int)+1-1)=l:=by rw[show (l:Int)+1-1=(l:Int) by omega];exact IntWalk.i64_in _ ⟨by omega,by omega⟩
 have hw0:IntKind.i64.wrap (l:Int)=l:=IntWalk.i64_in _ ⟨by omega,by omega⟩
 have h1:1 < ls[l].length:=by omega
 have HC:Hid (∀w',zu w' (.slice (some ⟨b,o,none⟩) ls[l].length c) ls[l]→w'.cell? ⟨b,o+1,none⟩=some (.string ls[l][1])):=zB (by
  intro w' h
  obtain⟨b',o',cap',he,c0⟩:=h.cell h1
  simp at he
  obtain⟨⟨rfl,rfl⟩,rfl⟩:=he
  exact c0)
 have HV:=zB hv
 have HA:=zB (Rf.zAi h1)
 have hR:Rf.zA3 ls l ls[l]=(decide (Rf.decl ls ls[l][1]=l+1) && !Rf.zGR (ls[l].drop 2) && (!(ls[l][1].toList==[109,97,105,110])|| decide (ls[l].length=2))):=by
  rw[←zA HA]
  rw[Rf.zA3,if_neg (by rw[q1];simp),if_neg (by rw[q2];simp),if_pos q3,Rf.zPT]
 have HR:=zB hR
 clear h hL hv HA hR
 generalize Rf.zA3 ls l ls[l]=R at *
 go_enter Tryz.func83,Tryz.ntmps83
 go_wp2_with fail
 refine(zAN _ S g cap ls l (zA HH) hl hlen).mono ?_
 rintro e w1 ⟨rfl,hb1⟩
 have HS1:=zB (And.intro ((zA HH).zH hb1) hb1)
 have HV1:=zB ((zA HV).zH hb1)
 have cx:=zA HC _ (zA HV1)
 clear hb1 cT cR
 generalize ls[l][1]=x at *
 generalize Rf.first ls[l]=z at *
 generalize ls[l]=t at *
 have h1':(1:Int) < (t.length:Int):=by omega
 go_wp2_with (go_at_call 84;refine(zAb _ S g cap ls x (zA HS1).1 (zA HL)).mono ?_;rintro e w2 ⟨rfl,hb2⟩;have HV2:=zB ((zA HV1).zH hb2);have HS2:=zB ((zA HS1).2.trans (hb2.mono (zA HS1).2.size));clear hb2)
 all_goals
  refine(zPm _ _ (t.drop 2) (by first | exact zu.gone (by omega) (by omega)| exact(zA HV2).drop 2 _ _ rfl (by omega)) (by simp;omega)).mono ?_
  rintro e w3 ⟨rfl,hb3⟩
  have HS3:=zB ((zA HS2).trans (hb3.mono (zA HS2).size))
  have cy:=zA HC _ ((zA HV2).zH hb3)
  clear hb3 cx
  generalize Rf.zGR (t.drop 2)=tw at *
  by_cases hd:Rf.decl ls x=l+1
  ·have hd':((Rf.decl ls x:Int)==(l:Int)+1)=true:=by rw[beq_iff_eq];omega
   rw[decide_eq_true hd]at HR
   cases tw with
   | true=>
    go_wp2_with fail
    go_ret
    exact⟨by rw[zA HR];rfl,zA HS3⟩
   | false=>
    cases hm:(x.toList==[109,97,105,110])with
    | true=>
     rw[hm]at HR
     go_wp2_with fail
     all_goals
      go_ret
      exact⟨by rw[zA HR];exact zj (by rw[Bool.eq_iff_iff];simp;omega),zA HS3⟩
    | false=>
     rw[hm]at HR
     go_wp2_with fail
     all_goals
      go_ret
      exact⟨by rw[zA HR];rfl,zA HS3⟩
  ·have hd':((Rf.decl ls x:Int)==(l:Int)+1)=false:=by rw[beq_eq_false_iff_ne];omega
   rw[decide_eq_false hd]at HR
   go_wp2_with fail
   all_goals
    go_ret
    exact⟨by rw[zA HR];rfl,zA HS3⟩
theorem zJ1 (w:World) (S g cap:Nat) (ls:List (List ByteArray)) (l i:Nat) (t:List ByteArray) (h:zAg w S g cap ls) (hL:Lawful ls) (hl:l < ls.length) (ht:ls[l]=t) (hi:i < t.length) (hh:Rf.zi t[i]=true→0 < Rf.home ls (l+1)) :
  Calls Tryz.prog 142 #[.pointer (some ⟨S,0,none⟩),.int .i64 ((l:Int)+1),.int .i64 i] w fun e w'=>e=.returned (.bool (Rf.zD1 ls l t[i] (Rf.cellAt t i)))∧Below w.heap.size w w':=by
 subst ht
 exact zQR w S g cap ls l i h hL hl hi hh
theorem zMu (w:World) (S g cap:Nat) (ls:List (List ByteArray)) (l:Nat) (h:zAg w S g cap ls) (hL:Lawful ls) (hl:l < ls.length) (hok:zMk ls l hl)
  (q1:((Rf.first ls[l]).toList==[118,97,114])=false) (q2:((Rf.first ls[l]).toList==[97,114,114,97,121])=false) (q3:((Rf.first ls[l]).toList==[112,114,111,99])=false) (q4:((Rf.first ls[l]).toList==[99,97,108,108])=false) :
  Calls Tryz.prog 83 #[.pointer (some ⟨S,0,none⟩),.int .i64 ((l:Int)+1)] w fun e w'=>e=.returned (.bool (Rf.zA3 ls l ls[l]))∧Below w.heap.size w w':=by
 have hlen:=hL.len
 have HL:=zB hL
 have HH:=zB h
 have cT:=h.top
 have hf:=hL.zDN hl
 have hn1:=hf.1
 obtain⟨ad,c,cR,hv⟩:=h.row l hl
 have hl':(l:Int) < (ls.length:Int):=by omega
 have hw1:IntKind.i64.wrap ((l:Int)+1-1)=l:=by rw[show (l:Int)+1-1=(l:Int) by omega];exact IntWalk.i64_in _ ⟨by omega,by omega⟩
 have hw0:IntKind.i64.wrap (l:Int)=l:=IntWalk.i64_in _ ⟨by omega,by omega⟩
 have hhome:=hok.home (by unfold Rf.zDb;rw[q1,q2,q3];rfl)
 have HHo:=zB hhome
 have hR:Rf.zA3 ls l ls[l]=Rf.namesFrom ls l ls[l] (ls[l].length-1) 1:=by
  rw[Rf.zA3,if_neg (by rw[q1];simp),if_neg (by rw[q2];simp),if_neg (by rw[q3];simp),if_neg (by rw[q4];simp)]
 have HR:=zB hR
 have HAt:=zB (show ∀k (hk:k < ls[l].length),Rf.at' ls[l] k=ls[l][k]from fun k hk=>Rf.zAi hk)
 clear h hL hv hR hhome hok
 generalize Rf.zA3 ls l ls[l]=R at *
 go_enter Tryz.func83,Tryz.ntmps83
 go_wp2_with fail
 refine(zAN _ S g cap ls l (zA HH) hl hlen).mono ?_
 rintro e w1 ⟨rfl,hb1⟩
 have HS1:=zB (And.intro ((zA HH).zH hb1) hb1)
 clear hb1 cT cR
 have HQ:=zB (And.intro q1 (And.intro q2 (And.intro q3 q4)))
 generalize Rf.first ls[l]=z at *
 go_wp2_with fail
 generalize hTT:ls[l]=t at *
 have HTT:=zB hTT
 clear hTT
 go_loopw [10] (fun i wr=>∃k f:Nat,1≤k∧(k+f=t.length∨(f=0∧t.length≤k))∧k≤1000∧i=.int .i64 k∧Rf.namesFrom ls l t f k=R∧zAg wr S g cap ls∧Below w.heap.size w wr) (fun i _=>t.length-(intOf i).toNat)
 case atStart=>exact⟨1,t.length-1,Nat.le_refl _,by omega,by omega,rfl,(zA HR).symm,(zA HS1).1,(zA HS1).2⟩
 case round=>
  obtain⟨k,f,hk0,hk,hk1,rfl,hT,hs,hbe⟩:=hrel
  have HS:=zB (And.intro hs hbe)
  have HT:=zB hT
  clear hs hbe hT
  cases f with
  | zero=>
   have hlt:¬(k:Int) < (t.length:Int):=by omega
   go_wp2_with fail
   go_ret
   exact⟨by rw[←zA HT];rfl,(zA HS).2⟩
  | succ f=>
   have hlt:k < t.length:=by omega
   have hlt':(k:Int) < (t.length:Int):=by omega
   rw[Rf.namesFrom,zA HAt k hlt]at HT
   go_wp2_with fail
   refine(zJ1 _ S g cap ls l k t (zA HS).1 (zA HL) hl (zA HTT) hlt (zA HHo k hlt)).mono ?_
   rintro e w2 ⟨rfl,hb2⟩
   have HS2:=zB (And.intro ((zA HS).1.zH hb2) ((zA HS).2.trans (hb2.mono (zA HS).2.size)))
   clear hb2
   cases hz:Rf.zD1 ls l t[k] (Rf.cellAt t k)with
   | false=>
    rw[hz]at HT
    go_wp2_with fail
    go_ret
    exact⟨by rw[←zA HT];rfl,(zA HS2).2⟩
   | true=>
    rw[hz,Bool.true_and]at HT
    go_wp2_with fail
    go_roundw
    case rel=>exact⟨k+1,f,by omega,by omega,by omega,by go_num,zA HT,(zA HS2).1,(zA HS2).2⟩
    case measure=>simp[intOf];omega
theorem zOF (w:World) (S g cap:Nat) (ls:List (List ByteArray)) (l:Nat) (h:zAg w S g cap ls) (hL:Lawful ls) (hl:l < ls.length) (hok:zMk ls l hl)
  (q1:((Rf.first ls[l]).toList==[118,97,114])=false) (q2:((Rf.first ls[l]).toList==[97,114,114,97,121])=false) (q3:((Rf.first ls[l]).toList==[112,114,111,99])=false) (q4:((Rf.first ls[l]).toList==[99,97,108,108])=true) :
  Calls Tryz.prog 83 #[.pointer (some ⟨S,0,none⟩),.int .i64 ((l:Int)+1)] w fun e w'=>e=.returned (.bool (Rf.zA3 ls l ls[l]))∧Below w.heap.size w w':=by
 have hlen:=hL.len
 have HL:=zB hL
 have HH:=zB h
 have cT:=h.top
 have hf:=hL.zDN hl
 have hn1:=hf.1
 obtain⟨ad,c,cR,hv⟩:=h.row l hl
 have hl':(l:Int) < (ls.length:Int):=by omega
 have hw1:IntKind.i64.wrap ((l:Int)+1-1)=l:=by rw[show (l:Int)+1-1=(l:Int) by omega];exact IntWalk.i64_in _ ⟨by omega,by omega⟩
 have hw0:IntKind.i64.wrap (l:Int)=l:=IntWalk.i64_in _ ⟨by omega,by omega⟩
 have h2:=hok.call q4
 have hhome:=hok.home (by unfold Rf.zDb;rw[q1,q2,q3];rfl)
 have HHo:=zB hhome
 have hR:Rf.zA3 ls l ls[l]=(Rf.zDf ls ls[l] && Rf.namesFrom ls l ls[l] (ls[l].length-2) 2):=by
  rw[Rf.zA3,if_neg (by rw[q1];simp),if_neg (by rw[q2];simp),if_neg (by rw[q3];simp),if_pos q4]
 have HR:=zB hR
 have HAt:=zB (show ∀k (hk:k < ls[l].length),Rf.at' ls[l] k=ls[l][k]from fun k hk=>Rf.zAi hk)
 clear h hL hv hR hhome hok
 generalize Rf.zA3 ls l ls[l]=R at *
 go_enter Tryz.func83,Tryz.ntmps83
 go_wp2_with fail
 refine(zAN _ S g cap ls l (zA HH) hl hlen).mono ?_
 rintro e w1 ⟨rfl,hb1⟩
 have HS1:=zB (And.intro ((zA HH).zH hb1) hb1)
 clear hb1 cT cR
 have HQ:=zB (And.intro q1 (And.intro q2 (And.intro q3 q4)))
 generalize Rf.first ls[l]=z at *
 have HH2:=zB h2
 go_wp2_with fail
 refine(zPD _ S g cap ls l (zA HS1).1 (zA HL) hl (zA HH2)).mono ?_
 rintro e w2 ⟨rfl,hb2⟩
 have HS2:=zB (And.intro ((zA HS1).1.zH hb2) ((zA HS1).2.trans (hb2.mono (zA HS1).2.size)))
 clear hb2
 cases hc:Rf.zDf ls ls[l]with
 | false=>
 rw[hc]at HR
 go_wp2_with fail
 go_ret
 exact⟨by rw[zA HR];rfl,(zA HS2).2⟩
 | true=>
 rw[hc,Bool.true_and]at HR
 clear hc
 go_wp2_with fail
 generalize hTT:ls[l]=t at *
 have HTT:=zB hTT
 clear hTT
 go_loopw [10] (fun i wr=>∃k f:Nat,2≤k∧(k+f=t.length∨(f=0∧t.length≤k))∧k≤1000∧i=.int .i64 k∧Rf.namesFrom ls l t f k=R∧zAg wr S g cap ls∧Below w.heap.size w wr) (fun i _=>t.length-(intOf i).toNat)
 case atStart=>exact⟨2,t.length-2,Nat.le_refl _,by omega,by omega,rfl,(zA HR).symm,(zA HS2).1,(zA HS2).2⟩
 case round=>
  obtain⟨k,f,hk0,hk,hk1,rfl,hT,hs,hbe⟩:=hrel
  have HS:=zB (And.intro hs hbe)
  have HT:=zB hT
  clear hs hbe hT
  cases f with
  | zero=>
   have hlt:¬(k:Int) < (t.length:Int):=by omega
   go_wp2_with fail
   go_ret
   exact⟨by rw[←zA HT];rfl,(zA HS).2⟩
  | succ f=>
   have hlt:k < t.length:=by omega
   have hlt':(k:Int) < (t.length:Int):=by omega
   rw[Rf.namesFrom,zA HAt k hlt]at HT
   go_wp2_with fail
   refine(zJ1 _ S g cap ls l k t (zA HS).1 (zA HL) hl (zA HTT) hlt (zA HHo k hlt)).mono ?_
   rintro e w3 ⟨rfl,hb3⟩
   have HS3:=zB (And.intro ((zA HS).1.zH hb3) ((zA HS).2.trans (hb3.mono (zA HS).2.size)))
   clear hb3
   cases hz:Rf.zD1 ls l t[k] (Rf.cellAt t k)with
   | false=>
    rw[hz]at HT
    go_wp2_with fail
    go_ret
    exact⟨by rw[←zA HT];rfl,(zA HS3).2⟩
   | true=>
    rw[hz,Bool.true_and]at HT
    go_wp2_with fail
    go_roundw
    case rel=>exact⟨k+1,f,by omega,by omega,by omega,by go_num,zA HT,(zA HS3).1,(zA HS3).2⟩
    case measure=>simp[intOf];omega
theorem zP2 (w:World) (S g cap:Nat) (ls:List (List ByteArray)) (l:Nat) (h:zAg w S g cap ls) (hL:Lawful ls) (hl:l < ls.length) (hok:zMk ls l hl) :
  Calls Tryz.prog 83 #[.pointer (some ⟨S,0,none⟩),.int .i64 ((l:Int)+1)] w fun e w'=>e=.returned (.bool (Rf.zA3 ls l ls[l]))∧Below w.heap.size w w':=by
 by_cases q1:((Rf.first ls[l]).toList==[118,97,114])=true
 ·exact zJj w S g cap ls l h hL hl (Or.inl q1)
 replace q1:=Bool.eq_false_iff.mpr q1
 by_cases q2:((Rf.first ls[l]).toList==[97,114,114,97,121])=true
 ·exact zJj w S g cap ls l h hL hl (Or.inr ⟨q1,q2⟩)
 replace q2:=Bool.eq_false_iff.mpr q2
 by_cases q3:((Rf.first ls[l]).toList==[112,114,111,99])=true
 ·exact zOE w S g cap ls l h hL hl q1 q2 q3
 replace q3:=Bool.eq_false_iff.mpr q3
 by_cases q4:((Rf.first ls[l]).toList==[99,97,108,108])=true
 ·exact zOF w S g cap ls l h hL hl hok q1 q2 q3 q4
 exact zMu w S g cap ls l h hL hl hok q1 q2 q3 (Bool.eq_false_iff.mpr q4)
end Go.Proofs.YthleadfkfnnadaaGreat
