/- The document's answer: calls that fit. -/
import Derived.Test.YthleadfkfnnadaaGreatRefB5
set_option maxHeartbeats 4000000
set_option maxRecDepth 100000
namespace Go.Proofs.YthleadfkfnnadaaGreat
open Go.RowKit
theorem zOx (t:List ByteArray) (hf:Few t):zBi 81 Rf.zx t:=by
 by_cases h0:0 < t.length
 ·by_cases e0:(t[0].toList==[101,110,100])=true
  ·exact isLine_0 t hf h0  e0
  replace e0:=Bool.eq_false_iff.mpr e0
  by_cases e1:(t[0].toList==[101,108,115,101])=true
  ·exact isLine_1 t hf h0 e0 e1
  replace e1:=Bool.eq_false_iff.mpr e1
  by_cases e2:(t[0].toList==[114,101,116,117,114,110])=true
  ·exact isLine_2 t hf h0 e0 e1 e2
  replace e2:=Bool.eq_false_iff.mpr e2
  by_cases e3:(t[0].toList==[118,97,114])=true
  ·exact isLine_3 t hf h0 e0 e1 e2 e3
  replace e3:=Bool.eq_false_iff.mpr e3
  by_cases e4:(t[0].toList==[114,101,97,100])=true
  ·exact isLine_4 t hf h0 e0 e1 e2 e3 e4
  replace e4:=Bool.eq_false_iff.mpr e4
  by_cases e5:(t[0].toList==[112,114,111,99])=true
  ·exact isLine_5 t hf h0 e0 e1 e2 e3 e4 e5
  replace e5:=Bool.eq_false_iff.mpr e5
  by_cases e6:(t[0].toList==[105,102])=true
  ·exact isLine_6 t hf h0 e0 e1 e2 e3 e4 e5 e6
  replace e6:=Bool.eq_false_iff.mpr e6
  by_cases e7:(t[0].toList==[119,104,105,108,101])=true
  ·exact isLine_7 t hf h0 e0 e1 e2 e3 e4 e5 e6 e7
  replace e7:=Bool.eq_false_iff.mpr e7
  by_cases e8:(t[0].toList==[112,114,105,110,116])=true
  ·exact isLine_8 t hf h0 e0 e1 e2 e3 e4 e5 e6 e7 e8
  replace e8:=Bool.eq_false_iff.mpr e8
  by_cases e9:(t[0].toList==[115,101,116])=true
  ·exact isLine_9 t hf h0 e0 e1 e2 e3 e4 e5 e6 e7 e8 e9
  replace e9:=Bool.eq_false_iff.mpr e9
  by_cases e10:(t[0].toList==[99,97,108,108])=true
  ·exact zQh t hf h0 e0 e1 e2 e3 e4 e5 e6 e7 e8 e9 e10
  replace e10:=Bool.eq_false_iff.mpr e10
  by_cases e11:(t[0].toList==[97,114,114,97,121])=true
  ·exact zQg t hf h0 e0 e1 e2 e3 e4 e5 e6 e7 e8 e9 e10 e11
  replace e11:=Bool.eq_false_iff.mpr e11
  exact zQf t hf h0 e0 e1 e2 e3 e4 e5 e6 e7 e8 e9 e10 e11
 ·intro w v hv
  have hl:=hf.1
  obtain⟨ad,cap,rfl,hcap⟩:=hv.form
  have hz:t.length=0:=by omega
  have HE:=zB (show Rf.zx t=true by rw[Rf.zx,if_pos hz])
  have hz':((t.length:Int)==0)=true:=by rw[beq_iff_eq];omega
  go_enter Tryz.func81,Tryz.ntmps81
  go_wp2_with fail
  go_ret
  exact⟨by rw[zA HE];rfl,Below.refl _ _⟩
def STy (t:TypeId):Prop:=t=85∨t=87∨t=9
def zFy (w:World) (k:Nat) (t:TypeId):Prop:=∃c,w.heap[k]?=some (.cells c t (0,0))
structure zAg (w:World) (S g cap:Nat) (ls:List (List ByteArray)):Prop where
 top:w.cell? ⟨S,0,none⟩=some (.slice (some ⟨g,0,none⟩) ls.length cap)
 row:∀l (h:l < ls.length),∃ad c,w.cell? ⟨g,l,none⟩=some (.slice ad ls[l].length c)∧zu w (.slice ad ls[l].length c) ls[l]
 ty:zFy w S 85∧zFy w g 87
 tys:∀l v,w.cell? ⟨g,l,none⟩=some v→l < ls.length→∀b,v.ownBlock=some b→zFy w b 9
theorem zDp {w w':World} {k i:Nat} (h:w'.heap[k]?=w.heap[k]?):w'.cell? ⟨k,i,none⟩=w.cell? ⟨k,i,none⟩:=by
 unfold World.cell?
 simp only
 rw[h]
theorem zAg.stay {w w':World} {S g cap:Nat} {ls:List (List ByteArray)} (h:zAg w S g cap ls) (hb:∀k t,STy t→zFy w k t→w'.heap[k]?=w.heap[k]?):zAg w' S g cap ls:=by
 have hS:=hb S _ (Or.inl rfl) h.ty.1
 have hg:=hb g _ (Or.inr (Or.inl rfl)) h.ty.2
 refine⟨by rw[zDp hS];exact h.top,fun l hl=>?_,⟨by unfold zFy;rw[hS];exact h.ty.1,by unfold zFy;rw[hg];exact h.ty.2⟩,fun l v hv hl b hbb=>?_⟩
 ·obtain⟨ad,c,h1,ad',c',e,hle,h2⟩:=h.row l hl
  refine⟨ad,c,by rw[zDp hg];exact h1,ad',c',e,hle,?_⟩
  rcases h2 with h2 | ⟨b,o,rfl,h2⟩
  ·exact Or.inl h2
  ·injection e with e1 _ _
   subst e1
   have:=hb b _ (Or.inr (Or.inr rfl)) (h.tys l _ h1 hl b rfl)
   exact Or.inr ⟨b,o,rfl,fun j hj=>by rw[zDp this];exact h2 j hj⟩
 ·rw[zDp hg]at hv
  have ht:=h.tys l v hv hl b hbb
  unfold zFy
  rw[hb b _ (Or.inr (Or.inr rfl)) ht]
  exact ht
theorem zAg.zH {w w':World} {S g cap:Nat} {ls:List (List ByteArray)} (h:zAg w S g cap ls) (hb:Below w.heap.size w w'):zAg w' S g cap ls:=
 h.stay (fun k _ _ ⟨_,hc⟩=>hb.block k (zJ hc))
structure Lawful (ls:List (List ByteArray)):Prop where
 len:ls.length≤100
 few:∀t∈ls,Few t
 top:∀t∈ls,Rf.zDb t=true→2≤t.length
theorem Lawful.zDN {ls:List (List ByteArray)} (h:Lawful ls) {l:Nat} (hl:l < ls.length):Few ls[l]:=h.few _ (List.getElem_mem hl)
theorem zAN (w:World) (S g cap:Nat) (ls:List (List ByteArray)) (l:Nat) (h:zAg w S g cap ls) (hl:l < ls.length) (hL:ls.length≤100) :
  Calls Tryz.prog 45 #[.pointer (some ⟨S,0,none⟩),.int .i64 ((l:Int)+1)] w fun e w'=>e=.returned (.string (Rf.first ls[l]))∧Below w.heap.size w w':=by
 have cT:=h.top
 obtain⟨ad,c,cR,hv⟩:=h.row l hl
 have hl':(l:Int) < (ls.length:Int):=by omega
 have hw1:IntKind.i64.wrap ((l:Int)+1-1)=l:=by rw[show (l:Int)+1-1=(l:Int) by omega];exact IntWalk.i64_in _ ⟨by omega,by omega⟩
 have hw0:IntKind.i64.wrap (l:Int)=l:=IntWalk.i64_in _ ⟨by omega,by omega⟩
 clear h
 by_cases hz:ls[l].length=0
 ·have HE:=zB (Rf.zQr hz)
  have hz':((ls[l].length:Int)==0)=true:=by rw[beq_iff_eq];omega
  clear hv
  generalize ls[l]=t at *
  go_enter Tryz.func45,Tryz.ntmps45
  go_wp2_with fail
  go_ret
  exact⟨by rw[zA HE];rfl,Below.refl _ _⟩
 ·have h0:0 < ls[l].length:=by omega
  have HE:=zB (Rf.zKJ h0)
  have hz':((ls[l].length:Int)==0)=false:=by rw[beq_eq_false_iff_ne];omega
  obtain⟨b,o,cap',he,cx⟩:=hv.cell h0
  simp at he
  obtain⟨rfl,rfl⟩:=he
  rw[zA HE]
  rw[Nat.add_zero]at cx
  clear hv HE
  generalize ls[l][0]=x at *
  generalize ls[l]=t at *
  have h0':(0:Int) < (t.length:Int):=by omega
  go_enter Tryz.func45,Tryz.ntmps45
  go_wp2_with fail
  go_ret
  exact⟨rfl,Below.refl _ _⟩
namespace Rf
theorem zPn (t:List ByteArray):(zDb t=true∧(((first t).toList==[118,97,114])=true∨(((first t).toList==[118,97,114])=false∧((first t).toList==[97,114,114,97,121])=true)∨(((first t).toList==[118,97,114])=false∧((first t).toList==[97,114,114,97,121])=false∧((first t).toList==[112,114,111,99])=true)))∨
  (zDb t=false∧((first t).toList==[118,97,114])=false∧((first t).toList==[97,114,114,97,121])=false∧((first t).toList==[112,114,111,99])=false):=by
 unfold zDb
 cases ((first t).toList==[118,97,114]) <;> cases ((first t).toList==[97,114,114,97,121]) <;> cases ((first t).toList==[112,114,111,99]) <;> simp
theorem zK6 {ls:List (List ByteArray)} {x:ByteArray} {k:Nat} (h:k < ls.length):declFrom (k+1) (ls.drop k) x=if zFu ls[k] x=true then k+1 else declFrom (k+1+1) (ls.drop (k+1)) x:=by
 rw[List.drop_eq_getElem_cons h,declFrom]
end Rf
theorem zLR (w:World) (S g cap:Nat) (ls:List (List ByteArray)) (l:Nat) (h:zAg w S g cap ls) (hl:l < ls.length) (hL:ls.length≤100) :
  Calls Tryz.prog 46 #[.pointer (some ⟨S,0,none⟩),.int .i64 ((l:Int)+1)] w fun e w'=>e=.returned (.bool (Rf.zBN ls[l]))∧Below w.heap.size w w':=by
 have HH:=zB h
 clear h
 go_enter Tryz.func46,Tryz.ntmps46
 go_wp2_with fail
 refine(zAN _ S g cap ls l (zA HH) hl hL).mono ?_
 rintro e w1 ⟨rfl,hb1⟩
 have HB:=zB hb1
 have HE:=zB (show Rf.zBN ls[l]=(((Rf.first ls[l]).toList==[112,114,111,99])|| ((Rf.first ls[l]).toList==[105,102])|| ((Rf.first ls[l]).toList==[119,104,105,108,101]))from rfl)
 clear hb1
 generalize Rf.first ls[l]=x at *
 go_wp2_with fail
 all_goals
  go_ret
  exact⟨by rw[zA HE];exact zj (by simp_all),zA HB⟩
theorem zAb (w:World) (S g cap:Nat) (ls:List (List ByteArray)) (x:ByteArray) (h:zAg w S g cap ls) (hL:Lawful ls) :
  Calls Tryz.prog 84 #[.pointer (some ⟨S,0,none⟩),.string x] w fun e w'=>e=.returned (.int .i64 (Rf.decl ls x))∧Below w.heap.size w w':=by
 have hlen:=hL.len
 have HL:=zB hL
 clear hL
 have cT:=h.top
 go_enter Tryz.func84,Tryz.ntmps84
 go_wp2
 go_loopw [5] (fun i wr=>∃k:Nat,k≤ls.length∧i=.int .i64 ((k:Int)+1)∧Rf.declFrom (k+1) (ls.drop k) x=Rf.decl ls x∧zAg wr S g cap ls∧Below w.heap.size w wr) (fun i _=>ls.length+1-(intOf i).toNat)
 case atStart=>exact⟨0,Nat.zero_le _,rfl,rfl,h,Below.refl _ _⟩
 case round=>
  clear cT h
  obtain⟨k,hk,rfl,hT,hs,hbe⟩:=hrel
  have cT:=hs.top
  have HS:=zB (And.intro hs hbe)
  by_cases hlt:k < ls.length
  ·have hlt':(k:Int)+1≤(ls.length:Int):=by omega
   rw[Rf.zK6 hlt]at hT
   have HT:=zB hT
   clear hT hs hbe
   go_wp2_with fail
   refine(zAN _ S g cap ls k (zA HS).1 hlt hlen).mono ?_
   rintro e w1 ⟨rfl,hb1⟩
   have HS1:=zB (And.intro ((zA HS).1.zH hb1) ((zA HS).2.trans (hb1.mono (zA HS).2.size)))
   clear hb1 cT
   have cT:=(zA HS1).1.top
   obtain⟨ad,c,cR,hv⟩:=(zA HS1).1.row k hlt
   have hw1:IntKind.i64.wrap ((k:Int)+1-1)=k:=by rw[show (k:Int)+1-1=(k:Int) by omega];exact IntWalk.i64_in _ ⟨by omega,by omega⟩
   have hw0:IntKind.i64.wrap (k:Int)=k:=IntWalk.i64_in _ ⟨by omega,by omega⟩
   have hkl:(k:Int) < (ls.length:Int):=by omega
   rcases Rf.zPn ls[k]with⟨ht,hc⟩| ⟨ht,c1,c2,c3⟩
   ·have h2:=(zA HL).top _ (List.getElem_mem hlt) ht
    obtain⟨b,o,cap',he,cx⟩:=hv.cell (j:=1) (by omega)
    simp at he
    obtain⟨rfl,rfl⟩:=he
    have HD:=zB (show Rf.zFu ls[k] x=(ls[k][1].toList==x.toList) by rw[Rf.zFu,ht,Rf.zAi (by omega)];rfl)
    rw[zA HD]at HT
    clear HD hv ht
    generalize ls[k][1]=y at *
    generalize Rf.first ls[k]=z at *
    generalize ls[k].length=n at *
    cases hd:(y.toList==x.toList)with
    | true=>
     rw[hd,if_pos rfl]at HT
     rcases hc with hc | ⟨hc1,hc⟩| ⟨hc1,hc2,hc⟩
     all_goals
      go_wp2_with fail
      go_ret
      exact⟨by rw[←zA HT];rfl,(zA HS1).2⟩
    | false=>
     rw[hd,if_neg (by decide)]at HT
     rcases hc with hc | ⟨hc1,hc⟩| ⟨hc1,hc2,hc⟩
     all_goals
      go_wp2_with fail
      go_roundw
      case rel=>exact⟨k+1,by omega,by go_num,zA HT,(zA HS1).1,(zA HS1).2⟩
      case measure=>simp[intOf];omega
   ·have HD:=zB (show Rf.zFu ls[k] x=false by rw[Rf.zFu,ht];rfl)
    rw[zA HD,if_neg (by decide)]at HT
    clear HD hv ht
    generalize Rf.first ls[k]=z at *
    go_wp2_with fail
    go_roundw
    case rel=>exact⟨k+1,by omega,by go_num,zA HT,(zA HS1).1,(zA HS1).2⟩
    case measure=>simp[intOf];omega
  ·have hlt':¬(k:Int)+1≤(ls.length:Int):=by omega
   rw[List.drop_eq_nil_of_le (by omega),Rf.declFrom]at hT
   have HT:=zB hT
   clear hT
   go_wp2_with fail
   go_ret
   exact⟨by rw[←zA HT];rfl,hbe⟩
namespace Rf
def twiceFrom (l:List ByteArray):Nat→Nat→Bool
 | 0,_=>false
 | f+1,k=>inB (l.take k) (at' l k)|| twiceFrom l f (k+1)
def zGR (l:List ByteArray):Bool:=twiceFrom l l.length 0
theorem zDn (ls:List (List ByteArray)) (n:Nat):home ls (n+1)=if ((first (zAA ls n)).toList==[112,114,111,99])=true then n+1 else home ls n:=rfl
theorem zO0 (ls:List (List ByteArray)):∀n,home ls n≤n
 | 0=>Nat.le_refl _
 | n+1=>by
  have:=zO0 ls n
  rw[zDn];split <;> omega
end Rf
theorem home_ref (w:World) (S g cap:Nat) (ls:List (List ByteArray)) (l:Nat) (h:zAg w S g cap ls) (hl:l≤ls.length) (hlen:ls.length≤100) :
  Calls Tryz.prog 179 #[.pointer (some ⟨S,0,none⟩),.int .i64 l] w fun e w'=>e=.returned (.int .i64 (Rf.home ls l))∧Below w.heap.size w w':=by
 have HN:=zB h
 clear h
 go_enter Tryz.func179,Tryz.ntmps179
 go_wp2
 go_loopw [5] (fun i wr=>∃k:Nat,k≤ls.length∧i=.int .i64 k∧Rf.home ls k=Rf.home ls l∧zAg wr S g cap ls∧Below w.heap.size w wr) (fun i _=>(intOf i).toNat)
 case atStart=>exact⟨l,hl,rfl,rfl,zA HN,Below.refl _ _⟩
 case round=>
  obtain⟨k,hk,rfl,hT,hs,hbe⟩:=hrel
  have HS:=zB (And.intro hs hbe)
  have HT:=zB hT
  clear hs hbe hT
  cases k with
  | zero=>
   go_wp2_with fail
   go_ret
   exact⟨by rw[←zA HT];rfl,(zA HS).2⟩
  | succ k=>
   have hlt:k < ls.length:=by omega
   rw[Rf.zDn,Rf.zr hlt]at HT
   have hpos:(0:Int) < (k:Int)+1:=by omega
   rw[show ((k+1:Nat):Int)=(k:Int)+1 by omega]
   go_wp2_with fail
   refine(zAN _ S g cap ls k (zA HS).1 hlt hlen).mono ?_
   rintro e w1 ⟨rfl,hb1⟩
   have HS1:=zB (And.intro ((zA HS).1.zH hb1) ((zA HS).2.trans (hb1.mono (zA HS).2.size)))
   clear hb1
   generalize Rf.first ls[k]=z at *
   cases hz:(z.toList==[112,114,111,99])with
   | true=>
    rw[hz,if_pos rfl]at HT
    go_wp2_with fail
    go_ret
    exact⟨by rw[←zA HT];rfl,(zA HS1).2⟩
   | false=>
    rw[hz,if_neg (by decide)]at HT
    go_wp2_with fail
    go_roundw
    case rel=>exact⟨k,by omega,by go_num,zA HT,(zA HS1).1,(zA HS1).2⟩
    case measure=>simp[intOf]
theorem zEy (w:World) (S g cap:Nat) (ls:List (List ByteArray)) (l:Nat) (h:zAg w S g cap ls) (hl:l < ls.length) (hlen:ls.length≤100) (h2:2≤ls[l].length) (hf:ls[l].length≤1000) :
  Calls Tryz.prog 117 #[.pointer (some ⟨S,0,none⟩),.int .i64 ((l:Int)+1)] w fun e w'=>∃v,e=.returned v∧zu w' v (ls[l].drop 2)∧Below w.heap.size w w':=by
 have cT:=h.top
 obtain⟨ad,c,cR,hv⟩:=h.row l hl
 obtain⟨b,o,rfl⟩:=hv.zAM (by intro e;rw[e]at h2;simp at h2)
 have hl':(l:Int) < (ls.length:Int):=by omega
 have hw1:IntKind.i64.wrap ((l:Int)+1-1)=l:=by rw[show (l:Int)+1-1=(l:Int) by omega];exact IntWalk.i64_in _ ⟨by omega,by omega⟩
 have hw0:IntKind.i64.wrap (l:Int)=l:=IntWalk.i64_in _ ⟨by omega,by omega⟩
 obtain⟨ad',c',he,hcap⟩:=hv.form
 simp at he
 obtain⟨rfl,rfl⟩:=he
 have HV:=zB hv
 clear h hv
 generalize ls[l]=t at *
 go_enter Tryz.func117,Tryz.ntmps117
 go_wp2_with fail
 all_goals
  go_ret
  exact⟨_,rfl,by first | exact zu.gone (by omega) rfl | exact(zA HV).drop 2 _ _ rfl (by omega),Below.refl _ _⟩
theorem zPm (w:World) (v:Value) (t:List ByteArray) (hv:zu w v t) (hl:t.length≤1000) :
  Calls Tryz.prog 140 #[v] w fun e w'=>e=.returned (.bool (Rf.zGR t))∧Below w.heap.size w w':=by
 obtain⟨ad,cap,rfl,hcap⟩:=hv.form
 have HN:=zB hv
 clear hv
 go_enter Tryz.func140,Tryz.ntmps140
 go_wp2
 go_loopw [3] (fun i wr=>∃k f:Nat,k+f=t.length∧i=.int .i64 k∧Rf.twiceFrom t f k=Rf.zGR t∧zu wr (.slice ad t.length cap) t∧Below w.heap.size w wr) (fun i _=>t.length-(intOf i).toNat)
 case atStart=>exact⟨0,t.length,by omega,rfl,rfl,zA HN,Below.refl _ _⟩
 case round=>
  obtain⟨k,f,hk,rfl,hT,hs,hbe⟩:=hrel
  have HS:=zB (And.intro hs hbe)
  have HT:=zB hT
  clear hbe hT
  cases f with
  | zero=>
   have hlt:¬(k:Int) < (t.length:Int):=by omega
   go_wp2_with fail
   go_ret
   exact⟨by rw[←zA HT];rfl,(zA HS).2⟩
  | succ f=>
   have hlt:k < t.length:=by omega
   have hlt':(k:Int) < (t.length:Int):=by omega
   obtain⟨b,o,cap',he,cx⟩:=hs.cell hlt
   simp at he
   obtain⟨rfl,rfl⟩:=he
   rw[Rf.twiceFrom,Rf.zAi hlt]at HT
   clear hs
   generalize t[k]=x at *
   have k0:(0:Int)≤(k:Int):=by omega
   have kc:(k:Int)≤(cap:Int):=by omega
   go_wp2_with fail
   go_region_with
    ((go_at_call 132;refine(zIK _ _ (t.take k) x (((zA HS).1.take k cap (by omega) (by omega)).zH (zS _)) (by simp;omega)).mono ?_;rintro e w1 ⟨rfl,rfl⟩))
   all_goals
    have HS1:=zB (And.intro ((zA HS).1.zH (zS _)) ((zA HS).2.trans ((zS _).mono (zA HS).2.size)))
    cases hz:Rf.inB (t.take k) x with
    | true=>
     rw[hz]at HT
     go_wp2_with fail
     go_ret
     exact⟨by rw[←zA HT];rfl,(zA HS1).2⟩
    | false=>
     rw[hz,Bool.false_or]at HT
     go_wp2_with fail
     go_roundw
     case rel=>exact⟨k+1,f,by omega,by go_num,zA HT,(zA HS1).1,(zA HS1).2⟩
     case measure=>simp[intOf];omega
namespace Rf
def cellAt (t:List ByteArray) (i:Nat):Bool:=(at' t (i+1)).toList==[91]
def zGo (ls:List (List ByteArray)) (l:Nat):List ByteArray:=(zAA ls (home ls (l+1)-1)).drop 2
def zD1 (ls:List (List ByteArray)) (l:Nat) (x:ByteArray) (cell:Bool):Bool:=
 if zi x=false then true
 else if inB (zGo ls l) x=true then !cell
 else if decl ls x=0 then false
 else if cell=true then ((first (zAA ls (decl ls x-1))).toList==[97,114,114,97,121])else ((first (zAA ls (decl ls x-1))).toList==[118,97,114])
theorem zMT (ls:List (List ByteArray)):∀n,0 < home ls n→((first (zAA ls (home ls n-1))).toList==[112,114,111,99])=true
 | 0,h=>by simp[home]at h
 | n+1,h=>by
  rw[zDn]at h ⊢
  split
  ·rename_i hc;exact hc
  ·rename_i hc
   rw[if_neg hc]at h
   exact zMT ls n h
end Rf
theorem zQk (w:World) (S g cap:Nat) (ls:List (List ByteArray)) (l:Nat) (h:zAg w S g cap ls) (hl:l < ls.length) (hlen:ls.length≤100) :
  Calls Tryz.prog 179 #[.pointer (some ⟨S,0,none⟩),.int .i64 ((l:Int)+1)] w fun e w'=>e=.returned (.int .i64 (Rf.home ls (l+1)))∧Below w.heap.size w w':=by
 have h:=home_ref w S g cap ls (l+1) h hl hlen
 rw[show ((l+1:Nat):Int)=(l:Int)+1 by omega]at h
 exact h
theorem zQR (w:World) (S g cap:Nat) (ls:List (List ByteArray)) (l i:Nat) (h:zAg w S g cap ls) (hL:Lawful ls) (hl:l < ls.length) (hi:i < ls[l].length) (hh:Rf.zi ls[l][i]=true→0 < Rf.home ls (l+1)) :
  Calls Tryz.prog 142 #[.pointer (some ⟨S,0,none⟩),.int .i64 ((l:Int)+1),.int .i64 i] w fun e w'=>e=.returned (.bool (Rf.zD1 ls l ls[l][i] (Rf.cellAt ls[l] i)))∧Below w.heap.size w w':=by
 have hlen:=hL.len
 have HL:=zB hL
 have HH:=zB h
 have hf:=hL.zDN hl
 have hn1:=hf.1
 have cT:=h.top
 obtain⟨ad,c,cR,hv⟩:=h.row l hl
 obtain⟨b,o,rfl⟩:=hv.zAM (by intro e;rw[e]at hi;simp at hi)
 have hl':(l:Int) < (ls.length:Int):=by omega
 have hw1:IntKind.i64.wrap ((l:Int)+1-1)=l:=by rw[show (l:Int)+1-1=(l:Int) by omega];exact IntWalk.i64_in _ ⟨by omega,by omega⟩
 have hw0:IntKind.i64.wrap (l:Int)=l:=IntWalk.i64_in _ ⟨by omega,by omega⟩
 obtain⟨b',o',cap',he,cx⟩:=hv.cell hi
 simp at he
 obtain⟨⟨rfl,rfl⟩,rfl⟩:=he
 have HV:=zB hv
 have hxs:ls[l][i].size≤maxLen:=by have:=hf.2 _ (List.getElem_mem hi);unfold maxLen;omega
 have HC:Hid (∀w',zu w' (.slice (some ⟨b,o,none⟩) ls[l].length c) ls[l]→w'.cell? ⟨b,o+i,none⟩=some (.string ls[l][i])):=zB (by
  intro w' h
  obtain⟨b',o',cap',he,c0⟩:=h.cell hi
  simp at he
  obtain⟨⟨rfl,rfl⟩,rfl⟩:=he
  exact c0)
 have HC2:Hid (∀(hj:i+1 < ls[l].length) w',zu w' (.slice (some ⟨b,o,none⟩) ls[l].length c) ls[l]→w'.cell? ⟨b,o+(i+1),none⟩=some (.string ls[l][i+1])):=zB (by
  intro hj w' h
  obtain⟨b',o',cap',he,c0⟩:=h.cell hj
  simp at he
  obtain⟨⟨rfl,rfl⟩,rfl⟩:=he
  exact c0)
 have HA:=zB (show ∀hj:i+1 < ls[l].length,Rf.cellAt ls[l] i=(ls[l][i+1].toList==[91])from fun hj=>by rw[Rf.cellAt,Rf.zAi hj])
 have HZ:=zB (show ¬i+1 < ls[l].length→Rf.cellAt ls[l] i=false from fun hj=>by
  have e:Rf.at' ls[l] (i+1)=⟨#[]⟩:=by simp[Rf.at',List.getElem?_eq_none (show ls[l].length≤i+1 by omega)]
  rw[Rf.cellAt,e];simp)
 have hi':(i:Int) < (ls[l].length:Int):=by omega
 have HHo:=zB hh
 clear h hL hf hv hh
 generalize ls[l][i]=x at *
 generalize ls[l]=t at *
 generalize hR:Rf.zD1 ls l x (Rf.cellAt t i)=R
 have HR:=zB hR
 clear hR
 go_enter Tryz.func142,Tryz.ntmps142
 go_wp2_with fail
 refine(zDJ x _ hxs).mono ?_
 rintro e w1 ⟨rfl,hb1⟩
 have HS1:=zB (And.intro ((zA HH).zH hb1) hb1)
 have HV1:=zB ((zA HV).zH hb1)
 clear hb1 cT cR cx
 cases hnm:Rf.zi x with
 | false=>
  have HE:=zB (show R=true by rw[←zA HR,Rf.zD1,if_pos hnm])
  go_wp2_with fail
  go_ret
  exact⟨by rw[zA HE];rfl,(zA HS1).2⟩
 | true=>
  have HE:=zB (show R=if Rf.inB (Rf.zGo ls l) x=true then !(Rf.cellAt t i)else if Rf.decl ls x=0 then false else if Rf.cellAt t i=true then ((Rf.first (Rf.zAA ls (Rf.decl ls x-1))).toList==[97,114,114,97,121])else ((Rf.first (Rf.zAA ls (Rf.decl ls x-1))).toList==[118,97,114]) by
   rw[←zA HR,Rf.zD1,if_neg (by rw[hnm];simp)])
  clear HR
  have hpos:=zA HHo hnm
  have hpl:=Rf.zO0 ls (l+1)
  have hpc:=Rf.zMT ls (l+1) hpos
  obtain⟨p,hp⟩:∃p,Rf.home ls (l+1)=p+1:=⟨Rf.home ls (l+1)-1,by omega⟩
  have hpls:p < ls.length:=by omega
  rw[hp,Nat.add_sub_cancel,Rf.zr hpls]at hpc
  have hp2:2≤ls[p].length:=(zA HL).top _ (List.getElem_mem hpls) (by unfold Rf.zDb;rw[hpc];simp)
  have hpf:=(zA HL).zDN hpls
  have HP:=zB (show Rf.zGo ls l=ls[p].drop 2 by rw[Rf.zGo,hp,Nat.add_sub_cancel,Rf.zr hpls])
  have hpl1:=hpf.1
  have Hhp:=zB hp
  clear hpos hpc hpf hpl hp
  go_wp2_with (go_at_call 179;refine(zQk _ S g cap ls l (zA HS1).1 hl hlen).mono ?_;rintro e w2 ⟨rfl,hb2⟩;rw[zA Hhp])
  have HS2:=zB (And.intro ((zA HS1).1.zH hb2) ((zA HS1).2.trans (hb2.mono (zA HS1).2.size)))
  have HV2:=zB ((zA HV1).zH hb2)
  have cx:=zA HC _ (zA HV2)
  clear hb2
  go_region_held3 (fun w'=>w'.cell? ⟨b,o+i,none⟩=some (.string x)) (first | go_keep | exact zA HC _ ((zA HV2).zH (zm hb3))) (first | (go_at_call 117;refine(zEy _ S g cap ls p ((zA HS2).1.zH (zS _)) hpls hlen hp2 hpl1).mono ?_;rintro e w3 ⟨v3,rfl,hv3,hb3⟩)| (go_at_call 132;refine(zIK _ _ (ls[p].drop 2) x hv3 (by simp;omega)).mono ?_;rintro e w4 ⟨rfl,rfl⟩))
  have hb3':=zm hb3
  have HS3:=zB (And.intro ((zA HS2).1.zH hb3') ((zA HS2).2.trans (hb3'.mono (zA HS2).2.size)))
  have HV3:=zB ((zA HV2).zH hb3')
  rw[zA HP]at HE
  clear hb3 hb3' hv3 cx
  have hw2:IntKind.i64.wrap ((i:Int)+1)=(i:Int)+1:=IntWalk.i64_in _ ⟨by omega,by omega⟩
  generalize Rf.inB (ls[p].drop 2) x=pb at *
  cases pb with
  | true=>
   rw[if_pos rfl]at HE
   by_cases hj:i+1 < t.length
   ·have hj':(i:Int)+1 < (t.length:Int):=by omega
    have cy:=zA HC2 hj _ (zA HV3)
    rw[zA HA hj]at HE
    generalize t[i+1]=y at *
    clear HA HZ HC2
    go_wp2_with fail
    all_goals
     go_ret
     exact⟨by rw[zA HE];exact zj (by simp_all),(zA HS3).2⟩
   ·have hj':¬(i:Int)+1 < (t.length:Int):=by omega
    rw[zA HZ hj]at HE
    clear HA HZ HC2
    go_wp2_with fail
    all_goals
     go_ret
     exact⟨by rw[zA HE];exact zj (by simp_all),(zA HS3).2⟩
  | false=>
   rw[if_neg (by decide)]at HE
   have hdb:=Rf.zEG ls x
   cases hd:Rf.decl ls x with
   | zero=>
    rw[hd,if_pos rfl]at HE
    by_cases hj:i+1 < t.length
    ·have hj':(i:Int)+1 < (t.length:Int):=by omega
     have cy:=zA HC2 hj _ (zA HV3)
     generalize t[i+1]=y at *
     clear HA HZ HC2
     go_wp2_with (go_at_call 84;refine(zAb _ S g cap ls x (zA HS3).1 (zA HL)).mono ?_;rintro e w5 ⟨rfl,hb5⟩;rw[hd];have HS5:=zB ((zA HS3).2.trans (hb5.mono (zA HS3).2.size));clear hb5)
     all_goals
      go_ret
      exact⟨by rw[zA HE];rfl,zA HS5⟩
    ·have hj':¬(i:Int)+1 < (t.length:Int):=by omega
     clear HA HZ HC2
     go_wp2_with (go_at_call 84;refine(zAb _ S g cap ls x (zA HS3).1 (zA HL)).mono ?_;rintro e w5 ⟨rfl,hb5⟩;rw[hd];have HS5:=zB ((zA HS3).2.trans (hb5.mono (zA HS3).2.size));clear hb5)
     all_goals
      go_ret
      exact⟨by rw[zA HE];rfl,zA HS5⟩
   | succ d=>
    have hdl:d < ls.length:=by omega
    rw[hd,if_neg (by omega),Nat.add_sub_cancel,Rf.zr hdl]at HE
    have hdz:(((d+1:Nat):Int)==0)=false:=by rw[beq_eq_false_iff_ne];omega
    have hdi:((d+1:Nat):Int)=(d:Int)+1:=by omega
    by_cases hj:i+1 < t.length
    ·have hj':(i:Int)+1 < (t.length:Int):=by omega
     have cy:=zA HC2 hj _ (zA HV3)
     rw[zA HA hj]at HE
     generalize t[i+1]=y at *
     clear HA HZ HC2
     go_wp2_with (first | (go_at_call 84;refine(zAb _ S g cap ls x (zA HS3).1 (zA HL)).mono ?_;rintro e w5 ⟨rfl,hb5⟩;rw[hd,hdi];have HS5:=zB (And.intro ((zA HS3).1.zH hb5) ((zA HS3).2.trans (hb5.mono (zA HS3).2.size)));clear hb5)| (go_at_call 45;refine(zAN _ S g cap ls d (zA HS5).1 hdl hlen).mono ?_;rintro e w6 ⟨rfl,hb6⟩;have HS6:=zB ((zA HS5).2.trans (hb6.mono (zA HS5).2.size));clear hb6;generalize Rf.first ls[d]=z at *))
     all_goals
      go_ret
      exact⟨by rw[zA HE];exact zj (by simp_all),zA HS6⟩
    ·have hj':¬(i:Int)+1 < (t.length:Int):=by omega
     rw[zA HZ hj]at HE
     clear HA HZ HC2
     go_wp2_with (first | (go_at_call 84;refine(zAb _ S g cap ls x (zA HS3).1 (zA HL)).mono ?_;rintro e w5 ⟨rfl,hb5⟩;rw[hd,hdi];have HS5:=zB (And.intro ((zA HS3).1.zH hb5) ((zA HS3).2.trans (hb5.mono (zA HS3).2.size)));clear hb5)| (go_at_call 45;refine(zAN _ S g cap ls d (zA HS5).1 hdl hlen).mono ?_;rintro e w6 ⟨rfl,hb6⟩;have HS6:=zB ((zA HS5).2.trans (hb6.mono (zA HS5).2.size));clear hb6;generalize Rf.first ls[d]=z at *))
     all_goals
      go_ret
      exact⟨by rw[zA HE];exact zj (by simp_all),zA HS6⟩
namespace Rf
def zDf (ls:List (List ByteArray)) (t:List ByteArray):Bool:=
 if decl ls (at' t 1)=0 then false
 else if ((first (zAA ls (decl ls (at' t 1)-1))).toList==[112,114,111,99])=false then false
 else decide ((parts (t.drop 2)).length=((zAA ls (decl ls (at' t 1)-1)).drop 2).length)
end Rf
theorem zPD (w:World) (S g cap:Nat) (ls:List (List ByteArray)) (l:Nat) (h:zAg w S g cap ls) (hL:Lawful ls) (hl:l < ls.length) (h2:2≤ls[l].length) :
  Calls Tryz.prog 141 #[.pointer (some ⟨S,0,none⟩),.int .i64 ((l:Int)+1)] w fun e w'=>e=.returned (.bool (Rf.zDf ls ls[l]))∧Below w.heap.size w w':=by
 have hlen:=hL.len
 have HL:=zB hL
 have HH:=zB h
 have hf:=hL.zDN hl
 have HF:=zB hf
 have hn1:=hf.1
 have cT:=h.top
 obtain⟨ad,c,cR,hv⟩:=h.row l hl
 obtain⟨b,o,rfl⟩:=hv.zAM (by intro e;rw[e]at h2;simp at h2)
 have hl':(l:Int) < (ls.length:Int):=by omega
 have hw1:IntKind.i64.wrap ((l:Int)+1-1)=l:=by rw[show (l:Int)+1-1=(l:Int) by omega];exact IntWalk.i64_in _ ⟨by omega,by omega⟩
 have hw0:IntKind.i64.wrap (l:Int)=l:=IntWalk.i64_in _ ⟨by omega,by omega⟩
 have h1:1 < ls[l].length:=by omega
 obtain⟨b',o',cap',he,cx⟩:=hv.cell h1
 simp at he
 obtain⟨⟨rfl,rfl⟩,rfl⟩:=he
 obtain⟨ad',c',he,hcap⟩:=hv.form
 simp at he
 obtain⟨rfl,rfl⟩:=he
 have HV:=zB hv
 have HA:=zB (Rf.zAi h1)
 have HPL:=zB (zHK (ls[l].drop 2))
 generalize hR:Rf.zDf ls ls[l]=R
 rw[Rf.zDf,zA HA]at hR
 have HR:=zB hR
 clear h hL hf hv HA hR
 generalize ls[l][1]=x at *
 generalize ls[l]=t at *
 have h1':(1:Int) < (t.length:Int):=by omega
 go_enter Tryz.func141,Tryz.ntmps141
 go_wp2_with fail
 refine(zAb _ S g cap ls x (zA HH) (zA HL)).mono ?_
 rintro e w1 ⟨rfl,hb1⟩
 have HS1:=zB (And.intro ((zA HH).zH hb1) hb1)
 have HV1:=zB ((zA HV).zH hb1)
 clear hb1 cT cR cx
 have hdb:=Rf.zEG ls x
 cases hd:Rf.decl ls x with
 | zero=>
  rw[hd,if_pos rfl]at HR
  go_wp2_with fail
  go_ret
  exact⟨by rw[←zA HR];rfl,(zA HS1).2⟩
 | succ d=>
  have hdl:d < ls.length:=by omega
  rw[hd,if_neg (by omega),Nat.add_sub_cancel,Rf.zr hdl]at HR
  have hdz:(((d+1:Nat):Int)==0)=false:=by rw[beq_eq_false_iff_ne];omega
  have hdi:((d+1:Nat):Int)=(d:Int)+1:=by omega
  rw[hdi]at hdz ⊢
  clear hdi
  have HZ:=zB (show ((Rf.first ls[d]).toList==[112,114,111,99])=true→2≤ls[d].length from fun hz=>(zA HL).top _ (List.getElem_mem hdl) (by unfold Rf.zDb;rw[hz];simp))
  have hpl1:=((zA HL).zDN hdl).1
  go_wp2_with fail
  refine(zAN _ S g cap ls d (zA HS1).1 hdl hlen).mono ?_
  rintro e w2 ⟨rfl,hb2⟩
  have HS2:=zB (And.intro ((zA HS1).1.zH hb2) ((zA HS1).2.trans (hb2.mono (zA HS1).2.size)))
  have HV2:=zB ((zA HV1).zH hb2)
  clear hb2
  generalize Rf.first ls[d]=z at *
  cases hz:(z.toList==[112,114,111,99])with
  | false=>
   rw[hz,if_pos rfl]at HR
   go_wp2_with fail
   go_ret
   exact⟨by rw[←zA HR];rfl,(zA HS2).2⟩
  | true=>
   rw[hz,if_neg (by decide)]at HR
   have hp2:=zA HZ hz
   go_wp2_with fail
   all_goals
    refine(zIE _ _ (t.drop 2) (by first | exact zu.gone (by omega) (by omega)| exact(zA HV2).drop 2 _ _ rfl (by omega)) ((zA HF).drop 2)).mono ?_
    rintro e w3 ⟨hb3,v3,vs3,rfl,hown3,_⟩
    have HS3:=zB (And.intro ((zA HS2).1.zH hb3) ((zA HS2).2.trans (hb3.mono (zA HS2).2.size)))
    obtain⟨ad3,c3,rfl⟩:=zE hown3
    clear hb3 hown3
    go_wp2_with fail
    refine(zEy _ S g cap ls d (zA HS3).1 hdl hlen hp2 hpl1).mono ?_
    rintro e w4 ⟨v4,rfl,hv4,hb4⟩
    have HS4:=zB ((zA HS3).2.trans (hb4.mono (zA HS3).2.size))
    obtain⟨ad4,c4,rfl,_⟩:=hv4.form
    clear hb4 hv4
    go_wp2_with fail
    go_ret
    exact⟨by rw[←zA HR];exact zj (by rw[Bool.eq_iff_iff];simp;omega),zA HS4⟩
end Go.Proofs.YthleadfkfnnadaaGreat
