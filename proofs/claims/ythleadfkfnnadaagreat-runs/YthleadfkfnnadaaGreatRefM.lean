/- The document's answer: what opened a block; stops. -/
import Derived.Test.YthleadfkfnnadaaGreatRefK
set_option maxHeartbeats 4000000
set_option maxRecDepth 100000
namespace Go.Proofs.YthleadfkfnnadaaGreat
open Go.RowKit
def ReadRP (s:ByteArray) (w:World) (e:Ending) (w':World):Prop:=Below w.heap.size w w'∧
  ((¬(Rf.zBx s).1=0∧e=.returned (.tuple #[.pointer none,.int .i64 (Rf.zBx s).1,.int .i64 (Rf.zBx s).2.1]))∨
   ((Rf.zBx s).1=0∧(Rf.zBx s).2.1=0∧zHy (Rf.zBx s).2.2∧0 < (Rf.zBx s).2.2.length∧(Rf.zBx s).2.2.length≤100∧∃S g cap,e=.returned (.tuple #[.pointer (some ⟨S,0,none⟩),.int .i64 0,.int .i64 0])∧zAg w' S g cap (Rf.zBx s).2.2))
theorem Read_ref (s:ByteArray) (w:World) (hs:s.size≤maxLen) :
  Calls Tryz.prog 44 #[.string s] w (ReadRP s w):=by
 unfold maxLen at hs
 obtain⟨i0,hi,hz0,hz1,hz2⟩:=info_parts Tryz.zNd
 by_cases hl:40000 < s.size
 ·have hl':(40000:Int) < (s.size:Int):=by omega
  have HE:=zB (show Rf.zBx s=(1,0,[]) by rw[Rf.zBx,if_pos hl])
  go_enter Tryz.func44,Tryz.ntmps44
  go_wp2_with fail
  go_ret3
  exact⟨Below.refl _ _,Or.inl ⟨by rw[zA HE];decide,by rw[zA HE];rfl⟩⟩
 ·have hl':¬(40000:Int) < (s.size:Int):=by omega
  have hs4:s.size≤40000:=by omega
  have hR:Rf.zBx s=if 100 < (Rt.lines s).length then ((1,0,[]):Int×Int×List (List ByteArray))else if ¬(Rf.formsFrom 0 (Rt.lines s) []).1=0 then (2,((Rf.formsFrom 0 (Rt.lines s) []).1:Int),[])else Rf.zDj (Rf.formsFrom 0 (Rt.lines s) []).2:=by rw[Rf.zBx,if_neg hl]
  have HR:=zB hR
  have HSM:=zB (Rt.zCk hs4)
  have hLn:0 < (Rt.lines s).length:=by rw[Rt.zIH];omega
  clear hR
  go_enter Tryz.func44,Tryz.ntmps44
  go_wp2_with fail
  refine(zQW s _ hs4).mono ?_
  rintro e w1 ⟨hb1,v1,rfl,ho1⟩
  obtain⟨ad1,c1,rfl⟩:=zE ho1
  generalize Rt.lines s=L at *
  by_cases hm:100 < L.length
  ·have hm':(100:Int) < (L.length:Int):=by omega
   rw[if_pos hm]at HR
   have HB:=zB hb1
   clear hb1 ho1
   go_wp2_with fail
   go_ret3
   exact⟨zA HB,Or.inl ⟨by rw[zA HR];decide,by rw[zA HR];rfl⟩⟩
  ·have hm':decide ((100:Int) < (L.length:Int))=false:=by rw[decide_eq_false_iff_not];omega
   have hm2:¬(100:Int) < (L.length:Int):=by omega
   rw[if_neg hm]at HR
   have HB:=zB hb1
   have HO:=zB ho1
   have hsz1:=hb1.size
   clear hb1 ho1
   have hA:=heap_alloc_new w1 (.cells #[.slice none 0 0] 85)
   have HA:=zB hA
   clear hA
   go_wp2_with fail
   generalize hF:Rf.formsFrom 0 L []=F at *
   have HF:=zB hF
   clear hF
   go_loopw [7] (fun i wr=>∃(k:Nat) (acc:List (List ByteArray)) (lv:Value) (vs:List Value),k≤L.length∧i=.int .i64 k∧acc.length=k∧Rf.formsFrom k (L.drop k) acc=F∧zHy acc∧SrcS wr w1.heap.size acc lv vs∧Below w1.heap.size w1 wr)
    (fun i _=>L.length-(intOf i).toNat)
   case atStart=>exact⟨0,[],_,[],Nat.zero_le _,rfl,rfl,zA HF,⟨by simp,by simp⟩,⟨zA HA,World.ownsRow_nil _ _ _ _,⟨rfl,fun j h=>by simp at h⟩⟩,(Below.refl _ _).alloc (Nat.le_refl _) _⟩
   case round=>
    obtain⟨k,acc,lv,vs,hk,rfl,hacc,hT,hli,hsr,hbe⟩:=hrel
    have HK:=zB hacc
    clear hacc
    have HT:=zB hT
    have HLi:=zB hli
    clear hT hli
    by_cases hlt:k < L.length
    ·have hlt':(k:Int) < (L.length:Int):=by omega
     obtain⟨gx,capx',hvx,_,_,cx⟩:=zW (zZ (zA HO) hbe) (j:=k) (u:=.string L[k]) (by simp[hlt])
     have hsk:=(zA HSM) L[k] (List.getElem_mem hlt)
     simp at hvx
     obtain⟨rfl,rfl⟩:=hvx
     have hdrop:L.drop k=L[k]::L.drop (k+1):=List.drop_eq_getElem_cons hlt
     rw[hdrop,Rf.formsFrom]at HT
     clear hdrop
     have HS:=zB (And.intro hsr hbe)
     have hszr:=hbe.size
     clear hsr hbe
     generalize L[k]=x at *
     go_wp2_with fail
     refine(zOB x _ hsk).mono ?_
     rintro e w2 ⟨hb2,(⟨ht,v2,rfl⟩| ⟨ts,v2,ht,rfl,ho2⟩)⟩
     ·rw[ht]at HT
      have HB2:=zB ((zA HS).2.trans (hb2.mono (zA HS).2.size))
      clear hb2
      go_wp2_with fail
      go_ret3
      have hne:¬F.1=0:=by rw[←zA HT];simp
      have hF1:F.1=k+1:=by rw[←zA HT]
      refine⟨(zA HB).trans ((zA HB2).mono (zA HB).size),Or.inl ⟨by rw[zA HR,if_pos hne];simp,by rw[zA HR,if_pos hne,hF1];simp⟩⟩
     ·rw[ht]at HT
      have hfew:=few_tx hsk ht
      have hmap:ts.map zJX=(Rf.tx ts).map Value.string:=by simp[Rf.tx,zJX]
      have hlen:ts.length=(Rf.tx ts).length:=by simp[Rf.tx]
      rw[hmap,hlen]at ho2
      have HS2:=zB (And.intro ((zA HS).1.zH hb2) ((zA HS).2.trans (hb2.mono (zA HS).2.size)))
      have hb2s:=hb2.size
      have HFew:=zB hfew
      clear hmap hlen hb2 ht hfew
      simp only at HT
      generalize Rf.tx ts=t at *
      obtain⟨ad2,c2,rfl⟩:=zE ho2
      have HO2:=zB ho2
      clear ho2
      go_wp2_with fail
      refine(zOx t (zA HFew) _ _ (zDu (zA HO2))).mono ?_
      rintro e w3 ⟨rfl,hb3⟩
      have HS3:=zB (And.intro ((zA HS2).1.zH hb3) ((zA HS2).2.trans (hb3.mono (zA HS2).2.size)))
      have HO3:=zB (zZ (zA HO2) hb3)
      have hb3s:=hb3.size
      clear hb3
      cases hz:Rf.zx t with
      | false=>
       rw[hz,if_neg (by decide)]at HT
       go_wp2_with fail
       go_ret3
       have hne:¬F.1=0:=by rw[←zA HT];simp
       have hF1:F.1=k+1:=by rw[←zA HT]
       refine⟨(zA HB).trans ((zA HS3).2.mono (zA HB).size),Or.inl ⟨by rw[zA HR,if_pos hne];simp,by rw[zA HR,if_pos hne,hF1];simp⟩⟩
      | true=>
       rw[hz,if_pos rfl]at HT
       have HLi2:=zB ((zA HLi).snoc (zA HFew) hz)
       clear hz
       obtain⟨lad,lcap,hlv⟩:=zE (zA HS3).1.own
       subst hlv
       have cS:=zC (zA HS3).1.block 0 (by simp)
       simp at cS
       have hown3:w3.ownsRow (w1.heap.size+1) 87 1 (.slice lad acc.length lcap) acc.length vs:=(zA HS3).1.own
       rw[zA HK]at hown3 cS
       have hacck:k≤100:=by omega
       go_wp2_with (at_builtin;refine wpList_append_lies _ rfl (.tmp 49) (.tmp 51) 83 rfl (w1.heap.size+1) 87 i0 _ 1 24 Tryz.underlying83 hi hz0 hz1 hz2 rfl (by decide) _ _ _ rfl (hown3.alloc _) ⟨_,0,none⟩ 1 1 [.slice ad2 t.length c2] rfl rfl (cell_one_new _ _ _) (by simp[Value.oneCell']) (by omega) (by unfold maxLen;omega) (by omega) (by have:=zJ (zA HS3).1.block;simp;omega) _ rfl ?_)
       intro g4 cap4 w4 hown4 hgrow hat hlt4
       have hneS:(Value.slice lad k lcap).ownBlock≠some w1.heap.size:=fun h=>by have:=(hown3.lt _ h).1;omega
       obtain⟨hfar,hfz⟩:=src_far (zA HS3).1.block ((Below.refl _ _).alloc (Nat.le_refl _) _) hgrow hneS
       have hfin:=(zA HS3).1.push (zh (b':=w1.heap.size+1) (zA HO3) (by have:=zJ (zA HS).1.block;omega)) ((Below.refl _ _).alloc (Nat.le_refl _) _) (by rw[zA HK];exact hown4) (by rw[zA HK];exact hgrow)
       have HFin:=zB hfin
       clear hfin hown4 hgrow hat hlt4 hneS hown3 cS
       rw[zA HK]at hfar
       go_wp2_with fail
       go_roundw
       case rel=>
        obtain⟨q1,q2,_⟩:=zA HFin
        exact⟨k+1,_,_,_,by omega,by go_num,by simp;exact zA HK,zA HT,zA HLi2,q1,(zA HS3).2.trans q2⟩
       case measure=>simp[intOf];omega
    ·have hlt':¬(k:Int) < (L.length:Int):=by omega
     rw[List.drop_eq_nil_of_le (by omega),Rf.formsFrom]at HT
     have hF2:F=(0,acc):=(zA HT).symm
     rw[hF2,if_neg (by simp)]at HR
     have hal:acc.length≤100:=by have:=zA HK;omega
     have hap:0 < acc.length:=by have:=zA HK;omega
     obtain⟨g,cap,hlv,hG⟩:=hsr.toG hap
     have HG:=zB (And.intro hG ((zA HB).trans (hbe.mono (zA HB).size)))
     have HLaw:=zB ((zA HLi).lawful hal)
     clear hF2 hsr hbe hG hlv HT HA HF
     generalize hS:w1.heap.size=S at *
     clear hS
     go_wp2_with fail
     refine(zOe _ S g cap acc (zA HG).1 hal).mono ?_
     rintro e w2 ⟨rfl,hb2⟩
     have HG2:=zB (And.intro ((zA HG).1.zH hb2) ((zA HG).2.trans (hb2.mono (zA HG).2.size)))
     clear hb2
     change Hid (Rf.zBx s=if ¬Rf.nested acc=0 then (3,(Rf.nested acc:Int),[])else if ¬Rf.rightFrom acc acc.length 0=0 then (4,(Rf.rightFrom acc acc.length 0:Int),[])else Rf.zA0 acc)at HR
     by_cases hn:Rf.nested acc=0
     ·rw[if_neg (by omega)]at HR
      have HOK:=zB ((zA HLi).lineOK hn)
      rw[hn]
      generalize hRF:Rf.rightFrom acc acc.length 0=RF at *
      have HRF:=zB hRF
      clear hRF hn
      go_wp2_with fail
      go_loopw [10] (fun i wr=>∃j f:Nat,j+f=acc.length∧i=.int .i64 ((j:Int)+1)∧Rf.rightFrom acc f j=RF∧zAg wr S g cap acc∧Below w.heap.size w wr) (fun i _=>acc.length+1-(intOf i).toNat)
      case atStart=>exact⟨0,acc.length,by omega,rfl,zA HRF,(zA HG2).1,(zA HG2).2⟩
      case round=>
       obtain⟨j,f,hjf,rfl,hT,hs3,hb3⟩:=hrel
       have HT:=zB hT
       have HG3:=zB (And.intro hs3 hb3)
       have cT:=hs3.top
       clear hT hs3 hb3
       cases f with
       | zero=>
        have hj':¬(j:Int)+1≤(acc.length:Int):=by omega
        have hRF0:RF=0:=by rw[←zA HT];rfl
        rw[hRF0,if_neg (by simp),Rf.zA0]at HR
        clear hRF0
        have hdb:=Rf.zEG acc Rf.zCy
        go_wp2_with fail
        refine(zAb _ S g cap acc Rf.zCy (zA HG3).1 (zA HLaw)).mono ?_
        rintro e w4 ⟨rfl,hb4⟩
        have HG4:=zB (And.intro ((zA HG3).1.zH hb4) ((zA HG3).2.trans (hb4.mono (zA HG3).2.size)))
        clear hb4 cT
        cases hd:Rf.decl acc Rf.zCy with
        | zero=>
         rw[hd,if_pos rfl]at HR
         go_wp2_with fail
         go_ret3
         exact⟨(zA HG4).2,Or.inl ⟨by rw[zA HR];decide,by rw[zA HR];rfl⟩⟩
        | succ d=>
         have hdl:d < acc.length:=by omega
         rw[hd,if_neg (by omega),Nat.add_sub_cancel,Rf.zr hdl]at HR
         have hdz:(((d+1:Nat):Int)==0)=false:=by rw[beq_eq_false_iff_ne];omega
         have hdi:((d+1:Nat):Int)=(d:Int)+1:=by omega
         rw[hdi]at hdz ⊢
         clear hdi
         go_wp2_with fail
         refine(zAN _ S g cap acc d (zA HG4).1 hdl hal).mono ?_
         rintro e w5 ⟨rfl,hb5⟩
         have HG5:=zB (And.intro ((zA HG4).1.zH hb5) ((zA HG4).2.trans (hb5.mono (zA HG4).2.size)))
         clear hb5
         generalize Rf.first acc[d]=z at *
         cases hz:(z.toList==[112,114,111,99])with
         | false=>
          rw[hz,if_pos rfl]at HR
          go_wp2_with fail
          go_ret3
          exact⟨(zA HG5).2,Or.inl ⟨by rw[zA HR];decide,by rw[zA HR];rfl⟩⟩
         | true=>
          rw[hz,if_neg (by decide)]at HR
          go_wp2_with fail
          go_ret3
          refine⟨(zA HG5).2,Or.inr ?_⟩
          rw[zA HR]
          exact⟨rfl,rfl,zA HLi,hap,hal,S,g,cap,rfl,(zA HG5).1⟩
       | succ f=>
        have hjl:j < acc.length:=by omega
        have hj':(j:Int)+1≤(acc.length:Int):=by omega
        rw[Rf.rightFrom,Rf.zr hjl]at HT
        go_wp2_with fail
        refine(zP2 _ S g cap acc j (zA HG3).1 (zA HLaw) hjl (zA HOK j hjl)).mono ?_
        rintro e w4 ⟨rfl,hb4⟩
        have HG4:=zB (And.intro ((zA HG3).1.zH hb4) ((zA HG3).2.trans (hb4.mono (zA HG3).2.size)))
        clear hb4 cT
        cases hz:Rf.zA3 acc j acc[j]with
        | false=>
         rw[hz,if_neg (by decide)]at HT
         have hRF1:¬RF=0:=by rw[←zA HT];omega
         rw[if_pos hRF1]at HR
         clear hRF1
         go_wp2_with fail
         go_ret3
         exact⟨(zA HG4).2,Or.inl ⟨by rw[zA HR];simp,by rw[zA HR,←zA HT];simp⟩⟩
        | true=>
         rw[hz,if_pos rfl]at HT
         go_wp2_with fail
         go_roundw
         case rel=>exact⟨j+1,f,by omega,by go_num,zA HT,(zA HG4).1,(zA HG4).2⟩
         case measure=>simp[intOf];omega
     ·rw[if_pos hn]at HR
      have hn':(0:Int) < (Rf.nested acc:Int):=by omega
      go_wp2_with fail
      go_ret3
      exact⟨(zA HG2).2,Or.inl ⟨by rw[zA HR];simp,by rw[zA HR];rfl⟩⟩
namespace Rf
def openerFrom (ls:List (List ByteArray)):Nat→Nat→Nat
 | 0,_=>0
 | m+1,n=>
  if zBN (zAA ls m)=true then
   (if (if ((first (zAA ls m)).toList==[101,110,100])=true then n+1 else n)=1 then m+1 else openerFrom ls m ((if ((first (zAA ls m)).toList==[101,110,100])=true then n+1 else n)-1))
  else openerFrom ls m (if ((first (zAA ls m)).toList==[101,110,100])=true then n+1 else n)
theorem zCU (ls:List (List ByteArray)):∀m n,openerFrom ls m n≤m
 | 0,_=>Nat.le_refl _
 | m+1,n=>by
  rw[openerFrom]
  generalize (if ((first (zAA ls m)).toList==[101,110,100])=true then n+1 else n)=q
  have h1:=zCU ls m (q-1)
  have h2:=zCU ls m q
  split
  ·split <;> omega
  ·omega
def zFJ (ls:List (List ByteArray)) (k:Nat) (op:List Nat):Prop:=∀pre o suf,op=pre++o::suf→openerFrom ls k (suf.length+1)=o
theorem zHQ {ls:List (List ByteArray)} {k i:Nat} (h:k < ls.length) (hf:HF (first ls[k]) i) (n:Nat):openerFrom ls (k+1) n=if i=3∨i=4∨i=5 then (if n=1 then k+1 else openerFrom ls k (n-1))else if i=7 then openerFrom ls k (n+1)else openerFrom ls k n:=by
 obtain⟨f0,f1,f2,f3,f4,f5,f6,f7⟩:=hf
 have ho:(zBN ls[k]=true)↔(i=3∨i=4∨i=5):=by
  unfold zBN;rw[f3,f4,f5];simp[or_assoc]
 rw[openerFrom,zr h,f7]
 simp only[ho,decide_eq_true_eq]
 by_cases h3:i=3∨i=4∨i=5
 ·have h7:¬i=7:=by omega
  simp[h3,h7]
 ·by_cases h7:i=7
  ·simp[h7]
  ·simp[h3,h7]
theorem zFJ.push {ls:List (List ByteArray)} {k i:Nat} {op:List Nat} (h:zFJ ls k op) (hk:k < ls.length) (hf:HF (first ls[k]) i) (hi:i=3∨i=4∨i=5):zFJ ls (k+1) (op++[k+1]):=by
 intro pre o suf he
 rw[zHQ hk hf _,if_pos hi]
 rcases zDI suf with rfl | ⟨s',x,rfl⟩
 ·have:=List.append_inj' he (by simp)
  simp at this
  simp[this.2]
 ·have he':op++[k+1]=(pre++o::s')++[x]:=by rw[he];simp
  have:=List.append_inj' he' (by simp)
  rw[if_neg (by simp)]
  have h2:=h pre o s' this.1
  simpa using h2
theorem zFJ.pop {ls:List (List ByteArray)} {k i:Nat} {pre:List Nat} {x:Nat} (h:zFJ ls k (pre++[x])) (hk:k < ls.length) (hf:HF (first ls[k]) i) (hi:i=7):zFJ ls (k+1) pre:=by
 intro pre' o suf he
 rw[zHQ hk hf _,if_neg (by omega),if_pos hi]
 have:=h pre' o (suf++[x]) (by rw[he];simp)
 simpa using this
theorem zFJ.same {ls:List (List ByteArray)} {k i:Nat} {op:List Nat} (h:zFJ ls k op) (hk:k < ls.length) (hf:HF (first ls[k]) i) (h1:¬(i=3∨i=4∨i=5)) (h2:¬i=7):zFJ ls (k+1) op:=by
 intro pre o suf he
 rw[zHQ hk hf _,if_neg h1,if_neg h2]
 exact h pre o suf he
theorem zE0 {ls:List (List ByteArray)}:∀(f k:Nat) (op sp:List Nat),ls.length-k=f→nestFrom ls (ls.drop k) k op sp=0→zFJ ls k op→(∀o∈op,1≤o∧o≤k)→
  ∀l,l < ls.length→k≤l→∃op' sp',nestFrom ls (ls.drop l) l op' sp'=0∧zFJ ls l op'∧(∀o∈op',1≤o∧o≤l)
 | 0,k,op,sp,hf,_,_,_,l,hl,hkl=>by omega
 | f+1,k,op,sp,hf,h,hi,ho,l,hl,hkl=>by
  by_cases hlk:l=k
  ·subst hlk;exact⟨op,sp,h,hi,ho⟩
  have hk:k < ls.length:=by omega
  obtain⟨i,_,hF⟩:=zCi (first ls[k])
  rw[zGr hk hF]at h
  have hk1:k+1≤l:=by omega
  have ho1:∀o∈op,1≤o∧o≤k+1:=fun o h=>by have:=ho o h;omega
  by_cases i0:i=0
  ·rw[if_pos i0]at h
   exact zE0 f (k+1) op sp (by omega) h (hi.same hk hF (by omega) (by omega)) ho1 l hl hk1
  rw[if_neg i0]at h
  by_cases hc:decide (i=1∨i=2∨i=3)=!decide (op.length=0)
  ·rw[if_pos hc]at h;omega
  rw[if_neg hc]at h
  by_cases i3:i=3∨i=4∨i=5
  ·rw[if_pos i3]at h
   refine zE0 f (k+1) _ sp (by omega) h (hi.push hk hF i3) (fun o h=>?_) l hl hk1
   simp at h
   rcases h with h | rfl
   ·exact ho1 o h
   ·omega
  rw[if_neg i3]at h
  by_cases i6:i=6
  ·rw[if_pos i6]at h
   split at h
   ·omega
   ·exact zE0 f (k+1) op _ (by omega) h (hi.same hk hF i3 (by omega)) ho1 l hl hk1
  rw[if_neg i6]at h
  by_cases i7:i=7
  ·rw[if_pos i7]at h
   rcases zDI op with rfl | ⟨pre,x,rfl⟩
   ·exfalso;apply hc;simp;omega
   ·rw[List.dropLast_concat]at h
    exact zE0 f (k+1) _ _ (by omega) h (hi.pop hk hF i7) (fun o h=>ho1 o (by simp[h])) l hl hk1
  rw[if_neg i7]at h
  exact zE0 f (k+1) op sp (by omega) h (hi.same hk hF i3 i7) ho1 l hl hk1
theorem zFi {ls:List (List ByteArray)} (h:nested ls=0) {l:Nat} (hl:l < ls.length) (he:((first ls[l]).toList==[101,110,100])=true):0 < openerFrom ls l 1:=by
 obtain⟨op,sp,h1,h2,h3⟩:=zE0 ls.length 0 [] [] (by omega) h (by intro pre o suf he;simp at he) (by simp) l hl (by omega)
 obtain⟨i,_,hF⟩:=zCi (first ls[l])
 have h7:i=7:=by
  have:=hF.2.2.2.2.2.2.2
  rw[he]at this
  simpa using this.symm
 subst h7
 rw[zGr hl hF]at h1
 rcases zDI op with rfl | ⟨pre,x,rfl⟩
 ·simp at h1
 ·have:=h2 pre x [] rfl
  have hx:=h3 x (by simp)
  simp at this
  omega
def zAT (ls:List (List ByteArray)) (l:Nat) (t:List ByteArray):Bool:=
 if ((first t).toList==[115,101,116])=true then true else if ((first t).toList==[112,114,105,110,116])=true then true else if ((first t).toList==[114,101,97,100])=true then true
 else if ((first t).toList==[105,102])=true then true else if ((first t).toList==[119,104,105,108,101])=true then true else if ((first t).toList==[99,97,108,108])=true then true else if ((first t).toList==[114,101,116,117,114,110])=true then true
 else if ((first t).toList==[101,110,100])=true then ((first (zAA ls (openerFrom ls l 1-1))).toList==[112,114,111,99])else false
end Rf
theorem zGp (w:World) (S g cap:Nat) (ls:List (List ByteArray)) (l:Nat) (h:zAg w S g cap ls) (hl:l < ls.length) (hlen:ls.length≤100) :
  Calls Tryz.prog 86 #[.pointer (some ⟨S,0,none⟩),.int .i64 ((l:Int)+1)] w fun e w'=>e=.returned (.int .i64 (Rf.openerFrom ls l 1))∧Below w.heap.size w w':=by
 have HN:=zB h
 clear h
 go_enter Tryz.func86,Tryz.ntmps86
 go_wp2
 go_loopw [5,6] (fun nv i wr=>∃k n:Nat,k≤ls.length∧0 < n∧n+k≤200∧nv=.int .i64 n∧i=.int .i64 k∧Rf.openerFrom ls k n=Rf.openerFrom ls l 1∧zAg wr S g cap ls∧Below w.heap.size w wr) (fun _ i _=>(intOf i).toNat)
 case atStart=>exact⟨l,1,by omega,by omega,by omega,rfl,by go_num,rfl,zA HN,Below.refl _ _⟩
 case round=>
  obtain⟨k,n,hk,hn,hnk,rfl,rfl,hT,hs,hbe⟩:=hrel
  have HS:=zB (And.intro hs hbe)
  have HT:=zB hT
  clear hs hbe hT
  cases k with
  | zero=>
   go_wp2_with fail
   go_ret
   exact⟨by rw[←zA HT];rfl,(zA HS).2⟩
  | succ k=>
   have hlt:k < ls.length:=by omega
   rw[Rf.openerFrom,Rf.zr hlt]at HT
   have hpos:(0:Int) < (k:Int)+1:=by omega
   rw[show ((k+1:Nat):Int)=(k:Int)+1 by omega]
   go_wp2_with fail
   refine(zLR _ S g cap ls k (zA HS).1 hlt hlen).mono ?_
   rintro e w1 ⟨rfl,hb1⟩
   have HS1:=zB (And.intro ((zA HS).1.zH hb1) ((zA HS).2.trans (hb1.mono (zA HS).2.size)))
   clear hb1
   go_wp2_with fail
   refine(zAN _ S g cap ls k (zA HS1).1 hlt hlen).mono ?_
   rintro e w2 ⟨rfl,hb2⟩
   have HS2:=zB (And.intro ((zA HS1).1.zH hb2) ((zA HS1).2.trans (hb2.mono (zA HS1).2.size)))
   clear hb2
   generalize Rf.first ls[k]=z at *
   generalize Rf.zBN ls[k]=ob at *
   cases hz:(z.toList==[101,110,100])with
   | true=>
    rw[hz]at HT
    simp only[if_true]at HT
    cases ob with
    | true=>
     rw[if_pos rfl,if_neg (by omega),Nat.add_sub_cancel]at HT
     have h1:((n:Int)==0)=false:=by rw[beq_eq_false_iff_ne];omega
     go_wp2_with fail
     go_roundw
     case rel=>exact⟨k,n,by omega,by omega,by omega,by go_num,by go_num,zA HT,(zA HS2).1,(zA HS2).2⟩
     case measure=>simp[intOf]
    | false=>
     rw[if_neg (by decide)]at HT
     go_wp2_with fail
     go_roundw
     case rel=>exact⟨k,n+1,by omega,by omega,by omega,by go_num,by go_num,zA HT,(zA HS2).1,(zA HS2).2⟩
     case measure=>simp[intOf]
   | false=>
    rw[hz]at HT
    simp only[Bool.false_eq_true,if_false]at HT
    cases ob with
    | true=>
     rw[if_pos rfl]at HT
     by_cases hn1:n=1
     ·rw[if_pos hn1]at HT
      subst hn1
      go_wp2_with fail
      go_ret
      exact⟨by rw[←zA HT];rfl,(zA HS2).2⟩
     ·rw[if_neg hn1]at HT
      obtain⟨n,rfl⟩:∃m,n=m+1:=⟨n-1,by omega⟩
      rw[show ((n+1:Nat):Int)=(n:Int)+1 by omega]
      rw[Nat.add_sub_cancel]at HT
      have h1:((n:Int)==0)=false:=by rw[beq_eq_false_iff_ne];omega
      go_wp2_with fail
      go_roundw
      case rel=>exact⟨k,n,by omega,by omega,by omega,by go_num,by go_num,zA HT,(zA HS2).1,(zA HS2).2⟩
      case measure=>simp[intOf]
    | false=>
     rw[if_neg (by decide)]at HT
     go_wp2_with fail
     go_roundw
     case rel=>exact⟨k,n,by omega,by omega,by omega,by go_num,by go_num,zA HT,(zA HS2).1,(zA HS2).2⟩
     case measure=>simp[intOf]
theorem stop_0 (w:World) (S g cap:Nat) (ls:List (List ByteArray)) (l:Nat) (h:zAg w S g cap ls) (hl:l < ls.length) (hlen:ls.length≤100) (e0:((Rf.first ls[l]).toList==[115,101,116])=true) :
  Calls Tryz.prog 48 #[.pointer (some ⟨S,0,none⟩),.int .i64 ((l:Int)+1)] w fun e w'=>e=.returned (.bool (Rf.zAT ls l ls[l]))∧Below w.heap.size w w':=by
 have HN:=zB h
 have hR:Rf.zAT ls l ls[l]=true:=by rw[Rf.zAT,e0,if_pos rfl]
 have HR:=zB hR
 clear h hR
 generalize Rf.zAT ls l ls[l]=R at *
 go_enter Tryz.func48,Tryz.ntmps48
 go_wp2_with fail
 refine(zAN _ S g cap ls l (zA HN) hl hlen).mono ?_
 rintro e w1 ⟨rfl,hb1⟩
 have HS1:=zB (And.intro ((zA HN).zH hb1) hb1)
 clear hb1
 generalize Rf.first ls[l]=z at *
 go_wp2_with fail
 go_ret
 exact⟨by rw[zA HR];rfl,(zA HS1).2⟩
theorem stop_1 (w:World) (S g cap:Nat) (ls:List (List ByteArray)) (l:Nat) (h:zAg w S g cap ls) (hl:l < ls.length) (hlen:ls.length≤100) (e0:((Rf.first ls[l]).toList==[115,101,116])=false) (e1:((Rf.first ls[l]).toList==[112,114,105,110,116])=true) :
  Calls Tryz.prog 48 #[.pointer (some ⟨S,0,none⟩),.int .i64 ((l:Int)+1)] w fun e w'=>e=.returned (.bool (Rf.zAT ls l ls[l]))∧Below w.heap.size w w':=by
 have HN:=zB h
 have hR:Rf.zAT ls l ls[l]=true:=by rw[Rf.zAT,e0,if_neg (by decide),e1,if_pos rfl]
 have HR:=zB hR
 clear h hR
 generalize Rf.zAT ls l ls[l]=R at *
 go_enter Tryz.func48,Tryz.ntmps48
 go_wp2_with fail
 refine(zAN _ S g cap ls l (zA HN) hl hlen).mono ?_
 rintro e w1 ⟨rfl,hb1⟩
 have HS1:=zB (And.intro ((zA HN).zH hb1) hb1)
 clear hb1
 generalize Rf.first ls[l]=z at *
 go_wp2_with fail
 go_ret
 exact⟨by rw[zA HR];rfl,(zA HS1).2⟩
theorem stop_2 (w:World) (S g cap:Nat) (ls:List (List ByteArray)) (l:Nat) (h:zAg w S g cap ls) (hl:l < ls.length) (hlen:ls.length≤100) (e0:((Rf.first ls[l]).toList==[115,101,116])=false) (e1:((Rf.first ls[l]).toList==[112,114,105,110,116])=false) (e2:((Rf.first ls[l]).toList==[114,101,97,100])=true) :
  Calls Tryz.prog 48 #[.pointer (some ⟨S,0,none⟩),.int .i64 ((l:Int)+1)] w fun e w'=>e=.returned (.bool (Rf.zAT ls l ls[l]))∧Below w.heap.size w w':=by
 have HN:=zB h
 have hR:Rf.zAT ls l ls[l]=true:=by rw[Rf.zAT,e0,if_neg (by decide),e1,if_neg (by decide),e2,if_pos rfl]
 have HR:=zB hR
 clear h hR
 generalize Rf.zAT ls l ls[l]=R at *
 go_enter Tryz.func48,Tryz.ntmps48
 go_wp2_with fail
 refine(zAN _ S g cap ls l (zA HN) hl hlen).mono ?_
 rintro e w1 ⟨rfl,hb1⟩
 have HS1:=zB (And.intro ((zA HN).zH hb1) hb1)
 clear hb1
 generalize Rf.first ls[l]=z at *
 go_wp2_with fail
 go_ret
 exact⟨by rw[zA HR];rfl,(zA HS1).2⟩
theorem stop_3 (w:World) (S g cap:Nat) (ls:List (List ByteArray)) (l:Nat) (h:zAg w S g cap ls) (hl:l < ls.length) (hlen:ls.length≤100) (e0:((Rf.first ls[l]).toList==[115,101,116])=false) (e1:((Rf.first ls[l]).toList==[112,114,105,110,116])=false) (e2:((Rf.first ls[l]).toList==[114,101,97,100])=false) (e3:((Rf.first ls[l]).toList==[105,102])=true) :
  Calls Tryz.prog 48 #[.pointer (some ⟨S,0,none⟩),.int .i64 ((l:Int)+1)] w fun e w'=>e=.returned (.bool (Rf.zAT ls l ls[l]))∧Below w.heap.size w w':=by
 have HN:=zB h
 have hR:Rf.zAT ls l ls[l]=true:=by rw[Rf.zAT,e0,if_neg (by decide),e1,if_neg (by decide),e2,if_neg (by decide),e3,if_pos rfl]
 have HR:=zB hR
 clear h hR
 generalize Rf.zAT ls l ls[l]=R at *
 go_enter Tryz.func48,Tryz.ntmps48
 go_wp2_with fail
 refine(zAN _ S g cap ls l (zA HN) hl hlen).mono ?_
 rintro e w1 ⟨rfl,hb1⟩
 have HS1:=zB (And.intro ((zA HN).zH hb1) hb1)
 clear hb1
 generalize Rf.first ls[l]=z at *
 go_wp2_with fail
 go_ret
 exact⟨by rw[zA HR];rfl,(zA HS1).2⟩
theorem stop_4 (w:World) (S g cap:Nat) (ls:List (List ByteArray)) (l:Nat) (h:zAg w S g cap ls) (hl:l < ls.length) (hlen:ls.length≤100) (e0:((Rf.first ls[l]).toList==[115,101,116])=false) (e1:((Rf.first ls[l]).toList==[112,114,105,110,116])=false) (e2:((Rf.first ls[l]).toList==[114,101,97,100])=false) (e3:((Rf.first ls[l]).toList==[105,102])=false) (e4:((Rf.first ls[l]).toList==[119,104,105,108,101])=true) :
  Calls Tryz.prog 48 #[.pointer (some ⟨S,0,none⟩),.int .i64 ((l:Int)+1)] w fun e w'=>e=.returned (.bool (Rf.zAT ls l ls[l]))∧Below w.heap.size w w':=by
 have HN:=zB h
 have hR:Rf.zAT ls l ls[l]=true:=by rw[Rf.zAT,e0,if_neg (by decide),e1,if_neg (by decide),e2,if_neg (by decide),e3,if_neg (by decide),e4,if_pos rfl]
 have HR:=zB hR
 clear h hR
 generalize Rf.zAT ls l ls[l]=R at *
 go_enter Tryz.func48,Tryz.ntmps48
 go_wp2_with fail
 refine(zAN _ S g cap ls l (zA HN) hl hlen).mono ?_
 rintro e w1 ⟨rfl,hb1⟩
 have HS1:=zB (And.intro ((zA HN).zH hb1) hb1)
 clear hb1
 generalize Rf.first ls[l]=z at *
 go_wp2_with fail
 go_ret
 exact⟨by rw[zA HR];rfl,(zA HS1).2⟩
theorem stop_5 (w:World) (S g cap:Nat) (ls:List (List ByteArray)) (l:Nat) (h:zAg w S g cap ls) (hl:l < ls.length) (hlen:ls.length≤100) (e0:((Rf.first ls[l]).toList==[115,101,116])=false) (e1:((Rf.first ls[l]).toList==[112,114,105,110,116])=false) (e2:((Rf.first ls[l]).toList==[114,101,97,100])=false) (e3:((Rf.first ls[l]).toList==[105,102])=false) (e4:((Rf.first ls[l]).toList==[119,104,105,108,101])=false) (e5:((Rf.first ls[l]).toList==[99,97,108,108])=true) :
  Calls Tryz.prog 48 #[.pointer (some ⟨S,0,none⟩),.int .i64 ((l:Int)+1)] w fun e w'=>e=.returned (.bool (Rf.zAT ls l ls[l]))∧Below w.heap.size w w':=by
 have HN:=zB h
 have hR:Rf.zAT ls l ls[l]=true:=by rw[Rf.zAT,e0,if_neg (by decide),e1,if_neg (by decide),e2,if_neg (by decide),e3,if_neg (by decide),e4,if_neg (by decide),e5,if_pos rfl]
 have HR:=zB hR
 clear h hR
 generalize Rf.zAT ls l ls[l]=R at *
 go_enter Tryz.func48,Tryz.ntmps48
 go_wp2_with fail
 refine(zAN _ S g cap ls l (zA HN) hl hlen).mono ?_
 rintro e w1 ⟨rfl,hb1⟩
 have HS1:=zB (And.intro ((zA HN).zH hb1) hb1)
 clear hb1
 generalize Rf.first ls[l]=z at *
 go_wp2_with fail
 go_ret
 exact⟨by rw[zA HR];rfl,(zA HS1).2⟩
theorem stop_6 (w:World) (S g cap:Nat) (ls:List (List ByteArray)) (l:Nat) (h:zAg w S g cap ls) (hl:l < ls.length) (hlen:ls.length≤100) (e0:((Rf.first ls[l]).toList==[115,101,116])=false) (e1:((Rf.first ls[l]).toList==[112,114,105,110,116])=false) (e2:((Rf.first ls[l]).toList==[114,101,97,100])=false) (e3:((Rf.first ls[l]).toList==[105,102])=false) (e4:((Rf.first ls[l]).toList==[119,104,105,108,101])=false) (e5:((Rf.first ls[l]).toList==[99,97,108,108])=false) (e6:((Rf.first ls[l]).toList==[114,101,116,117,114,110])=true) :
  Calls Tryz.prog 48 #[.pointer (some ⟨S,0,none⟩),.int .i64 ((l:Int)+1)] w fun e w'=>e=.returned (.bool (Rf.zAT ls l ls[l]))∧Below w.heap.size w w':=by
 have HN:=zB h
 have hR:Rf.zAT ls l ls[l]=true:=by rw[Rf.zAT,e0,if_neg (by decide),e1,if_neg (by decide),e2,if_neg (by decide),e3,if_neg (by decide),e4,if_neg (by decide),e5,if_neg (by decide),e6,if_pos rfl]
 have HR:=zB hR
 clear h hR
 generalize Rf.zAT ls l ls[l]=R at *
 go_enter Tryz.func48,Tryz.ntmps48
 go_wp2_with fail
 refine(zAN _ S g cap ls l (zA HN) hl hlen).mono ?_
 rintro e w1 ⟨rfl,hb1⟩
 have HS1:=zB (And.intro ((zA HN).zH hb1) hb1)
 clear hb1
 generalize Rf.first ls[l]=z at *
 go_wp2_with fail
 go_ret
 exact⟨by rw[zA HR];rfl,(zA HS1).2⟩
theorem stop_7 (w:World) (S g cap:Nat) (ls:List (List ByteArray)) (l:Nat) (h:zAg w S g cap ls) (hl:l < ls.length) (hlen:ls.length≤100) (e0:((Rf.first ls[l]).toList==[115,101,116])=false) (e1:((Rf.first ls[l]).toList==[112,114,105,110,116])=false) (e2:((Rf.first ls[l]).toList==[114,101,97,100])=false) (e3:((Rf.first ls[l]).toList==[105,102])=false) (e4:((Rf.first ls[l]).toList==[119,104,105,108,101])=false) (e5:((Rf.first ls[l]).toList==[99,97,108,108])=false) (e6:((Rf.first ls[l]).toList==[114,101,116,117,114,110])=false) (e7:((Rf.first ls[l]).toList==[101,110,100])=true) (ho:0 < Rf.openerFrom ls l 1) :
  Calls Tryz.prog 48 #[.pointer (some ⟨S,0,none⟩),.int .i64 ((l:Int)+1)] w fun e w'=>e=.returned (.bool (Rf.zAT ls l ls[l]))∧Below w.heap.size w w':=by
 have HN:=zB h
 have hR:Rf.zAT ls l ls[l]=((Rf.first (Rf.zAA ls (Rf.openerFrom ls l 1-1))).toList==[112,114,111,99]):=by rw[Rf.zAT,e0,if_neg (by decide),e1,if_neg (by decide),e2,if_neg (by decide),e3,if_neg (by decide),e4,if_neg (by decide),e5,if_neg (by decide),e6,if_neg (by decide),e7,if_pos rfl]
 have HR:=zB hR
 clear h hR
 generalize Rf.zAT ls l ls[l]=R at *
 go_enter Tryz.func48,Tryz.ntmps48
 go_wp2_with fail
 refine(zAN _ S g cap ls l (zA HN) hl hlen).mono ?_
 rintro e w1 ⟨rfl,hb1⟩
 have HS1:=zB (And.intro ((zA HN).zH hb1) hb1)
 clear hb1
 generalize Rf.first ls[l]=z at *
 go_wp2_with fail
 refine(zGp _ S g cap ls l (zA HS1).1 hl hlen).mono ?_
 rintro e w2 ⟨rfl,hb2⟩
 have HS2:=zB (And.intro ((zA HS1).1.zH hb2) ((zA HS1).2.trans (hb2.mono (zA HS1).2.size)))
 clear hb2
 have hob:=Rf.zCU ls l 1
 obtain⟨d,hd⟩:∃d,Rf.openerFrom ls l 1=d+1:=⟨Rf.openerFrom ls l 1-1,by omega⟩
 have hdl:d < ls.length:=by omega
 rw[hd,Nat.add_sub_cancel,Rf.zr hdl]at HR
 rw[hd,show ((d+1:Nat):Int)=(d:Int)+1 by omega]
 go_wp2_with fail
 refine(zAN _ S g cap ls d (zA HS2).1 hdl hlen).mono ?_
 rintro e w3 ⟨rfl,hb3⟩
 have HS3:=zB ((zA HS2).2.trans (hb3.mono (zA HS2).2.size))
 clear hb3
 generalize Rf.first ls[d]=y at *
 go_wp2_with fail
 go_ret
 exact⟨by rw[zA HR];rfl,zA HS3⟩
theorem stop_8 (w:World) (S g cap:Nat) (ls:List (List ByteArray)) (l:Nat) (h:zAg w S g cap ls) (hl:l < ls.length) (hlen:ls.length≤100) (e0:((Rf.first ls[l]).toList==[115,101,116])=false) (e1:((Rf.first ls[l]).toList==[112,114,105,110,116])=false) (e2:((Rf.first ls[l]).toList==[114,101,97,100])=false) (e3:((Rf.first ls[l]).toList==[105,102])=false) (e4:((Rf.first ls[l]).toList==[119,104,105,108,101])=false) (e5:((Rf.first ls[l]).toList==[99,97,108,108])=false) (e6:((Rf.first ls[l]).toList==[114,101,116,117,114,110])=false) (e7:((Rf.first ls[l]).toList==[101,110,100])=false) :
  Calls Tryz.prog 48 #[.pointer (some ⟨S,0,none⟩),.int .i64 ((l:Int)+1)] w fun e w'=>e=.returned (.bool (Rf.zAT ls l ls[l]))∧Below w.heap.size w w':=by
 have HN:=zB h
 have hR:Rf.zAT ls l ls[l]=false:=by rw[Rf.zAT,e0,if_neg (by decide),e1,if_neg (by decide),e2,if_neg (by decide),e3,if_neg (by decide),e4,if_neg (by decide),e5,if_neg (by decide),e6,if_neg (by decide),e7,if_neg (by decide)]
 have HR:=zB hR
 clear h hR
 generalize Rf.zAT ls l ls[l]=R at *
 go_enter Tryz.func48,Tryz.ntmps48
 go_wp2_with fail
 refine(zAN _ S g cap ls l (zA HN) hl hlen).mono ?_
 rintro e w1 ⟨rfl,hb1⟩
 have HS1:=zB (And.intro ((zA HN).zH hb1) hb1)
 clear hb1
 generalize Rf.first ls[l]=z at *
 go_wp2_with fail
 go_ret
 exact⟨by rw[zA HR];rfl,(zA HS1).2⟩
theorem stop_ref (w:World) (S g cap:Nat) (ls:List (List ByteArray)) (l:Nat) (h:zAg w S g cap ls) (hl:l < ls.length) (hlen:ls.length≤100) (hn:Rf.nested ls=0) :
  Calls Tryz.prog 48 #[.pointer (some ⟨S,0,none⟩),.int .i64 ((l:Int)+1)] w fun e w'=>e=.returned (.bool (Rf.zAT ls l ls[l]))∧Below w.heap.size w w':=by
 by_cases e0:((Rf.first ls[l]).toList==[115,101,116])=true
 ·exact stop_0 w S g cap ls l h hl hlen  e0
 replace e0:=Bool.eq_false_iff.mpr e0
 by_cases e1:((Rf.first ls[l]).toList==[112,114,105,110,116])=true
 ·exact stop_1 w S g cap ls l h hl hlen e0 e1
 replace e1:=Bool.eq_false_iff.mpr e1
 by_cases e2:((Rf.first ls[l]).toList==[114,101,97,100])=true
 ·exact stop_2 w S g cap ls l h hl hlen e0 e1 e2
 replace e2:=Bool.eq_false_iff.mpr e2
 by_cases e3:((Rf.first ls[l]).toList==[105,102])=true
 ·exact stop_3 w S g cap ls l h hl hlen e0 e1 e2 e3
 replace e3:=Bool.eq_false_iff.mpr e3
 by_cases e4:((Rf.first ls[l]).toList==[119,104,105,108,101])=true
 ·exact stop_4 w S g cap ls l h hl hlen e0 e1 e2 e3 e4
 replace e4:=Bool.eq_false_iff.mpr e4
 by_cases e5:((Rf.first ls[l]).toList==[99,97,108,108])=true
 ·exact stop_5 w S g cap ls l h hl hlen e0 e1 e2 e3 e4 e5
 replace e5:=Bool.eq_false_iff.mpr e5
 by_cases e6:((Rf.first ls[l]).toList==[114,101,116,117,114,110])=true
 ·exact stop_6 w S g cap ls l h hl hlen e0 e1 e2 e3 e4 e5 e6
 replace e6:=Bool.eq_false_iff.mpr e6
 by_cases e7:((Rf.first ls[l]).toList==[101,110,100])=true
 ·exact stop_7 w S g cap ls l h hl hlen e0 e1 e2 e3 e4 e5 e6 e7 (Rf.zFi hn hl e7)
 replace e7:=Bool.eq_false_iff.mpr e7
 exact stop_8 w S g cap ls l h hl hlen e0 e1 e2 e3 e4 e5 e6 e7
end Go.Proofs.YthleadfkfnnadaaGreat
