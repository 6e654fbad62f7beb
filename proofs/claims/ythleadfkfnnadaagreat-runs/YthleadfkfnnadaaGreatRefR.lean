/- The document's answer: the else of an if; places of words; signs between values; where an expression is split. -/
import Derived.Test.YthleadfkfnnadaaGreatEqvC
set_option maxHeartbeats 4000000
set_option maxRecDepth 100000
namespace Go.Proofs.YthleadfkfnnadaaGreat
namespace Rf
open Rt
theorem zJ2 {pls:List PL} {ls:List (List ByteArray)} (h:zCS pls ls):∀f k,k+f=ls.length→nameErr pls (k+1) (pls.drop (k+1))=rightFrom ls f k
 | 0,k,hk=>by
  rw[List.drop_eq_nil_of_le (by rw[h.len];omega)];rfl
 | f+1,k,hk=>by
  have hkl:k < ls.length:=by omega
  obtain⟨p,h1,h2⟩:=h.get hkl
  obtain⟨hlt,hp⟩:=List.getElem?_eq_some_iff.mp h1
  rw[List.drop_eq_getElem_cons hlt,hp,nameErr,rightFrom,zr hkl,right_eq h hkl h2,zJ2 h f (k+1) (by omega)]
theorem main_eq {pls:List PL} {ls:List (List ByteArray)} (h:zCS pls ls):((zX pls zy).kind=3)↔(¬decl ls zCy=0∧((first (zAA ls (decl ls zCy-1))).toList==[112,114,111,99])=true):=by
 rcases h.zHl zCy with⟨h0,hz⟩| ⟨h0,hd,hli⟩
 ·rw[show zX pls zy=zF from hz,h0]
  simp[zF]
 ·have h3:=(zBk (zX pls zCy).kind).2.2.2.1
  rw[zr hd,(zCt hli).2.2.2.1]
  show ((zX pls zCy).kind=3)↔_
  rw[←h3]
  simp[h0]
theorem empty_sr (ls:List (List ByteArray)):SR ls 0 [] [] []:=by
 refine⟨rfl,rfl,?_,by simp,by simp,.nil,by simp,rfl⟩
 intro pre o suf h
 simp at h
theorem zME (s:ByteArray):(zAY s).1=(zBx s).1∧(zAY s).2.1=(zBx s).2.1∧((zAY s).1=0→zCS (zAY s).2.2 (zBx s).2.2):=by
 have hll:=zIH s
 unfold zAY zBx
 by_cases h1:40000 < s.size
 ·rw[if_pos (show zCB s=true by simp[zCB,h1]),if_pos h1]
  exact⟨rfl,rfl,fun h=>by simp at h⟩
 rw[if_neg h1]
 by_cases h2:100 < (lines s).length
 ·rw[if_pos (show zCB s=true by simp[zCB];omega),if_pos h2]
  exact⟨rfl,rfl,fun h=>by simp at h⟩
 rw[if_neg (show ¬zCB s=true by simp[zCB];omega),if_neg h2]
 obtain⟨e1,e2⟩:=zNj (lines s) 0 [] [] (zCk (by omega)) .nil
 unfold zC1
 rw[e1]
 by_cases h3:(formsFrom 0 (lines s) []).1=0
 ·rw[if_neg (by omega),if_neg (by omega)]
  obtain⟨ps,e3,e4⟩:=e2 (e1.trans h3)
  rw[e3]
  have hlen:(lines s).length=(formsFrom 0 (lines s) []).2.length:=by
   have key:∀(texts:List ByteArray) (i:Nat) (acc:List (List ByteArray)),(formsFrom i texts acc).1=0→(formsFrom i texts acc).2.length=acc.length+texts.length:=by
    intro texts
    induction texts with
    | nil=>intro i acc _;simp[formsFrom]
    | cons t r ih=>
     intro i acc h
     rw[formsFrom]at h ⊢
     cases ht:zf t with
     | none=>rw[ht]at h;simp at h
     | some ts=>
      rw[ht]at h
      simp only at h ⊢
      by_cases hi:zx (tx ts)=true
      ·rw[if_pos hi]at h ⊢
       rw[ih _ _ h];simp;omega
      ·rw[if_neg hi]at h;simp at h
   have:=key (lines s) 0 [] h3
   simpa using this.symm
  generalize (formsFrom 0 (lines s) []).2=ls at *
  show (zBn (Rt.nestFrom ps 1 [] [zPL]).1 (Rt.nestFrom ps 1 [] [zPL]).2.1 (Rt.nestFrom ps 1 [] [zPL]).2.2 (lines s).length).1=_∧_
  have hn:=zPV (ls:=ls) ps 0 [] [zPL] [] [] (by simpa using e4) (empty_sr ls) (by omega)
  rw[hlen]
  change zJN ls 0 [zPL] (Rt.nestFrom ps 1 [] [zPL]) (nested ls)at hn
  show (zBn (Rt.nestFrom ps 1 [] [zPL]).1 (Rt.nestFrom ps 1 [] [zPL]).2.1 (Rt.nestFrom ps 1 [] [zPL]).2.2 ls.length).1=(zDj ls).1∧(zBn (Rt.nestFrom ps 1 [] [zPL]).1 (Rt.nestFrom ps 1 [] [zPL]).2.1 (Rt.nestFrom ps 1 [] [zPL]).2.2 ls.length).2.1=(zDj ls).2.1∧((zBn (Rt.nestFrom ps 1 [] [zPL]).1 (Rt.nestFrom ps 1 [] [zPL]).2.1 (Rt.nestFrom ps 1 [] [zPL]).2.2 ls.length).1=0→zCS (zBn (Rt.nestFrom ps 1 [] [zPL]).1 (Rt.nestFrom ps 1 [] [zPL]).2.1 (Rt.nestFrom ps 1 [] [zPL]).2.2 ls.length).2.2 (zDj ls).2.2)
  unfold zBn zDj
  rcases hn with⟨a1,a2,a3,qs,a4,a5⟩| ⟨a1,a2,a3⟩| ⟨a1,a2⟩
  ·rw[if_neg (by omega),if_neg (by simp[a2]),if_neg (by omega)]
   have hB:zCS (Rt.nestFrom ps 1 [] [zPL]).2.1 ls:=⟨⟨qs,a4,by simpa using a5⟩,a3⟩
   generalize (Rt.nestFrom ps 1 [] [zPL]).2.1=pls at *
   unfold Rt.zA0 zA0
   have hne:=zJ2 hB ls.length 0 (by omega)
   rw[hne]
   by_cases h4:rightFrom ls ls.length 0=0
   ·rw[if_neg (show ¬¬rightFrom ls ls.length 0=0 by omega),if_neg (show ¬¬rightFrom ls ls.length 0=0 by omega)]
    have hm:=main_eq hB
    by_cases h5:(zX pls zy).kind=3
    ·have h6:=hm.mp h5
     rw[if_neg (show ¬¬(zX pls zy).kind=3 from fun h=>h h5),if_neg h6.1,if_neg (by rw[h6.2];simp)]
     exact⟨rfl,rfl,fun _=>hB⟩
    ·rw[if_pos h5]
     by_cases h7:decl ls zCy=0
     ·rw[if_pos h7]
      exact⟨rfl,rfl,fun h=>by simp at h⟩
     ·rw[if_neg h7,if_pos]
      ·exact⟨rfl,rfl,fun h=>by simp at h⟩
      ·cases hq:((first (zAA ls (decl ls zCy-1))).toList==[112,114,111,99])with
       | false=>rfl
       | true=>exact absurd (hm.mpr ⟨h7,hq⟩) h5
   ·rw[if_pos h4,if_pos h4]
    exact⟨rfl,rfl,fun h=>by simp at h⟩
  ·have hl0:¬ls.length=0:=by
    intro h0
    have:ls=[]:=List.eq_nil_of_length_eq_zero h0
    subst this
    cases e4
    simp[Rt.nestFrom]at a2
   rw[if_neg (by omega),if_pos a2,a3,if_pos hl0]
   exact⟨rfl,rfl,fun h=>by simp at h⟩
  ·rw[if_pos a1,a2,if_pos a1]
   exact⟨rfl,rfl,fun h=>by simp at h⟩
 ·rw[if_pos h3,if_pos h3]
  exact⟨rfl,rfl,fun h=>by simp at h⟩
theorem stop_eq {pls:List PL} {ls:List (List ByteArray)} (h:zCS pls ls) {l:Nat} (hl:l < ls.length) {p:PL} (hp:RelN ls l p ls[l]):zAK pls p=zAT ls l ls[l]:=by
 have hop:((first ls[l]).toList==[101,110,100])=true→0 < openerFrom ls l 1:=fun e=>zFi h.nested hl e
 have hob:=zCU ls l 1
 have hpo:=hp.opener
 have hli:=hp.line
 clear hp
 have hform:=fun {d} (hd:d < ls.length)=>h.form hd
 generalize ls[l]=t at *
 obtain⟨tk,fm,dp,opn,pr⟩:=p
 simp only at hli hpo
 have word:∀(x:ByteArray) (r:List ByteArray) (lt:List UInt8),x=⟨lt.toArray⟩→(first (x::r)).toList=lt:=fun x r lt h=>by show x.toList=lt;rw[h,zBB]
 cases hli with
 | empty=>simp[zAK,zAL,zAT,first,at']
 | var x hx=>rw[zAK,zAT,word varB _ [118,97,114] rfl];simp[zAL]
 | array x n hx hn h1 h2=>rw[zAK,zAT,word zMh _ [97,114,114,97,121] rfl];simp[zAL]
 | proc x ps hx hps hpl=>rw[zAK,zAT,word zLJ _ [112,114,111,99] rfl];simp[zAL]
 | end_=>
  have he:=word endB [] [101,110,100] rfl
  have ho:=hop (by rw[he];decide)
  have hi:=hpo (by decide)
  obtain⟨d,hd⟩:∃d,openerFrom ls l 1=d+1:=⟨openerFrom ls l 1-1,by omega⟩
  have hdl:d < ls.length:=by omega
  have hlf:=hform hdl
  have h3:=(zBk (zT pls ((d+1:Nat):Int)).kind).2.2.2.1
  rw[zAK,zAT,he,hd,Nat.add_sub_cancel,zr hdl,(zCt hlf).2.2.2.1,hi,hd]
  show decide ((zT pls ((d+1:Nat):Int)).kind=3)=decide (idx (zT pls ((d+1:Nat):Int)).kind=3)
  rw[Bool.eq_iff_iff,decide_eq_true_iff,decide_eq_true_iff]
  exact h3.symm
 | if_ q e he=>rw[zAK,zAT,word ifB _ [105,102] rfl];simp[zAL]
 | zKQ=>rw[zAK,zAT,word elseB _ [101,108,115,101] rfl];simp[zAL]
 | zGf q e he=>rw[zAK,zAT,word zJU _ [119,104,105,108,101] rfl];simp[zAL]
 | set1 x q e hx he=>rw[zAK,zAT,word zCc _ [115,101,116] rfl];simp[zAL]
 | set2 x q i u e hx hi he=>rw[zAK,zAT,word zCc _ [115,101,116] rfl];simp[zAL]
 | print q e he=>rw[zAK,zAT,word zJm _ [112,114,105,110,116] rfl];simp[zAL]
 | read x hx=>rw[zAK,zAT,word zMw _ [114,101,97,100] rfl];simp[zAL]
 | call x args vs hx hv=>rw[zAK,zAT,word zGZ _ [99,97,108,108] rfl];simp[zAL]
 | zEw=>rw[zAK,zAT,word zHD _ [114,101,116,117,114,110] rfl];simp[zAL]
end Rf
end Go.Proofs.YthleadfkfnnadaaGreat
namespace Go.Proofs.YthleadfkfnnadaaGreat
open Go.RowKit
namespace Rf
theorem zNB (t:List ByteArray):(((first t).toList==[101,110,100])=true∧((first t).toList==[101,108,115,101])=false∧zBN t=false)∨(((first t).toList==[101,110,100])=false∧((first t).toList==[101,108,115,101])=true∧zBN t=false)∨
  (((first t).toList==[101,110,100])=false∧((first t).toList==[101,108,115,101])=false∧zBN t=true)∨(((first t).toList==[101,110,100])=false∧((first t).toList==[101,108,115,101])=false∧zBN t=false):=by
 unfold zBN
 generalize (first t).toList=z
 by_cases h1:z=[101,110,100]
 ·subst h1;left;decide
 by_cases h2:z=[101,108,115,101]
 ·subst h2;right;left;decide
 have e1:(z==[101,110,100])=false:=by simpa using h1
 have e2:(z==[101,108,115,101])=false:=by simpa using h2
 rw[e1,e2]
 right;right
 generalize (_ || _:Bool)=b
 cases b
 ·right;exact⟨rfl,rfl,rfl⟩
 ·left;exact⟨rfl,rfl,rfl⟩
def closerFrom (ls:List (List ByteArray)):Nat→Nat→Int→Nat
 | 0,_,_=>0
 | f+1,m,n=>
  if ((first (zAA ls m)).toList==[101,110,100])=true then
   (if (if zBN (zAA ls m)=true then n+1 else n)-1=0 then m+1 else closerFrom ls f (m+1) ((if zBN (zAA ls m)=true then n+1 else n)-1))
  else closerFrom ls f (m+1) (if zBN (zAA ls m)=true then n+1 else n)
def closer (ls:List (List ByteArray)) (l:Nat):Nat:=closerFrom ls (ls.length-l) l 0
theorem zFE (ls:List (List ByteArray)):∀f m n,closerFrom ls f m n≤m+f
 | 0,_,_=>Nat.zero_le _
 | f+1,m,n=>by
  rw[closerFrom]
  generalize (if zBN (zAA ls m)=true then n+1 else n)=q
  have h1:=zFE ls f (m+1) (q-1)
  have h2:=zFE ls f (m+1) q
  split
  ·split <;> omega
  ·omega
theorem zKa (ls:List (List ByteArray)) {l:Nat} (hl:l≤ls.length):closer ls l≤ls.length:=by
 have:=zFE ls (ls.length-l) l 0
 unfold closer;omega
def otherFrom (ls:List (List ByteArray)) (l c:Nat):Nat→Nat→Nat
 | 0,_=>c
 | f+1,m=>if ((first (zAA ls m)).toList==[101,108,115,101])=true∧openerFrom ls m 1=l+1 then m+1 else otherFrom ls l c f (m+1)
def other (ls:List (List ByteArray)) (l:Nat):Nat:=otherFrom ls l (closer ls l) (closer ls l-(l+2)) (l+1)
end Rf
theorem zKZ (w:World) (S g cap:Nat) (ls:List (List ByteArray)) (l:Nat) (h:zAg w S g cap ls) (hl:l≤ls.length) (hlen:ls.length≤100) :
  Calls Tryz.prog 152 #[.pointer (some ⟨S,0,none⟩),.int .i64 ((l:Int)+1)] w fun e w'=>e=.returned (.int .i64 (Rf.closer ls l))∧Below w.heap.size w w':=by
 have HN:=zB h
 clear h
 go_enter Tryz.func152,Tryz.ntmps152
 go_wp2
 go_loopw [5,6] (fun nv i wr=>∃(f k:Nat) (n:Int),k+f=ls.length∧-(k:Int)≤n∧n≤k∧nv=.int .i64 n∧i=.int .i64 ((k:Int)+1)∧Rf.closerFrom ls f k n=Rf.closer ls l∧zAg wr S g cap ls∧Below w.heap.size w wr) (fun _ i _=>ls.length+1-(intOf i).toNat)
 case atStart=>exact⟨ls.length-l,l,0,by omega,by omega,by omega,rfl,by go_num,rfl,zA HN,Below.refl _ _⟩
 case round=>
  obtain⟨f,k,n,hkf,hn1,hn2,rfl,rfl,hT,hs,hbe⟩:=hrel
  have cT:=hs.top
  have HS:=zB (And.intro hs hbe)
  have HT:=zB hT
  clear hs hbe hT
  cases f with
  | zero=>
   have hj':¬(k:Int)+1≤(ls.length:Int):=by omega
   go_wp2_with fail
   go_ret
   exact⟨by rw[←zA HT];rfl,(zA HS).2⟩
  | succ f=>
   have hlt:k < ls.length:=by omega
   have hj':(k:Int)+1≤(ls.length:Int):=by omega
   rw[Rf.closerFrom,Rf.zr hlt]at HT
   have hk100:k≤100:=by omega
   have hwp:IntKind.i64.wrap (n+1)=n+1:=IntWalk.i64_in _ ⟨by omega,by omega⟩
   have hwm:IntKind.i64.wrap (n-1)=n-1:=IntWalk.i64_in _ ⟨by omega,by omega⟩
   have hwa:IntKind.i64.wrap (n+1-1)=n+1-1:=IntWalk.i64_in _ ⟨by omega,by omega⟩
   go_wp2_with fail
   refine(zLR _ S g cap ls k (zA HS).1 hlt hlen).mono ?_
   rintro e w1 ⟨rfl,hb1⟩
   have HS1:=zB (And.intro ((zA HS).1.zH hb1) ((zA HS).2.trans (hb1.mono (zA HS).2.size)))
   clear hb1 cT
   go_wp2_with fail
   refine(zAN _ S g cap ls k (zA HS1).1 hlt hlen).mono ?_
   rintro e w2 ⟨rfl,hb2⟩
   have HS2:=zB (And.intro ((zA HS1).1.zH hb2) ((zA HS1).2.trans (hb2.mono (zA HS1).2.size)))
   clear hb2
   have HW:=zB (Rf.zNB ls[k])
   generalize Rf.first ls[k]=z at *
   generalize Rf.zBN ls[k]=ob at *
   cases hz:(z.toList==[101,110,100])with
   | true=>
    have hob:ob=false:=by rcases zA HW with⟨_,_,h⟩| ⟨h,_⟩| ⟨h,_⟩| ⟨h,_⟩ <;> first | exact h | (rw[hz]at h;cases h)
    subst hob
    rw[hz]at HT
    clear HW
    simp only[if_true,Bool.false_eq_true,if_false]at HT
    by_cases hn:n-1=0
    ·rw[if_pos hn]at HT
     have hn':(n-1==0)=true:=by simpa using hn
     clear hn
     go_wp2_with fail
     go_ret
     exact⟨by rw[←zA HT];rfl,(zA HS2).2⟩
    ·rw[if_neg hn]at HT
     have hn':(n-1==0)=false:=by simpa using hn
     clear hn
     go_wp2_with fail
     go_roundw
     case rel=>exact⟨f,k+1,n-1,by omega,by omega,by omega,rfl,by go_num,zA HT,(zA HS2).1,(zA HS2).2⟩
     case measure=>simp[intOf];omega
   | false=>
    rw[hz]at HT
    clear HW
    simp only[Bool.false_eq_true,if_false]at HT
    cases ob with
    | true=>
     rw[if_pos rfl]at HT
     go_wp2_with fail
     go_roundw
     case rel=>exact⟨f,k+1,n+1,by omega,by omega,by omega,rfl,by go_num,zA HT,(zA HS2).1,(zA HS2).2⟩
     case measure=>simp[intOf];omega
    | false=>
     rw[if_neg (by decide)]at HT
     go_wp2_with fail
     go_roundw
     case rel=>exact⟨f,k+1,n,by omega,by omega,by omega,rfl,by go_num,zA HT,(zA HS2).1,(zA HS2).2⟩
     case measure=>simp[intOf];omega
namespace Rf
theorem zHp {ls:List (List ByteArray)} {k i:Nat} (h:k < ls.length) (hf:HF (first ls[k]) i) (f:Nat) (n:Int):closerFrom ls (f+1) k n=if i=7 then (if n-1=0 then k+1 else closerFrom ls f (k+1) (n-1))else if i=3∨i=4∨i=5 then closerFrom ls f (k+1) (n+1)else closerFrom ls f (k+1) n:=by
 obtain⟨f0,f1,f2,f3,f4,f5,f6,f7⟩:=hf
 have ho:(zBN ls[k]=true)↔(i=3∨i=4∨i=5):=by
  unfold zBN;rw[f3,f4,f5];simp[or_assoc]
 rw[closerFrom,zr h,f7]
 simp only[ho,decide_eq_true_eq]
 by_cases h7:i=7
 ·simp[h7]
 ·simp[h7]
  split <;> rfl
theorem zEp {ls:List (List ByteArray)}:∀(k n o:Nat),k≤ls.length→0 < n→openerFrom ls k n=o+1→closer ls o=closerFrom ls (ls.length-k) k n
 | 0,_,_,_,_,h=>by simp[openerFrom]at h
 | k+1,n,o,hk,hn,h=>by
  have hkl:k < ls.length:=by omega
  obtain⟨i,_,hF⟩:=zCi (first ls[k])
  have hs:ls.length-k=(ls.length-(k+1))+1:=by omega
  have hc:=fun n:Int=>(congrArg (fun q=>closerFrom ls q k n) hs).trans (zHp hkl hF (ls.length-(k+1)) n)
  rw[zHQ hkl hF]at h
  by_cases h3:i=3∨i=4∨i=5
  ·rw[if_pos h3]at h
   by_cases h1:n=1
   ·rw[if_pos h1]at h
    have:o=k:=by omega
    subst this
    rw[closer,hc,if_neg (by omega),if_pos h3,h1]
    rfl
   ·rw[if_neg h1]at h
    rw[zEp k (n-1) o (by omega) (by omega) h,hc,if_neg (by omega),if_pos h3]
    congr 1
    omega
  ·rw[if_neg h3]at h
   by_cases h7:i=7
   ·rw[if_pos h7]at h
    rw[zEp k (n+1) o (by omega) (by omega) h,hc,if_pos h7,if_neg (by omega)]
    congr 1
    omega
   ·rw[if_neg h7]at h
    rw[zEp k n o (by omega) hn h,hc,if_neg h7,if_neg h3]
theorem zEZ (ls:List (List ByteArray)):∀f m n,closerFrom ls f m n=0∨m < closerFrom ls f m n
 | 0,_,_=>Or.inl rfl
 | f+1,m,n=>by
  rw[closerFrom]
  generalize (if zBN (zAA ls m)=true then n+1 else n)=q
  have h1:=zEZ ls f (m+1) (q-1)
  have h2:=zEZ ls f (m+1) q
  split
  ·split <;> omega
  ·omega
theorem zDo {ls:List (List ByteArray)} (hpos:0 < ls.length):∀(f k:Nat) (op sp:List Nat) (n:Nat),ls.length-k=f→nestFrom ls (ls.drop k) k op sp=0→0 < n→n≤op.length→k≤ls.length→0 < closerFrom ls f k n
 | 0,k,op,sp,n,hf,h,hn,hno,hk=>by
  rw[List.drop_eq_nil_of_le (by omega),nestFrom]at h
  exfalso
  split at h <;> omega
 | f+1,k,op,sp,n,hf,h,hn,hno,hk=>by
  have hkl:k < ls.length:=by omega
  obtain⟨i,_,hF⟩:=zCi (first ls[k])
  rw[zGr hkl hF]at h
  rw[zHp hkl hF]
  by_cases i0:i=0
  ·rw[if_pos i0]at h
   rw[if_neg (by omega),if_neg (by omega)]
   exact zDo hpos f (k+1) op sp n (by omega) h hn hno (by omega)
  rw[if_neg i0]at h
  by_cases hc:decide (i=1∨i=2∨i=3)=!decide (op.length=0)
  ·rw[if_pos hc]at h;omega
  rw[if_neg hc]at h
  by_cases i3:i=3∨i=4∨i=5
  ·rw[if_pos i3]at h
   rw[if_neg (by omega),if_pos i3]
   have:=zDo hpos f (k+1) _ sp (n+1) (by omega) h (by omega) (by simp;omega) (by omega)
   simpa using this
  rw[if_neg i3]at h
  by_cases i6:i=6
  ·rw[if_pos i6]at h
   rw[if_neg (by omega),if_neg i3]
   split at h
   ·omega
   ·exact zDo hpos f (k+1) op _ n (by omega) h hn hno (by omega)
  rw[if_neg i6]at h
  by_cases i7:i=7
  ·rw[if_pos i7]at h
   rw[if_pos i7]
   split
   ·omega
   ·rename_i hq
    have:=zDo hpos f (k+1) _ _ (n-1) (by omega) h (by omega) (by simp;omega) (by omega)
    rw[show ((n:Int)-1)=((n-1:Nat):Int) by omega]
    exact this
  rw[if_neg i7]at h
  rw[if_neg i7,if_neg i3]
  exact zDo hpos f (k+1) op sp n (by omega) h hn hno (by omega)
theorem zPc {ls:List (List ByteArray)} (h:nested ls=0) {l:Nat} (hl:l < ls.length) (he:((first ls[l]).toList==[101,108,115,101])=true):0 < openerFrom ls l 1∧l+1 < closer ls (openerFrom ls l 1-1):=by
 obtain⟨op,sp,h1,h2,h3⟩:=zE0 ls.length 0 [] [] (by omega) h (by intro pre o suf he;simp at he) (by simp) l hl (by omega)
 obtain⟨i,_,hF⟩:=zCi (first ls[l])
 have h6:i=6:=by
  have:=hF.2.2.2.2.2.2.1
  rw[he]at this
  simpa using this.symm
 subst h6
 have h1':=h1
 rw[zGr hl hF]at h1
 rcases zDI op with rfl | ⟨pre,x,rfl⟩
 ·simp at h1
 ·have ho:=h2 pre x [] rfl
  have hx:=h3 x (by simp)
  simp at ho
  have hpos:0 < openerFrom ls l 1:=by omega
  refine⟨hpos,?_⟩
  have hc:=zEp (ls:=ls) l 1 (openerFrom ls l 1-1) (by omega) (by omega) (by omega)
  have hd:=zDo (ls:=ls) (by omega) (ls.length-l) l (pre++[x]) sp 1 rfl h1' (by omega) (by simp) (by omega)
  rw[hc]
  have hs:ls.length-l=(ls.length-(l+1))+1:=by omega
  have e1:=zHp hl hF (ls.length-(l+1)) ((1:Nat):Int)
  rw[if_neg (show ¬(6:Nat)=7 by omega),if_neg (show ¬((6:Nat)=3∨(6:Nat)=4∨(6:Nat)=5) by omega)]at e1
  rw[hs,e1]at hd ⊢
  rcases zEZ ls (ls.length-(l+1)) (l+1) ((1:Nat):Int)with h | h <;> omega
def goesFrom (ls:List (List ByteArray)):Nat→Nat→Nat
 | 0,_=>0
 | f+1,k=>
  if ls.length≤k then 0
  else if zAT ls k (zAA ls k)=true then k+1
  else if ((first (zAA ls k)).toList==[101,108,115,101])=true then goesFrom ls f (closer ls (openerFrom ls k 1-1))
  else if ((first (zAA ls k)).toList==[101,110,100])=true then (if ((first (zAA ls (openerFrom ls k 1-1))).toList==[119,104,105,108,101])=true then openerFrom ls k 1 else goesFrom ls f (k+1))
  else goesFrom ls f (k+1)
def zAp (ls:List (List ByteArray)) (k:Nat):Nat:=goesFrom ls (ls.length+1-k) k
theorem zQm {ls:List (List ByteArray)} (f k:Nat) (hk:k < ls.length):goesFrom ls (f+1) k=if zAT ls k ls[k]=true then k+1
  else if ((first ls[k]).toList==[101,108,115,101])=true then goesFrom ls f (closer ls (openerFrom ls k 1-1))
  else if ((first ls[k]).toList==[101,110,100])=true then (if ((first (zAA ls (openerFrom ls k 1-1))).toList==[119,104,105,108,101])=true then openerFrom ls k 1 else goesFrom ls f (k+1))
  else goesFrom ls f (k+1):=by rw[goesFrom,if_neg (by omega),zr hk]
end Rf
theorem zHa (w:World) (S g cap:Nat) (ls:List (List ByteArray)) (l:Nat) (h:zAg w S g cap ls) (hl:l≤ls.length) (hlen:ls.length≤100) (hn:Rf.nested ls=0) :
  Calls Tryz.prog 94 #[.pointer (some ⟨S,0,none⟩),.int .i64 ((l:Int)+1)] w fun e w'=>e=.returned (.int .i64 (Rf.zAp ls l))∧Below w.heap.size w w':=by
 have HN:=zB h
 have HNe:=zB hn
 clear h hn
 go_enter Tryz.func94,Tryz.ntmps94
 go_wp2
 go_loopw [1] (fun i wr=>∃f k:Nat,k≤ls.length∧ls.length < f+k∧i=.int .i64 ((k:Int)+1)∧Rf.goesFrom ls f k=Rf.zAp ls l∧zAg wr S g cap ls∧Below w.heap.size w wr) (fun i _=>ls.length+1-(intOf i).toNat)
 case atStart=>exact⟨ls.length+1-l,l,hl,by omega,by go_num,rfl,zA HN,Below.refl _ _⟩
 case round=>
  obtain⟨f,k,hk,hkf,rfl,hT,hs,hbe⟩:=hrel
  have cT:=hs.top
  have HS:=zB (And.intro hs hbe)
  obtain⟨f,rfl⟩:∃q,f=q+1:=⟨f-1,by omega⟩
  by_cases hlt:k < ls.length
  ·rw[Rf.zQm f k hlt]at hT
   have HT:=zB hT
   clear hs hbe hT
   have hj':(k:Int)+1≤(ls.length:Int):=by omega
   go_wp2_with fail
   refine(stop_ref _ S g cap ls k (zA HS).1 hlt hlen (zA HNe)).mono ?_
   rintro e w1 ⟨rfl,hb1⟩
   have HS1:=zB (And.intro ((zA HS).1.zH hb1) ((zA HS).2.trans (hb1.mono (zA HS).2.size)))
   clear hb1 cT
   cases hst:Rf.zAT ls k ls[k]with
   | true=>
    rw[hst,if_pos rfl]at HT
    go_wp2_with fail
    go_ret
    exact⟨by rw[←zA HT];rfl,(zA HS1).2⟩
   | false=>
    rw[hst,if_neg (by decide)]at HT
    have hob:=Rf.zCU ls k 1
    go_wp2_with fail
    refine(zGp _ S g cap ls k (zA HS1).1 hlt hlen).mono ?_
    rintro e w2 ⟨rfl,hb2⟩
    have HS2:=zB (And.intro ((zA HS1).1.zH hb2) ((zA HS1).2.trans (hb2.mono (zA HS1).2.size)))
    clear hb2
    go_wp2_with fail
    refine(zAN _ S g cap ls k (zA HS2).1 hlt hlen).mono ?_
    rintro e w3 ⟨rfl,hb3⟩
    have HS3:=zB (And.intro ((zA HS2).1.zH hb3) ((zA HS2).2.trans (hb3.mono (zA HS2).2.size)))
    clear hb3
    cases hel:((Rf.first ls[k]).toList==[101,108,115,101])with
    | true=>
     obtain⟨ho1,ho2⟩:=Rf.zPc (zA HNe) hlt hel
     obtain⟨o,ho⟩:∃o,Rf.openerFrom ls k 1=o+1:=⟨Rf.openerFrom ls k 1-1,by omega⟩
     rw[hel,if_pos rfl,ho,Nat.add_sub_cancel]at HT
     rw[ho,Nat.add_sub_cancel]at ho2
     rw[ho]at hob
     have hcb:=Rf.zKa ls (l:=o) (by omega)
     rw[ho,show ((o+1:Nat):Int)=(o:Int)+1 by omega]
     have HO:=zB ho2
     have HCB:=zB hcb
     clear ho ho1 ho2 hcb
     go_wp2_with fail
     refine(zKZ _ S g cap ls o (zA HS3).1 (by omega) hlen).mono ?_
     rintro e w4 ⟨rfl,hb4⟩
     have HS4:=zB (And.intro ((zA HS3).1.zH hb4) ((zA HS3).2.trans (hb4.mono (zA HS3).2.size)))
     clear hb4
     generalize Rf.closer ls o=c at *
     have hc1:=zA HO
     have hc2:=zA HCB
     go_wp2_with fail
     go_roundw
     case rel=>exact⟨f,c,by omega,by omega,by go_num,zA HT,(zA HS4).1,(zA HS4).2⟩
     case measure=>simp[intOf];omega
    | false=>
     rw[hel,if_neg (by decide)]at HT
     cases hen:((Rf.first ls[k]).toList==[101,110,100])with
     | true=>
      have ho1:=Rf.zFi (zA HNe) hlt hen
      obtain⟨o,ho⟩:∃o,Rf.openerFrom ls k 1=o+1:=⟨Rf.openerFrom ls k 1-1,by omega⟩
      rw[ho]at hob
      have hol:o < ls.length:=by omega
      rw[hen,if_pos rfl,ho,Nat.add_sub_cancel,Rf.zr hol]at HT
      rw[ho,show ((o+1:Nat):Int)=(o:Int)+1 by omega]
      clear ho ho1
      go_wp2_with fail
      refine(zAN _ S g cap ls o (zA HS3).1 hol hlen).mono ?_
      rintro e w4 ⟨rfl,hb4⟩
      have HS4:=zB (And.intro ((zA HS3).1.zH hb4) ((zA HS3).2.trans (hb4.mono (zA HS3).2.size)))
      clear hb4
      cases hwh:((Rf.first ls[o]).toList==[119,104,105,108,101])with
      | true=>
       rw[hwh,if_pos rfl]at HT
       go_wp2_with fail
       go_ret
       exact⟨by rw[←zA HT];rfl,(zA HS4).2⟩
      | false=>
       rw[hwh,if_neg (by decide)]at HT
       go_wp2_with fail
       go_roundw
       case rel=>exact⟨f,k+1,by omega,by omega,by go_num,zA HT,(zA HS4).1,(zA HS4).2⟩
       case measure=>simp[intOf];omega
     | false=>
      rw[hen,if_neg (by decide)]at HT
      go_wp2_with fail
      go_roundw
      case rel=>exact⟨f,k+1,by omega,by omega,by go_num,zA HT,(zA HS3).1,(zA HS3).2⟩
      case measure=>simp[intOf];omega
  ·have hke:k=ls.length:=by omega
   have HT:Hid (0=Rf.zAp ls l):=zB (by rw[←hT,Rf.goesFrom,if_pos (by omega)])
   clear hs hbe hT
   have hj':¬(k:Int)+1≤(ls.length:Int):=by omega
   clear hke
   go_wp2_with fail
   go_ret
   exact⟨by rw[←zA HT];rfl,(zA HS).2⟩
namespace Rf
theorem zOZ {ls:List (List ByteArray)} {l c f m:Nat} (h:m < ls.length):otherFrom ls l c (f+1) m=if ((first ls[m]).toList==[101,108,115,101])=true∧openerFrom ls m 1=l+1 then m+1 else otherFrom ls l c f (m+1):=by
 rw[otherFrom,zr h]
def indexFrom (xs:List ByteArray) (x:ByteArray):Nat→Nat→Int
 | 0,_=>-1
 | f+1,k=>if at' xs k=x then (k:Int)else indexFrom xs x f (k+1)
def index (xs:List ByteArray) (x:ByteArray):Int:=indexFrom xs x xs.length 0
def two (a:Int) (x:List UInt8) (b:Int):Int×Int:=
 if (x==[43])=true then (wrap64 (a+b),0)else if (x==[45])=true then (wrap64 (a-b),0)else if (x==[42])=true then (wrap64 (a*b),0)
 else if (x==[60])=true then (if a < b then 1 else 0,0)else if (x==[61])=true then (if a=b then 1 else 0,0)
 else if b=0 then (0,2)else if (x==[47])=true then (wrap64 (a.tdiv b),0)else (a.tmod b,0)
def split (t:List ByteArray):Int:=if last zBG t < 0 then (if last zBL t < 0 then last zBh t else last zBL t)else last zBG t
end Rf
theorem zQO (w:World) (S g cap:Nat) (ls:List (List ByteArray)) (l:Nat) (h:zAg w S g cap ls) (hl:l < ls.length) (hlen:ls.length≤100) :
  Calls Tryz.prog 157 #[.pointer (some ⟨S,0,none⟩),.int .i64 ((l:Int)+1)] w fun e w'=>e=.returned (.int .i64 (Rf.other ls l))∧Below w.heap.size w w':=by
 have HN:=zB h
 clear h
 go_enter Tryz.func157,Tryz.ntmps157
 go_wp2_with fail
 refine(zKZ _ S g cap ls l (zA HN) (by omega) hlen).mono ?_
 rintro e w1 ⟨rfl,hb1⟩
 have hcb:=Rf.zKa ls (l:=l) (by omega)
 have HG:=zB (And.intro ((zA HN).zH hb1) hb1)
 have HR:Hid (Rf.other ls l=Rf.otherFrom ls l (Rf.closer ls l) (Rf.closer ls l-(l+2)) (l+1)):=zB rfl
 clear hb1
 generalize Rf.closer ls l=c at *
 go_wp2_with fail
 go_loopw [6] (fun i wr=>∃f k:Nat,l+1≤k∧k≤ls.length∧f=c-(k+1)∧i=.int .i64 ((k:Int)+1)∧Rf.otherFrom ls l c f k=Rf.other ls l∧zAg wr S g cap ls∧Below w.heap.size w wr) (fun i _=>ls.length+1-(intOf i).toNat)
 case atStart=>exact⟨_,l+1,by omega,by omega,rfl,by go_num,(zA HR).symm,(zA HG).1,(zA HG).2⟩
 case round=>
  obtain⟨f,k,hk1,hk2,hf,rfl,hT,hs,hbe⟩:=hrel
  have HS:=zB (And.intro hs hbe)
  have HT:=zB hT
  have HF:=zB hf
  clear hs hbe hT hf
  cases f with
  | zero=>
   have hj':¬(k:Int)+1 < (c:Int):=by have:=zA HF;omega
   go_wp2_with fail
   go_ret
   exact⟨by rw[←zA HT];rfl,(zA HS).2⟩
  | succ f=>
   have hj':(k:Int)+1 < (c:Int):=by have:=zA HF;omega
   have hlt:k < ls.length:=by omega
   rw[Rf.zOZ hlt]at HT
   go_wp2_with fail
   refine(zAN _ S g cap ls k (zA HS).1 hlt hlen).mono ?_
   rintro e w2 ⟨rfl,hb2⟩
   have HS2:=zB (And.intro ((zA HS).1.zH hb2) ((zA HS).2.trans (hb2.mono (zA HS).2.size)))
   clear hb2
   generalize Rf.first ls[k]=z at *
   cases hz:(z.toList==[101,108,115,101])with
   | true=>
    rw[hz]at HT
    simp only[true_and]at HT
    go_wp2_with fail
    refine(zGp _ S g cap ls k (zA HS2).1 hlt hlen).mono ?_
    rintro e w3 ⟨rfl,hb3⟩
    have HS3:=zB (And.intro ((zA HS2).1.zH hb3) ((zA HS2).2.trans (hb3.mono (zA HS2).2.size)))
    clear hb3
    generalize Rf.openerFrom ls k 1=o at *
    by_cases ho:o=l+1
    ·rw[if_pos ho]at HT
     have ho':((o:Int)==(l:Int)+1)=true:=by rw[beq_iff_eq];omega
     clear ho
     go_wp2_with fail
     go_ret
     exact⟨by rw[←zA HT];rfl,(zA HS3).2⟩
    ·rw[if_neg ho]at HT
     have ho':((o:Int)==(l:Int)+1)=false:=by rw[beq_eq_false_iff_ne];omega
     clear ho
     go_wp2_with fail
     go_roundw
     case rel=>exact⟨f,k+1,by omega,by omega,by have:=zA HF;omega,by go_num,zA HT,(zA HS3).1,(zA HS3).2⟩
     case measure=>simp[intOf];omega
   | false=>
    rw[hz]at HT
    simp only[Bool.false_eq_true,false_and,if_false]at HT
    go_wp2_with fail
    go_roundw
    case rel=>exact⟨f,k+1,by omega,by omega,by have:=zA HF;omega,by go_num,zA HT,(zA HS2).1,(zA HS2).2⟩
    case measure=>simp[intOf];omega
theorem zLc (w:World) (v:Value) (xs:List ByteArray) (x:ByteArray) (h:zu w v xs) (hl:xs.length≤100000) :
  Calls Tryz.prog 116 #[v,.string x] w fun e w'=>e=.returned (.int .i64 (Rf.index xs x))∧w'=w:=by
 obtain⟨ad,cap,rfl,_,h⟩:=h
 have HH:=zB h
 clear h
 go_enter Tryz.func116,Tryz.ntmps116
 go_wp2
 go_loop [5] (fun i=>∃f k:Nat,k+f=xs.length∧i=.int .i64 k∧Rf.indexFrom xs x f k=Rf.index xs x) (fun i=>xs.length-(intOf i).toNat)
 case atStart=>exact⟨xs.length,0,by omega,rfl,rfl⟩
 case round=>
  obtain⟨f,k,hk,rfl,hT⟩:=hrel
  have HT:=zB hT
  clear hT
  cases f with
  | zero=>
   have hlt':¬(k:Int) < (xs.length:Int):=by omega
   go_wp2
   go_ret
   exact⟨by rw[←zA HT];rfl,rfl⟩
  | succ f=>
   have hlt:k < xs.length:=by omega
   rcases zA HH with h | ⟨b,o,rfl,h⟩
   ·rw[h]at hlt;simp at hlt
   have cx:=h k hlt
   have hlt':(k:Int) < (xs.length:Int):=by omega
   clear h
   rw[Rf.indexFrom,Rf.zAi hlt]at HT
   by_cases hx:xs[k]=x
   ·rw[if_pos hx]at HT
    have hx':=Rt.zDv hx
    clear hx
    go_wp2
    go_ret
    exact⟨by rw[←zA HT];rfl,rfl⟩
   ·rw[if_neg hx]at HT
    have hx':=Rt.zFR hx
    clear hx
    go_wp2
    go_round
    case rel=>exact⟨f,k+1,by omega,by go_num,zA HT⟩
    case measure=>simp[intOf];omega
theorem two_ref (w:World) (a b:Int) (x:ByteArray) :
  Calls Tryz.prog 186 #[.int .i64 a,.string x,.int .i64 b] w fun e w'=>e=.returned (.tuple #[.int .i64 (Rf.two a x.toList b).1,.int .i64 (Rf.two a x.toList b).2])∧w'=w:=by
 have HE:Hid (Rf.two a x.toList b=_):=zB (by unfold Rf.two;rfl)
 go_enter Tryz.func186,Tryz.ntmps186
 cases h1:(x.toList==[43])with
 | true=>
  rw[h1,if_pos rfl]at HE
  go_wp2_with fail
  go_ret2
  exact⟨by rw[zA HE];rfl,rfl⟩
 | false=>
 rw[h1,if_neg (by decide)]at HE
 cases h2:(x.toList==[45])with
 | true=>
  rw[h2,if_pos rfl]at HE
  go_wp2_with fail
  go_ret2
  exact⟨by rw[zA HE];rfl,rfl⟩
 | false=>
 rw[h2,if_neg (by decide)]at HE
 cases h3:(x.toList==[42])with
 | true=>
  rw[h3,if_pos rfl]at HE
  go_wp2_with fail
  go_ret2
  exact⟨by rw[zA HE];rfl,rfl⟩
 | false=>
 rw[h3,if_neg (by decide)]at HE
 cases h4:(x.toList==[60])with
 | true=>
  rw[h4,if_pos rfl]at HE
  by_cases hc:a < b
  ·rw[if_pos hc]at HE
   go_wp2_with fail
   go_ret2
   exact⟨by rw[zA HE];rfl,rfl⟩
  ·rw[if_neg hc]at HE
   go_wp2_with fail
   go_ret2
   exact⟨by rw[zA HE];rfl,rfl⟩
 | false=>
 rw[h4,if_neg (by decide)]at HE
 cases h5:(x.toList==[61])with
 | true=>
  rw[h5,if_pos rfl]at HE
  by_cases hc:a=b
  ·rw[if_pos hc]at HE
   have hc':(a==b)=true:=by simpa using hc
   clear hc
   go_wp2_with fail
   go_ret2
   exact⟨by rw[zA HE];rfl,rfl⟩
  ·rw[if_neg hc]at HE
   have hc':(a==b)=false:=by simpa using hc
   clear hc
   go_wp2_with fail
   go_ret2
   exact⟨by rw[zA HE];rfl,rfl⟩
 | false=>
 rw[h5,if_neg (by decide)]at HE
 by_cases hb:b=0
 ·rw[if_pos hb]at HE
  have hb':(b==0)=true:=by simpa using hb
  clear hb
  go_wp2_with fail
  go_ret2
  exact⟨by rw[zA HE];rfl,rfl⟩
 rw[if_neg hb]at HE
 have hb':(b==0)=false:=by simpa using hb
 cases h6:(x.toList==[47])with
 | true=>
  rw[h6,if_pos rfl]at HE
  go_wp2_with fail
  go_ret2
  exact⟨by rw[zA HE];rfl,rfl⟩
 | false=>
  rw[h6,if_neg (by decide)]at HE
  go_wp2_with fail
  go_ret2
  exact⟨by rw[zA HE];rfl,rfl⟩
theorem zEg (w:World) (v:Value) (t:List ByteArray) (h:zu w v t) (hf:Few t) :
  Calls Tryz.prog 185 #[v] w fun e w'=>e=.returned (.int .i64 (Rf.split t))∧Below w.heap.size w w':=by
 have hl:=hf.1
 have HF:=zB hf
 clear hf
 have HE:Hid (Rf.split t=_):=zB (by unfold Rf.split;rfl)
 obtain⟨ad,cap,rfl,hcap⟩:=h.form
 have HV:=zB h
 clear h
 go_enter Tryz.func185,Tryz.ntmps185
 go_wp2_with fail
 refine(zGY _).mono ?_
 rintro e w1 ⟨sv,rfl,hsv,hb1⟩
 have HV1:=zB ((zA HV).zH hb1)
 go_wp2_with fail
 refine(zEk _ _ _ t Rf.zBG (zA HV1) hsv (by omega) (by decide) (zA HF).2).mono ?_
 rintro e w2 ⟨rfl,hb2⟩
 have HB2:=zB (hb1.trans (hb2.mono (B':=w.heap.size) hb1.size))
 have HV2:=zB ((zA HV1).zH hb2)
 clear hb1 hb2 hsv HV HV1
 by_cases h1:Rf.last Rf.zBG t < 0
 ·rw[if_pos h1]at HE
  go_wp2_with fail
  refine(zKl _).mono ?_
  rintro e w3 ⟨sv,rfl,hsv,hb1⟩
  have HV1:=zB ((zA HV2).zH hb1)
  have HB3:=zB ((zA HB2).trans (hb1.mono (B':=w.heap.size) (zA HB2).size))
  clear hb1
  go_wp2_with fail
  refine(zEk _ _ _ t Rf.zBL (zA HV1) hsv (by omega) (by decide) (zA HF).2).mono ?_
  rintro e w4 ⟨rfl,hb2⟩
  have HB4:=zB ((zA HB3).trans (hb2.mono (B':=w.heap.size) (zA HB3).size))
  have HV4:=zB ((zA HV1).zH hb2)
  clear hb2 hsv HV1 HV2
  by_cases h2:Rf.last Rf.zBL t < 0
  ·rw[if_pos h2]at HE
   go_wp2_with fail
   refine(zHi _).mono ?_
   rintro e w5 ⟨sv,rfl,hsv,hb1⟩
   have HV1:=zB ((zA HV4).zH hb1)
   have HB5:=zB ((zA HB4).trans (hb1.mono (B':=w.heap.size) (zA HB4).size))
   clear hb1
   go_wp2_with fail
   refine(zEk _ _ _ t Rf.zBh (zA HV1) hsv (by omega) (by decide) (zA HF).2).mono ?_
   rintro e w6 ⟨rfl,hb2⟩
   have HB6:=zB ((zA HB5).trans (hb2.mono (B':=w.heap.size) (zA HB5).size))
   clear hb2 hsv
   go_wp2_with fail
   go_ret
   exact⟨by rw[zA HE];rfl,zA HB6⟩
  ·rw[if_neg h2]at HE
   go_wp2_with fail
   go_ret
   exact⟨by rw[zA HE];rfl,zA HB4⟩
 ·rw[if_neg h1]at HE
  go_wp2_with fail
  go_ret
  exact⟨by rw[zA HE];rfl,zA HB2⟩
end Go.Proofs.YthleadfkfnnadaaGreat
