/- The law's world: looks. -/
import Derived.Test.YthleadfkfnnadaaGreatRefK
set_option maxHeartbeats 4000000
set_option maxRecDepth 100000
set_option linter.unusedSimpArgs false
namespace Go.Proofs.YthleadfkfnnadaaGreat
open Rf Go.Proofs.Tryz
open Go.RowKit
variable {m:Int} {ls:List (List ByteArray)} {op:List Nat} {xs:List Value} {k i S g cap B n:Nat} {row:Option Nat} {v:Value} {w:World}
def Dn (s:ByteArray) (w:World) (e:Ending) (w':World):Prop:=Below w.heap.size w w'/\
  ((¬(vP s).1=0/\e=.returned (.tuple #[.pointer none,.int .i64 (vP s).1,.int .i64 (vP s).2.1]))\/
   ((vP s).1=0/\(vP s).2.1=0/\bo (vP s).2.2/\0 < (vP s).2.2.length/\(vP s).2.2.length<=100/\∃S g cap,e=.returned (.tuple #[.pointer (some ⟨S,0,none⟩),.int .i64 0,.int .i64 0])/\jA w' S g cap (vP s).2.2))
theorem Dm (s:ByteArray) (hs:s.size<=maxLen):Calls Tryz.prog 44 #[.string s] w (Dn s w):=by
 unfold maxLen at hs;obtain⟨i0,hi,f6,f5,f4⟩:=yi pV;by_cases hl:40000 < s.size
 ·have f8:(40000:Int) < (s.size:Int):=by omega
  have HE:=zD (show vP s=(1,0,[]) by rw[vP,zE hl]);go_enter func44,ntmps44;go_wp2_with fail;go_ret3;exact⟨zI _ _,Or.inl ⟨by rw[HE.u];decide,by rw[HE.u];rfl⟩⟩
 ·have f8:¬(40000:Int) < (s.size:Int):=by omega
  have d1:s.size<=40000:=by omega
  have hR:vP s=if 100 < (Rt.lines s).length then ((1,0,[]):Int×Int×List (List ByteArray))else if ¬(Rf.formsFrom 0 (Rt.lines s) []).1=0 then (2,((Rf.formsFrom 0 (Rt.lines s) []).1:Int),[])else Xu (Rf.formsFrom 0 (Rt.lines s) []).2:=by rw[vP,zA hl]
  have o:=zD hR;have g6:=zD (Rt.YM d1);have i1:0 < (Rt.lines s).length:=by rw[Rt.ch];omega
  clear hR;go_enter func44,ntmps44;go_wp2_with fail;refine(Ak s d1).mono ?_;rintro e w1 ⟨T,v1,rfl,W⟩;obtain⟨i2,c1,rfl⟩:=zK W;generalize Rt.lines s=L at *;by_cases hm:100 < L.length
  ·have f7:(100:Int) < (L.length:Int):=by omega
   rw[zE hm]at o;have HB:=zD T;clear T W;go_wp2_with fail;go_ret3;exact⟨HB.u,Or.inl ⟨by rw[o.u];decide,by rw[o.u];rfl⟩⟩
  ·have f7:decide ((100:Int) < (L.length:Int))=false:=by rw[kH];omega
   have h6:¬(100:Int) < (L.length:Int):=by omega
   rw[zA hm]at o;have HB:=zD T;have HO:=zD W;have h1:=T.size;clear T W;have hA:=zN w1 (.cells #[.slice none 0 0] 85);have HA:=zD hA;clear hA;go_wp2_with fail;generalize hF:Rf.formsFrom 0 L []=F at *;have HF:=zD hF;clear hF;go_loopw [7] (fun i wr=>∃(k:Nat) (acc:List (List ByteArray)) (lv:Value) (vs:List Value),k<=L.length/\i=.int .i64 k/\acc.length=k/\Rf.formsFrom k (L.drop k) acc=F/\bo acc/\ng wr w1.heap.size acc lv vs/\Below w1.heap.size w1 wr)
    (fun i _=>L.length-(intOf i).toNat)
   case atStart=>exact⟨0,[],_,[],zo _,rfl,rfl,HF.u,⟨by simp,by simp⟩,⟨HA.u,zW _ _ _ _,⟨rfl,fun j h=>by simp at h⟩⟩,(zI _ _).alloc (zB _) _⟩
   case round=>
    obtain⟨k,acc,lv,vs,hk,rfl,a7,hT,d4,U,M⟩:=hrel;have HK:=zD a7;clear a7;have HT:=zD hT;have a0:=zD d4;clear hT d4;by_cases hlt:k < L.length
    ·have d3:(k:Int) < (L.length:Int):=by omega
     obtain⟨gx,g3,c0,_,_,cx⟩:=yD (yG HO.u M) (j:=k) (u:=.string L[k]) (by simp[hlt]);have d0:=g6.u L[k] (zj hlt);simp at c0;obtain⟨rfl,rfl⟩:=c0;have R:L.drop k=L[k]::L.drop (k+1):=zZ hlt;rw[R,Rf.formsFrom]at HT;clear R;have HS:=qG U M;have h0:=M.size;clear U M;generalize L[k]=x at *;go_wp2_with fail;refine(rf x d0).mono ?_;rintro e w2 ⟨y,(⟨ht,v2,rfl⟩| ⟨ts,v2,ht,rfl,V⟩)⟩
     ·rw[ht]at HT;have g9:=zD (HS.u.2.trans (y.mono HS.u.2.size));clear y;go_wp2_with fail;go_ret3;have O:¬F.1=0:=by rw[<-HT.u];simp
      have b6:F.1=k+1:=by rw[<-HT.u]
      refine⟨HB.u.trans (g9.u.mono HB.u.size),Or.inl ⟨by rw[o.u,zE O];simp,by rw[o.u,zE O,b6];simp⟩⟩
     ·rw[ht]at HT;have a6:=GA d0 ht;have a3:ts.map fC=(Rf.tx ts).map Value.string:=by simp[Rf.tx,fC]
      have a4:ts.length=(Rf.tx ts).length:=by simp[Rf.tx]
      rw[a3,a4]at V;have b7:=qG (HS.u.1.zP y) (HS.u.2.trans (y.mono HS.u.2.size));have h3:=y.size;have b1:=zD a6;clear a3 a4 y ht a6;simp only at HT;generalize Rf.tx ts=t at *;obtain⟨g5,c2,rfl⟩:=zK V;have f1:=zD V;clear V;go_wp2_with fail;refine(tK b1.u _ _ (QA f1.u)).mono ?_;rintro e w3 ⟨rfl,D⟩;have G:=qG (b7.u.1.zP D) (b7.u.2.trans (D.mono b7.u.2.size));have g8:=zD (yG f1.u D);have h2:=D.size;clear D;cases hz:xM t with
      | false=>
       rw[hz,zA (by decide)]at HT;go_wp2_with fail;go_ret3;have O:¬F.1=0:=by rw[<-HT.u];simp
       have b6:F.1=k+1:=by rw[<-HT.u]
       refine⟨HB.u.trans (G.u.2.mono HB.u.size),Or.inl ⟨by rw[o.u,zE O];simp,by rw[o.u,zE O,b6];simp⟩⟩
      | true=>
       rw[hz,zE rfl]at HT;have f2:=zD (a0.u.snoc b1.u hz);clear hz;obtain⟨b9,a1,b3⟩:=zK G.u.1.own;subst b3;have cS:=zC G.u.1.block 0 (by simp);simp at cS;have A:w3.ownsRow (w1.heap.size+1) 87 1 (.slice b9 acc.length a1) acc.length vs:=G.u.1.own;rw[HK.u]at A cS;have g2:k<=100:=by omega
       go_wp2_with (at_builtin;refine wpList_append_lies _ rfl (.tmp 49) (.tmp 51) 83 rfl (w1.heap.size+1) 87 i0 _ 1 24 underlying83 hi f6 f5 f4 rfl (by decide) _ _ _ rfl (A.alloc _) ⟨_,0,none⟩ 1 1 [.slice g5 t.length c2] rfl rfl (cell_one_new _ _ _) (by simp[Value.oneCell']) (by omega) (by unfold maxLen;omega) (by omega) (by have:=zQ G.u.1.block;simp;omega) _ rfl ?_);intro g4 h4 w4 N I g1 d2;have a2:(Value.slice b9 k a1).ownBlock≠some w1.heap.size:=fun h=>by have:=(A.lt _ h).1;omega
       obtain⟨d5,h8⟩:=EA G.u.1.block ((zI _ _).alloc (zB _) _) I a2;have a5:=G.u.1.push (yn (b':=w1.heap.size+1) g8.u (by have:=zQ HS.u.1.block;omega)) ((zI _ _).alloc (zB _) _) (by rw[HK.u];exact N) (by rw[HK.u];exact I);have f3:=zD a5;clear a5 N I g1 d2 a2 A cS;rw[HK.u]at d5;go_wp2_with fail;go_roundw
       case rel=>
        obtain⟨q1,q2,_⟩:=f3.u;exact⟨k+1,_,_,_,by omega,by go_num,by simp;exact HK.u,HT.u,f2.u,q1,G.u.2.trans q2⟩
       case measure=>simp[intOf];omega
    ·have d3:¬(k:Int) < (L.length:Int):=by omega
     rw[zp (by omega),Rf.formsFrom]at HT;have f0:F=(0,acc):=HT.u.symm;rw[f0,zA (by simp)]at o;have Z:acc.length<=100:=by have:=HK.u;omega
     have d8:0 < acc.length:=by have:=HK.u;omega
     obtain⟨g,cap,b3,hG⟩:=U.toG d8;have HG:=qG hG (HB.u.trans (M.mono HB.u.size));have b0:=zD (a0.u.lawful Z);clear f0 U M hG b3 HT HA HF;generalize hS:w1.heap.size=S at *;clear hS;go_wp2_with fail;refine(si HG.u.1 Z).mono ?_;rintro e w2 ⟨rfl,y⟩;have HG2:=qG (HG.u.1.zP y) (HG.u.2.trans (y.mono HG.u.2.size));clear y;change Hd (vP s=if ¬Rf.nested acc=0 then (3,(Rf.nested acc:Int),[])else if ¬Rf.rightFrom acc acc.length 0=0 then (4,(Rf.rightFrom acc acc.length 0:Int),[])else Rf.jV acc)at o;by_cases hn:Rf.nested acc=0
     ·rw[zA (by omega)]at o;have g7:=zD (a0.u.F6 hn);rw[hn];generalize d9:Rf.rightFrom acc acc.length 0=RF at *;have HRF:=zD d9;clear d9 hn;go_wp2_with fail;go_loopw [10] (fun i wr=>∃j f:Nat,j+f=acc.length/\i=.int .i64 ((j:Int)+1)/\Rf.rightFrom acc f j=RF/\jA wr S g cap acc/\Below w.heap.size w wr) (fun i _=>acc.length+1-(intOf i).toNat)
      case atStart=>exact⟨0,acc.length,by omega,rfl,HRF.u,HG2.u.1,HG2.u.2⟩
      case round=>
       obtain⟨j,f,h7,rfl,hT,b2,D⟩:=hrel;have HT:=zD hT;have H:=qG b2 D;have cT:=b2.top;clear hT b2 D;cases f with
       | zero=>
        have f9:¬(j:Int)+1<=(acc.length:Int):=by omega
        have a9:RF=0:=by rw[<-HT.u];rfl
        rw[a9,zA (by simp),Rf.jV]at o;clear a9;have h9:=Qb acc Yk;go_wp2_with fail;refine(qg Yk H.u.1 b0.u).mono ?_;rintro e w4 ⟨rfl,J⟩;have HG4:=qG (H.u.1.zP J) (H.u.2.trans (J.mono H.u.2.size));clear J cT;cases hd:Rf.decl acc Yk with
        | zero=>
         rw[hd,zE rfl]at o;go_wp2_with fail;go_ret3;exact⟨HG4.u.2,Or.inl ⟨by rw[o.u];decide,by rw[o.u];rfl⟩⟩
        | succ d=>
         have d6:d < acc.length:=by omega
         rw[hd,zA (by omega),zu,yq d6]at o;have g0:(((d+1:Nat):Int)==0)=false:=by rw[zV];omega
         have d7:((d+1:Nat):Int)=(d:Int)+1:=by omega
         rw[d7]at g0 ⊢;clear d7;go_wp2_with fail;refine(xz d HG4.u.1 d6 Z).mono ?_;rintro e w5 ⟨rfl,b5⟩;have b8:=qG (HG4.u.1.zP b5) (HG4.u.2.trans (b5.mono HG4.u.2.size));clear b5;generalize Rf.first acc[d]=z at *;cases hz:(z.toList==[112,114,111,99])with
         | false=>
          rw[hz,zE rfl]at o;go_wp2_with fail;go_ret3;exact⟨b8.u.2,Or.inl ⟨by rw[o.u];decide,by rw[o.u];rfl⟩⟩
         | true=>
          rw[hz,zA (by decide)]at o;go_wp2_with fail;go_ret3;refine⟨b8.u.2,Or.inr ?_⟩;rw[o.u];exact⟨rfl,rfl,a0.u,d8,Z,S,g,cap,rfl,b8.u.1⟩
       | succ f=>
        have b4:j < acc.length:=by omega
        have f9:(j:Int)+1<=(acc.length:Int):=by omega
        rw[Rf.rightFrom,yq b4]at HT;go_wp2_with fail;refine(wi H.u.1 b0.u b4 (g7.u j b4)).mono ?_;rintro e w4 ⟨rfl,J⟩;have HG4:=qG (H.u.1.zP J) (H.u.2.trans (J.mono H.u.2.size));clear J cT;cases hz:jZ acc j acc[j]with
        | false=>
         rw[hz,zA (by decide)]at HT;have a8:¬RF=0:=by rw[<-HT.u];omega
         rw[zE a8]at o;clear a8;go_wp2_with fail;go_ret3;exact⟨HG4.u.2,Or.inl ⟨by rw[o.u];simp,by rw[o.u,<-HT.u];simp⟩⟩
        | true=>
         rw[hz,zE rfl]at HT;go_wp2_with fail;go_roundw
         case rel=>exact⟨j+1,f,by omega,by go_num,HT.u,HG4.u.1,HG4.u.2⟩
         case measure=>simp[intOf];omega
     ·rw[zE hn]at o;have h5:(0:Int) < (Rf.nested acc:Int):=by omega
      go_wp2_with fail;go_ret3;exact⟨HG2.u.2,Or.inl ⟨by rw[o.u];simp,by rw[o.u];rfl⟩⟩
namespace Rf
def openerFrom (ls:List (List ByteArray)):Nat->Nat->Nat
 | 0,_=>0
 | m+1,n=>
  if kJ (xU ls m)=true then
   (if (if ((first (xU ls m)).toList==[101,110,100])=true then n+1 else n)=1 then m+1 else openerFrom ls m ((if ((first (xU ls m)).toList==[101,110,100])=true then n+1 else n)-1))
  else openerFrom ls m (if ((first (xU ls m)).toList==[101,110,100])=true then n+1 else n)
theorem Zg (ls:List (List ByteArray)):∀m n,openerFrom ls m n<=m
 | 0,_=>zB _
 | m+1,n=>by
  rw[openerFrom];generalize (if ((first (xU ls m)).toList==[101,110,100])=true then n+1 else n)=q;have f:=Zg ls m (q-1);have d:=Zg ls m q;split
  ·split <;> omega
  ·omega
def J3 (ls:List (List ByteArray)) (k:Nat) (op:List Nat):Prop:=∀pre o suf,op=pre++o::suf->openerFrom ls k (suf.length+1)=o
theorem aV (h:k < ls.length) (f:HF (first ls[k]) i) (n:Nat):openerFrom ls (k+1) n=if i=3\/i=4\/i=5 then (if n=1 then k+1 else openerFrom ls k (n-1))else if i=7 then openerFrom ls k (n+1)else openerFrom ls k n:=by
 obtain⟨F,D,A,y,x,o,z,j⟩:=f;have d:(kJ ls[k]=true)↔(i=3\/i=4\/i=5):=by
  unfold kJ;rw[y,x,o];simp[KV]
 rw[openerFrom,yq h,j];simp only[d,yS];by_cases h3:i=3\/i=4\/i=5
 ·have h7:¬i=7:=by omega
  simp[h3,h7]
 ·by_cases h7:i=7
  ·simp[h7]
  ·simp[h3,h7]
theorem J3.push (h:J3 ls k op) (z:k < ls.length) (D:HF (first ls[k]) i) (A:i=3\/i=4\/i=5):J3 ls (k+1) (op++[k+1]):=by
 intro d o suf y;rw[aV z D _,zE A];rcases XI suf with rfl | ⟨j,x,rfl⟩
 ·have:=List.append_inj' y (by simp);simp at this;simp[this.2]
 ·have f:op++[k+1]=(d++o::j)++[x]:=by rw[y];simp
  have:=List.append_inj' f (by simp);rw[zA (by simp)];have F:=h d o j this.1;simpa using F
theorem J3.pop {pre:List Nat} {x:Nat} (h:J3 ls k (pre++[x])) (j:k < ls.length) (z:HF (first ls[k]) i) (y:i=7):J3 ls (k+1) pre:=by
 intro d o f A;rw[aV j z _,zA (by omega),zE y];have:=h d o (f++[x]) (by rw[A];simp);simpa using this
theorem J3.same (h:J3 ls k op) (j:k < ls.length) (x:HF (first ls[k]) i) (A:¬(i=3\/i=4\/i=5)) (z:¬i=7):J3 ls (k+1) op:=by
 intro f o d y;rw[aV j x _,zA A,zA z];exact h f o d y
theorem Jg {ls:List (List ByteArray)}:∀(f k:Nat) (op sp:List Nat),ls.length-k=f->nestFrom ls (ls.drop k) k op sp=0->J3 ls k op->(∀o∈op,1<=o/\o<=k)->
  ∀l,l < ls.length->k<=l->∃op' sp',nestFrom ls (ls.drop l) l op' sp'=0/\J3 ls l op'/\(∀o∈op',1<=o/\o<=l)
 | 0,k,op,sp,hf,_,_,_,l,hl,hkl=>by omega
 | f+1,k,op,sp,hf,h,hi,ho,l,hl,hkl=>by
  by_cases hlk:l=k
  ·subst hlk;exact⟨op,sp,h,hi,ho⟩
  have y:k < ls.length:=by omega
  obtain⟨i,_,z⟩:=YG (first ls[k]);rw[Vt y z]at h;have j:k+1<=l:=by omega
  have d:∀o∈op,1<=o/\o<=k+1:=fun o h=>by have:=ho o h;omega
  by_cases i0:i=0
  ·rw[zE i0]at h;exact Jg f (k+1) op sp (by omega) h (hi.same y z (by omega) (by omega)) d l hl j
  rw[zA i0]at h;by_cases hc:decide (i=1\/i=2\/i=3)=!decide (op.length=0)
  ·rw[zE hc]at h;omega
  rw[zA hc]at h;by_cases i3:i=3\/i=4\/i=5
  ·rw[zE i3]at h;refine Jg f (k+1) _ sp (by omega) h (hi.push y z i3) (fun o h=>?_) l hl j;simp at h;rcases h with h | rfl
   ·exact d o h
   ·omega
  rw[zA i3]at h;by_cases i6:i=6
  ·rw[zE i6]at h;split at h
   ·omega
   ·exact Jg f (k+1) op _ (by omega) h (hi.same y z i3 (by omega)) d l hl j
  rw[zA i6]at h;by_cases i7:i=7
  ·rw[zE i7]at h;rcases XI op with rfl | ⟨pre,x,rfl⟩
   ·exfalso;apply hc;simp;omega
   ·rw[xo]at h;exact Jg f (k+1) _ _ (by omega) h (hi.pop y z i7) (fun o h=>d o (by simp[h])) l hl j
  rw[zA i7]at h;exact Jg f (k+1) op sp (by omega) h (hi.same y z i3 i7) d l hl j
theorem KZ (h:nested ls=0) {l:Nat} (f:l < ls.length) (d:((first ls[l]).toList==[101,110,100])=true):0 < openerFrom ls l 1:=by
 obtain⟨op,F,k,D,A⟩:=Jg ls.length 0 [] [] (by omega) h (by intro pre o y d;simp at d) (by simp) l f (by omega);obtain⟨i,_,j⟩:=YG (first ls[l]);have z:i=7:=by
  have:=j.2.2.2.2.2.2.2;rw[d]at this;simpa using this.symm
 subst z;rw[Vt f j]at k;rcases XI op with rfl | ⟨pre,x,rfl⟩
 ·simp at k
 ·have:=D pre x [] rfl;have G:=A x (by simp);simp at this;omega
def xx (ls:List (List ByteArray)) (l:Nat) (t:List ByteArray):Bool:=
 if ((first t).toList==[115,101,116])=true then true else if ((first t).toList==[112,114,105,110,116])=true then true else if ((first t).toList==[114,101,97,100])=true then true
 else if ((first t).toList==[105,102])=true then true else if ((first t).toList==[119,104,105,108,101])=true then true else if ((first t).toList==[99,97,108,108])=true then true else if ((first t).toList==[114,101,116,117,114,110])=true then true
 else if ((first t).toList==[101,110,100])=true then ((first (xU ls (openerFrom ls l 1-1))).toList==[112,114,111,99])else false
end Rf
theorem Vr (l:Nat) (h:jA w S g cap ls) (L:l < ls.length) (f:ls.length<=100):Calls Tryz.prog 86 #[.pointer (some ⟨S,0,none⟩),.int .i64 ((l:Int)+1)] w fun e w'=>e=.returned (.int .i64 (Rf.openerFrom ls l 1))/\Below w.heap.size w w':=by
 have HN:=zD h;clear h;go_enter func86,ntmps86;go_wp2;go_loopw [5,6] (fun nv i wr=>∃k n:Nat,k<=ls.length/\0 < n/\n+k<=200/\nv=.int .i64 n/\i=.int .i64 k/\Rf.openerFrom ls k n=Rf.openerFrom ls l 1/\jA wr S g cap ls/\Below w.heap.size w wr) (fun _ i _=>(intOf i).toNat)
 case atStart=>exact⟨l,1,by omega,by omega,by omega,rfl,by go_num,rfl,HN.u,zI _ _⟩
 case round=>
  obtain⟨k,n,M,J,H,rfl,rfl,G,D,y⟩:=hrel;have A:=qG D y;have HT:=zD G;clear D y G;cases k with
  | zero=>
   go_wp2;go_ret;exact⟨by rw[<-HT.u];rfl,A.u.2⟩
  | succ k=>
   have j:k < ls.length:=by omega
   rw[Rf.openerFrom,yq j]at HT;have F:(0:Int) < (k:Int)+1:=by omega
   rw[show ((k+1:Nat):Int)=(k:Int)+1 by omega];go_wp2_with fail;refine(lR k A.u.1 j f).mono ?_;rintro e w1 ⟨rfl,x⟩;have d:=qG (A.u.1.zP x) (A.u.2.trans (x.mono A.u.2.size));clear x;go_wp2_with fail;refine(xz k d.u.1 j f).mono ?_;rintro e w2 ⟨rfl,o⟩;have HS2:=qG (d.u.1.zP o) (d.u.2.trans (o.mono d.u.2.size));clear o;generalize Rf.first ls[k]=z at *;generalize kJ ls[k]=ob at *;cases hz:(z.toList==[101,110,100])with
   | true=>
    rw[hz]at HT;simp only[if_true]at HT;cases ob with
    | true=>
     rw[zE rfl,zA (by omega),zu]at HT;have I:((n:Int)==0)=false:=by rw[zV];omega
     go_wp2_with fail;go_roundw
     case rel=>exact⟨k,n,by omega,by omega,by omega,by go_num,by go_num,HT.u,HS2.u.1,HS2.u.2⟩
     case measure=>simp[intOf]
    | false=>
     rw[zA (by decide)]at HT;go_wp2_with fail;go_roundw
     case rel=>exact⟨k,n+1,by omega,by omega,by omega,by go_num,by go_num,HT.u,HS2.u.1,HS2.u.2⟩
     case measure=>simp[intOf]
   | false=>
    rw[hz]at HT;simp only[YL,Hm]at HT;cases ob with
    | true=>
     rw[zE rfl]at HT;by_cases hn1:n=1
     ·rw[zE hn1]at HT;subst hn1;go_wp2;go_ret;exact⟨by rw[<-HT.u];rfl,HS2.u.2⟩
     ·rw[zA hn1]at HT;obtain⟨n,rfl⟩:∃m,n=m+1:=⟨n-1,by omega⟩;rw[show ((n+1:Nat):Int)=(n:Int)+1 by omega];rw[zu]at HT;have I:((n:Int)==0)=false:=by rw[zV];omega
      go_wp2_with fail;go_roundw
      case rel=>exact⟨k,n,by omega,by omega,by omega,by go_num,by go_num,HT.u,HS2.u.1,HS2.u.2⟩
      case measure=>simp[intOf]
    | false=>
     rw[zA (by decide)]at HT;go_wp2_with fail;go_roundw
     case rel=>exact⟨k,n,by omega,by omega,by omega,by go_num,by go_num,HT.u,HS2.u.1,HS2.u.2⟩
     case measure=>simp[intOf]
theorem Fh (l:Nat) (h:jA w S g cap ls) (o:l < ls.length) (f:ls.length<=100) (x:((Rf.first ls[l]).toList==[115,101,116])=true):Calls Tryz.prog 48 #[.pointer (some ⟨S,0,none⟩),.int .i64 ((l:Int)+1)] w fun e w'=>e=.returned (.bool (xx ls l ls[l]))/\Below w.heap.size w w':=by
 have k:=zD h;have j:xx ls l ls[l]=true:=by rw[xx,x,zE rfl]
 have y:=zD j;clear h j;generalize xx ls l ls[l]=R at *;go_enter func48,ntmps48;go_wp2_with fail;refine(xz l k.u o f).mono ?_;rintro e w1 ⟨rfl,d⟩;have i:=qG (k.u.zP d) d;clear d;generalize Rf.first ls[l]=z at *;go_wp2;go_ret;exact⟨by rw[y.u];rfl,i.u.2⟩
theorem Fg (l:Nat) (h:jA w S g cap ls) (o:l < ls.length) (f:ls.length<=100) (y:((Rf.first ls[l]).toList==[115,101,116])=false) (x:((Rf.first ls[l]).toList==[112,114,105,110,116])=true):Calls Tryz.prog 48 #[.pointer (some ⟨S,0,none⟩),.int .i64 ((l:Int)+1)] w fun e w'=>e=.returned (.bool (xx ls l ls[l]))/\Below w.heap.size w w':=by
 have k:=zD h;have j:xx ls l ls[l]=true:=by rw[xx,y,zA (by decide),x,zE rfl]
 have A:=zD j;clear h j;generalize xx ls l ls[l]=R at *;go_enter func48,ntmps48;go_wp2_with fail;refine(xz l k.u o f).mono ?_;rintro e w1 ⟨rfl,d⟩;have i:=qG (k.u.zP d) d;clear d;generalize Rf.first ls[l]=z at *;go_wp2;go_ret;exact⟨by rw[A.u];rfl,i.u.2⟩
theorem Ff (l:Nat) (h:jA w S g cap ls) (o:l < ls.length) (f:ls.length<=100) (A:((Rf.first ls[l]).toList==[115,101,116])=false) (y:((Rf.first ls[l]).toList==[112,114,105,110,116])=false) (x:((Rf.first ls[l]).toList==[114,101,97,100])=true):Calls Tryz.prog 48 #[.pointer (some ⟨S,0,none⟩),.int .i64 ((l:Int)+1)] w fun e w'=>e=.returned (.bool (xx ls l ls[l]))/\Below w.heap.size w w':=by
 have k:=zD h;have j:xx ls l ls[l]=true:=by rw[xx,A,zA (by decide),y,zA (by decide),x,zE rfl]
 have D:=zD j;clear h j;generalize xx ls l ls[l]=R at *;go_enter func48,ntmps48;go_wp2_with fail;refine(xz l k.u o f).mono ?_;rintro e w1 ⟨rfl,d⟩;have i:=qG (k.u.zP d) d;clear d;generalize Rf.first ls[l]=z at *;go_wp2;go_ret;exact⟨by rw[D.u];rfl,i.u.2⟩
theorem Fe (l:Nat) (h:jA w S g cap ls) (o:l < ls.length) (f:ls.length<=100) (D:((Rf.first ls[l]).toList==[115,101,116])=false) (A:((Rf.first ls[l]).toList==[112,114,105,110,116])=false) (y:((Rf.first ls[l]).toList==[114,101,97,100])=false) (x:((Rf.first ls[l]).toList==[105,102])=true):Calls Tryz.prog 48 #[.pointer (some ⟨S,0,none⟩),.int .i64 ((l:Int)+1)] w fun e w'=>e=.returned (.bool (xx ls l ls[l]))/\Below w.heap.size w w':=by
 have k:=zD h;have j:xx ls l ls[l]=true:=by rw[xx,D,zA (by decide),A,zA (by decide),y,zA (by decide),x,zE rfl]
 have F:=zD j;clear h j;generalize xx ls l ls[l]=R at *;go_enter func48,ntmps48;go_wp2_with fail;refine(xz l k.u o f).mono ?_;rintro e w1 ⟨rfl,d⟩;have i:=qG (k.u.zP d) d;clear d;generalize Rf.first ls[l]=z at *;go_wp2;go_ret;exact⟨by rw[F.u];rfl,i.u.2⟩
theorem Fc (l:Nat) (h:jA w S g cap ls) (o:l < ls.length) (f:ls.length<=100) (F:((Rf.first ls[l]).toList==[115,101,116])=false) (D:((Rf.first ls[l]).toList==[112,114,105,110,116])=false) (A:((Rf.first ls[l]).toList==[114,101,97,100])=false) (y:((Rf.first ls[l]).toList==[105,102])=false) (x:((Rf.first ls[l]).toList==[119,104,105,108,101])=true):Calls Tryz.prog 48 #[.pointer (some ⟨S,0,none⟩),.int .i64 ((l:Int)+1)] w fun e w'=>e=.returned (.bool (xx ls l ls[l]))/\Below w.heap.size w w':=by
 have k:=zD h;have j:xx ls l ls[l]=true:=by rw[xx,F,zA (by decide),D,zA (by decide),A,zA (by decide),y,zA (by decide),x,zE rfl]
 have G:=zD j;clear h j;generalize xx ls l ls[l]=R at *;go_enter func48,ntmps48;go_wp2_with fail;refine(xz l k.u o f).mono ?_;rintro e w1 ⟨rfl,d⟩;have i:=qG (k.u.zP d) d;clear d;generalize Rf.first ls[l]=z at *;go_wp2;go_ret;exact⟨by rw[G.u];rfl,i.u.2⟩
theorem Fb (l:Nat) (h:jA w S g cap ls) (o:l < ls.length) (f:ls.length<=100) (G:((Rf.first ls[l]).toList==[115,101,116])=false) (F:((Rf.first ls[l]).toList==[112,114,105,110,116])=false) (D:((Rf.first ls[l]).toList==[114,101,97,100])=false) (A:((Rf.first ls[l]).toList==[105,102])=false) (y:((Rf.first ls[l]).toList==[119,104,105,108,101])=false) (x:((Rf.first ls[l]).toList==[99,97,108,108])=true):Calls Tryz.prog 48 #[.pointer (some ⟨S,0,none⟩),.int .i64 ((l:Int)+1)] w fun e w'=>e=.returned (.bool (xx ls l ls[l]))/\Below w.heap.size w w':=by
 have k:=zD h;have j:xx ls l ls[l]=true:=by rw[xx,G,zA (by decide),F,zA (by decide),D,zA (by decide),A,zA (by decide),y,zA (by decide),x,zE rfl]
 have H:=zD j;clear h j;generalize xx ls l ls[l]=R at *;go_enter func48,ntmps48;go_wp2_with fail;refine(xz l k.u o f).mono ?_;rintro e w1 ⟨rfl,d⟩;have i:=qG (k.u.zP d) d;clear d;generalize Rf.first ls[l]=z at *;go_wp2;go_ret;exact⟨by rw[H.u];rfl,i.u.2⟩
theorem Fa (l:Nat) (h:jA w S g cap ls) (o:l < ls.length) (f:ls.length<=100) (H:((Rf.first ls[l]).toList==[115,101,116])=false) (G:((Rf.first ls[l]).toList==[112,114,105,110,116])=false) (F:((Rf.first ls[l]).toList==[114,101,97,100])=false) (D:((Rf.first ls[l]).toList==[105,102])=false) (A:((Rf.first ls[l]).toList==[119,104,105,108,101])=false) (y:((Rf.first ls[l]).toList==[99,97,108,108])=false) (x:((Rf.first ls[l]).toList==[114,101,116,117,114,110])=true):Calls Tryz.prog 48 #[.pointer (some ⟨S,0,none⟩),.int .i64 ((l:Int)+1)] w fun e w'=>e=.returned (.bool (xx ls l ls[l]))/\Below w.heap.size w w':=by
 have k:=zD h;have j:xx ls l ls[l]=true:=by rw[xx,H,zA (by decide),G,zA (by decide),F,zA (by decide),D,zA (by decide),A,zA (by decide),y,zA (by decide),x,zE rfl]
 have I:=zD j;clear h j;generalize xx ls l ls[l]=R at *;go_enter func48,ntmps48;go_wp2_with fail;refine(xz l k.u o f).mono ?_;rintro e w1 ⟨rfl,d⟩;have i:=qG (k.u.zP d) d;clear d;generalize Rf.first ls[l]=z at *;go_wp2;go_ret;exact⟨by rw[I.u];rfl,i.u.2⟩
theorem FZ (l:Nat) (h:jA w S g cap ls) (F:l < ls.length) (f:ls.length<=100) (Z:((Rf.first ls[l]).toList==[115,101,116])=false) (W:((Rf.first ls[l]).toList==[112,114,105,110,116])=false) (V:((Rf.first ls[l]).toList==[114,101,97,100])=false) (U:((Rf.first ls[l]).toList==[105,102])=false) (T:((Rf.first ls[l]).toList==[119,104,105,108,101])=false) (O:((Rf.first ls[l]).toList==[99,97,108,108])=false) (N:((Rf.first ls[l]).toList==[114,101,116,117,114,110])=false) (M:((Rf.first ls[l]).toList==[101,110,100])=true) (ho:0 < Rf.openerFrom ls l 1):Calls Tryz.prog 48 #[.pointer (some ⟨S,0,none⟩),.int .i64 ((l:Int)+1)] w fun e w'=>e=.returned (.bool (xx ls l ls[l]))/\Below w.heap.size w w':=by
 have J:=zD h;have H:xx ls l ls[l]=((Rf.first (xU ls (Rf.openerFrom ls l 1-1))).toList==[112,114,111,99]):=by rw[xx,Z,zA (by decide),W,zA (by decide),V,zA (by decide),U,zA (by decide),T,zA (by decide),O,zA (by decide),N,zA (by decide),M,zE rfl]
 have I:=zD H;clear h H;generalize xx ls l ls[l]=R at *;go_enter func48,ntmps48;go_wp2_with fail;refine(xz l J.u F f).mono ?_;rintro e w1 ⟨rfl,k⟩;have i:=qG (J.u.zP k) k;clear k;generalize Rf.first ls[l]=z at *;go_wp2_with fail;refine(Vr l i.u.1 F f).mono ?_;rintro e w2 ⟨rfl,j⟩;have o:=qG (i.u.1.zP j) (i.u.2.trans (j.mono i.u.2.size));clear j;have L:=Zg ls l 1;obtain⟨d,G⟩:∃d,Rf.openerFrom ls l 1=d+1:=⟨Rf.openerFrom ls l 1-1,by omega⟩;have x:d < ls.length:=by omega
 rw[G,zu,yq x]at I;rw[G,show ((d+1:Nat):Int)=(d:Int)+1 by omega];go_wp2_with fail;refine(xz d o.u.1 x f).mono ?_;rintro e w3 ⟨rfl,A⟩;have D:=zD (o.u.2.trans (A.mono o.u.2.size));clear A;generalize Rf.first ls[d]=y at *;go_wp2;go_ret;exact⟨by rw[I.u];rfl,D.u⟩
theorem FY (l:Nat) (h:jA w S g cap ls) (o:l < ls.length) (f:ls.length<=100) (I:((Rf.first ls[l]).toList==[115,101,116])=false) (H:((Rf.first ls[l]).toList==[112,114,105,110,116])=false) (G:((Rf.first ls[l]).toList==[114,101,97,100])=false) (F:((Rf.first ls[l]).toList==[105,102])=false) (D:((Rf.first ls[l]).toList==[119,104,105,108,101])=false) (A:((Rf.first ls[l]).toList==[99,97,108,108])=false) (y:((Rf.first ls[l]).toList==[114,101,116,117,114,110])=false) (x:((Rf.first ls[l]).toList==[101,110,100])=false):Calls Tryz.prog 48 #[.pointer (some ⟨S,0,none⟩),.int .i64 ((l:Int)+1)] w fun e w'=>e=.returned (.bool (xx ls l ls[l]))/\Below w.heap.size w w':=by
 have k:=zD h;have j:xx ls l ls[l]=false:=by rw[xx,I,zA (by decide),H,zA (by decide),G,zA (by decide),F,zA (by decide),D,zA (by decide),A,zA (by decide),y,zA (by decide),x,zA (by decide)]
 have J:=zD j;clear h j;generalize xx ls l ls[l]=R at *;go_enter func48,ntmps48;go_wp2_with fail;refine(xz l k.u o f).mono ?_;rintro e w1 ⟨rfl,d⟩;have i:=qG (k.u.zP d) d;clear d;generalize Rf.first ls[l]=z at *;go_wp2;go_ret;exact⟨by rw[J.u];rfl,i.u.2⟩
theorem fG (l:Nat) (h:jA w S g cap ls) (f:l < ls.length) (d:ls.length<=100) (i:Rf.nested ls=0):Calls Tryz.prog 48 #[.pointer (some ⟨S,0,none⟩),.int .i64 ((l:Int)+1)] w fun e w'=>e=.returned (.bool (xx ls l ls[l]))/\Below w.heap.size w w':=by
 by_cases e0:((Rf.first ls[l]).toList==[115,101,116])=true
 ·exact Fh l h f d  e0
 replace e0:=yL.mpr e0
 by_cases e1:((Rf.first ls[l]).toList==[112,114,105,110,116])=true
 ·exact Fg l h f d e0 e1
 replace e1:=yL.mpr e1
 by_cases e2:((Rf.first ls[l]).toList==[114,101,97,100])=true
 ·exact Ff l h f d e0 e1 e2
 replace e2:=yL.mpr e2
 by_cases e3:((Rf.first ls[l]).toList==[105,102])=true
 ·exact Fe l h f d e0 e1 e2 e3
 replace e3:=yL.mpr e3
 by_cases e4:((Rf.first ls[l]).toList==[119,104,105,108,101])=true
 ·exact Fc l h f d e0 e1 e2 e3 e4
 replace e4:=yL.mpr e4
 by_cases e5:((Rf.first ls[l]).toList==[99,97,108,108])=true
 ·exact Fb l h f d e0 e1 e2 e3 e4 e5
 replace e5:=yL.mpr e5
 by_cases e6:((Rf.first ls[l]).toList==[114,101,116,117,114,110])=true
 ·exact Fa l h f d e0 e1 e2 e3 e4 e5 e6
 replace e6:=yL.mpr e6
 by_cases e7:((Rf.first ls[l]).toList==[101,110,100])=true
 ·exact FZ l h f d e0 e1 e2 e3 e4 e5 e6 e7 (KZ i f e7)
 replace e7:=yL.mpr e7
 exact FY l h f d e0 e1 e2 e3 e4 e5 e6 e7
def ints (l:List Int):List Value:=l.map (Value.int .i64)
theorem K3 (e:Int):Calls Tryz.prog 20 #[.int .i64 e] w fun r w'=>r=.returned (.int .i64 e)/\w'=w:=by
 go_enter func20,ntmps20;go_wp2;go_ret;exact⟨rfl,rfl⟩
theorem EU (h:w.ownsRow B 3 1 v n xs):(v=.slice none 0 0/\n=0)\/∃g cap ys,v=.slice (some ⟨g,0,none⟩) n cap/\n<=cap/\cap<=maxLen/\ys.length=cap/\w.ownsRow B 3 1 (.slice (some ⟨g,0,none⟩) cap cap) cap ys:=by
 obtain⟨d,h2⟩:=h;rcases h2 with⟨rfl,rfl⟩| ⟨g,cap,cur,rfl,hg,hh,hn,hc,hs,ht⟩
 ·exact Or.inl ⟨rfl,rfl⟩
 ·refine Or.inr ⟨g,cap,cur.toList,rfl,hn,hc,by simpa using hs,?_⟩;exact⟨by simpa using hs,Or.inr ⟨g,cap,cur,rfl,hg,hh,zB _,hc,hs,by rw[yw];simp[hs]⟩⟩
theorem gP:w.grownBy w row:=⟨rfl,rfl,rfl,zB _,fun _ _ _=>rfl⟩
theorem tO {w1 w2:World} (h:w.grownBy w1 row) (k:w1.grownBy w2 row):w.grownBy w2 row:=
 ⟨k.os.trans h.os,k.tape.trans h.tape,k.output.trans h.output,zi h.size k.size,fun i hi hr=>(k.block i (zX hi h.size) hr).trans (h.block i hi hr)⟩
def iL (w:World) (B:Nat) (m:Int) (v:Value):Prop:=v=.slice none 0 0\/∃g c,v=.slice (some ⟨g,0,none⟩) c c/\c<=maxLen/\w.ownsRow B 3 1 v c (List.replicate c (.int .i64 m))
theorem CO (h:w.ownsRow B 3 1 v n xs):Calls Tryz.prog 56 #[v,.int .i64 m] w fun e w'=>∃v',e=.returned v'/\iL w' B m v'/\w.grownBy w' v.ownBlock/\v'.ownBlock=v.ownBlock:=by
 rcases EU h with⟨rfl,rfl⟩| ⟨g,cap,ys,rfl,hn,hc,hys,hall⟩
 ·clear h;go_enter func56,ntmps56;go_wp2;go_loop [6] (fun i=>i=.int .i64 (0:Nat)) (fun _=>0)
  case atStart=>rfl
  case round=>
   subst hrel;go_wp2;go_ret;exact⟨_,rfl,Or.inl rfl,gP,rfl⟩
 ·clear h;have N:(0:Int)<=(cap:Int):=by omega
  unfold maxLen at hc;go_enter func56,ntmps56;go_wp2;go_loopw [6] (fun i wr=>∃(k:Nat) (zs:List Value),k<=cap/\i=.int .i64 k/\zs.length=cap/\(∀j,j < k->zs[j]?=some (.int .i64 m))/\wr.ownsRow B 3 1 (.slice (some ⟨g,0,none⟩) cap cap) cap zs/\w.grownBy wr (some g)) (fun i _=>cap-(intOf i).toNat)
  case atStart=>exact⟨0,ys,zo _,rfl,hys,fun j h=>by omega,hall,gP⟩
  case round=>
   obtain⟨k,zs,R,rfl,f,F,d,o⟩:=hrel;have I:=gN f F d o;by_cases hlt:k < cap
   ·have y:(k:Int) < (cap:Int):=by omega
    have M:(0:Int)<=(k:Int):=by omega
    obtain⟨g',cap',H,_,_,O⟩:=yD d (j:=k) (u:=zs[k]'(by omega)) (by simp);simp at H;obtain⟨rfl,rfl⟩:=H;have T:=d.frozenAt k;generalize zs[k]'(by omega)=zk at O;clear f F d o;go_wp2_with fail;go_roundw
    case rel=>
     obtain⟨G,D,A,z⟩:=I.u;obtain⟨L,J⟩:=A.stored k (.int .i64 m);refine⟨k+1,zs.set k (.int .i64 m),by omega,by go_num,by simp[G],fun j hj=>?_,L,tO z J⟩;by_cases e:j=k
     ·subst e;rw[List.getElem?_set_self (by omega)]
     ·rw[List.getElem?_set_ne (by omega)];exact D j (by omega)
    case measure=>simp[intOf];omega
   ·have y:¬(k:Int) < (cap:Int):=by omega
    clear f F d o;go_wp2;go_ret;obtain⟨G,D,A,z⟩:=I.u;refine⟨_,rfl,Or.inr ⟨g,cap,rfl,by unfold maxLen;omega,?_⟩,z,rfl⟩;have x:zs=List.replicate cap (.int .i64 m):=by
     apply List.ext_getElem?;intro j;by_cases hj:j < cap
     ·rw[D j (by omega),YP,zE hj]
     ·rw[xt (by omega),xt (by simp;omega)]
    rw[<-x];exact A
theorem C4:(Tryz.prog.info? 24).map (fun i=>(i.zero,i.size,i.bytes))=some (some (.slice none 0 0),1,24):=by kernel_rfl
theorem iL.map {w':World} (h:iL w B m v) (d:∀(n:Nat) (xs:List Value),w.ownsRow B 3 1 v n xs->w'.ownsRow B 3 1 v n xs):iL w' B m v:=by
 rcases h with h | ⟨g,c,h1,h2,h3⟩
 ·exact Or.inl h
 ·exact Or.inr ⟨g,c,h1,h2,d _ _ h3⟩
theorem iL.form (h:iL w B m v):∃a n c,v=.slice a n c/\n<=maxLen:=by
 rcases h with e | ⟨g,c,e,h,_⟩
 ·exact⟨_,_,_,e,zo _⟩
 ·exact⟨_,_,_,e,h⟩
theorem iL.cell {w:World} {B:Nat} {m:Int} {a:Option Addr} {n c j:Nat} (h:iL w B m (.slice a n c)) (f:j < n):∃g,a=some ⟨g,0,none⟩/\w.cell? ⟨g,j,none⟩=some (.int .i64 m):=by
 rcases h with e | ⟨g,k,e,h,ho⟩
 ·simp at e;omega
 ·simp at e;obtain⟨rfl,rfl,rfl⟩:=e;obtain⟨g',cap,d,_,_,i⟩:=yD ho (j:=j) (u:=.int .i64 m) (by simp[f]);simp at d;exact⟨g,rfl,by rw[d.1];exact i⟩
end Go.Proofs.YthleadfkfnnadaaGreat
