/- The document's answer: factors and cells, a step of each. -/
import Derived.Test.YthleadfkfnnadaaGreatPlainb
set_option maxHeartbeats 4000000
set_option maxRecDepth 100000
set_option linter.unusedSimpArgs false
namespace Go.Proofs.YthleadfkfnnadaaGreat
open Rf Rt Go.Proofs.Tryz
open Go.RowKit
variable {s:ByteArray} {xs t:List ByteArray} {acc:List Rt.Tk} {f k b o cap n:Nat} {ad:Option Addr} {v:Value} {w:World}
theorem Ak (s:ByteArray) (O:s.size<=40000):Calls Tryz.prog 79 #[.string s] w fun e w'=>Below w.heap.size w w'/\
   ∃v,e=.returned v/\w'.ownsRow w.heap.size 9 1 v (Rt.lines s).length ((Rt.lines s).map Value.string):=by
 obtain⟨I,J,z,y,x⟩:=yi eT;go_enter func79,ntmps79;go_wp2;go_loopw [3,4,5] (fun v st i wr=>∃(k a f:Nat) (acc:List ByteArray),a<=k/\k<=s.size/\i=.int .i64 k/\st=.int .i64 a/\s.size < f+k/\acc.length<=k/\Rt.linesFrom s f a k acc=Rt.lines s/\wr.ownsRow w.heap.size 9 1 v acc.length (acc.map Value.string)/\Below w.heap.size w wr)
  (fun _ _ i _=>s.size-(intOf i).toNat)
 case atStart=>exact⟨0,0,s.size+1,[],zB _,zo _,rfl,rfl,by omega,by simp,rfl,zW _ _ _ _,zI _ _⟩
 case round=>
  obtain⟨k,a,f,acc,N,R,rfl,rfl,T,L,D,hown,hnx⟩:=hrel;have H:Hd (Rt.linesFrom s f a k acc=Rt.lines s):=D;clear D;have A:=hnx.size;obtain⟨f,rfl⟩:∃g,f=g+1:=⟨f-1,by omega⟩;obtain⟨U,cap,rfl⟩:=zK hown;by_cases hlt:k < s.size
  ·have F:=Rt.jB hlt;by_cases hb:s[k].toNat=10
   ·have HR:Hd (Rt.linesFrom s f (k+1) (k+1) (acc++[s.extract a k])=Rt.lines s):=by
     have h:=H.out;rw[Rt.linesFrom,zE hlt,zE (by rw[F,hb];rfl)]at h;exact h
    clear F;have G:((s[k].toNat:Int)==10)=true:=by simp[hb]
    clear hb;go_wp2_with (at_builtin;refine xQ _ rfl _ _ 87 rfl w.heap.size 9 I _ 1 16 underlying87 J z y x rfl (by decide) _ _ _ rfl (hown.alloc _) ⟨_,0,none⟩ 1 1 [.string (s.extract a k)] rfl rfl (cell_one_new _ _ _) ?c2 ?c3 ?c4 ?c5 ?_)
    case c2=>intro u hu;simp at hu;rcases hu with rfl;rfl
    case c3=>unfold maxLen;omega
    case c4=>omega
    case c5=>simp;omega
    intro M w1 j d _;have o:=qY hnx A hown d;clear d hown hnx;go_wp2;go_roundw
    case rel=>exact⟨k+1,k+1,f,_,by omega,by omega,by go_num,by go_num,by omega,by simp;omega,HR.out,by simpa using j,o⟩
    case measure=>simp[intOf];omega
   ·have HR:Hd (Rt.linesFrom s f a (k+1) acc=Rt.lines s):=by
     have h:=H.out;rw[Rt.linesFrom,zE hlt,zA (by rw[F];omega)]at h;exact h
    clear F;have G:((s[k].toNat:Int)==10)=false:=by simp;omega
    go_wp2;go_roundw
    case rel=>exact⟨k+1,a,f,acc,by omega,by omega,by go_num,rfl,by omega,by omega,HR.out,hown,hnx⟩
    case measure=>simp[intOf];omega
  ·have HR:Hd (acc++[s.extract a s.size]=Rt.lines s):=by
    have h:=H.out;rw[Rt.linesFrom,zA hlt]at h;exact h
   go_wp2_with (at_builtin;refine xQ _ rfl _ _ 87 rfl w.heap.size 9 I _ 1 16 underlying87 J z y x rfl (by decide) _ _ _ rfl (hown.alloc _) ⟨_,0,none⟩ 1 1 [.string (s.extract a s.size)] rfl rfl (cell_one_new _ _ _) ?d2 ?d3 ?d4 ?d5 ?_)
   case d2=>intro u hu;simp at hu;rcases hu with rfl;rfl
   case d3=>unfold maxLen;omega
   case d4=>omega
   case d5=>simp;omega
   intro M w1 j d _;have o:=qY hnx A hown d;clear d hown hnx;go_wp2;go_ret;exact⟨o,_,rfl,by rw[<-HR.out];simpa using j⟩
namespace Rt
theorem nY (s:ByteArray) (d f:Int) (a:Nat) (i:a < s.size) (h:within d f s[a]=false):cw s d f a=0:=by
 rw[bJ s d f a a (zB _) (by omega) (fun j h h1 h2=>by omega) (fun _=>h)];omega
theorem DR (s:ByteArray) (d f:Int) (a:Nat) (i:a < s.size) (h:within d f s[a]=true):0 < cw s d f a:=by
 unfold cw;rw[zZ (by simpa using i),List.takeWhile_cons_of_pos]
 ·simp
 ·exact h
theorem CT (s:ByteArray) (a:Nat) (j:a < s.size):s.extract a (a+1)=⟨#[s[a]]⟩:=by
 apply ByteArray.ext;rw[ByteArray.data_extract];have h:s.data.size=s.size:=rfl;apply Array.ext
 ·rw[Array.size_extract];show _=1;omega
 ·intro i k f;have d:i=0:=by simpa using f
  subst d;simp[ByteArray.getElem_eq_getElem_data]
theorem EX {b c:UInt8}:((⟨#[b]⟩:ByteArray)=⟨#[c]⟩)↔(c.toNat:Int)=b.toNat:=by
 constructor
 ·intro h;injection h with h;simp at h;rw[h]
 ·intro h;have:c=b:=UInt8.toNat_inj.mp (by omega);rw[this]
theorem EC (b:UInt8):kp nu ⟨#[b]⟩=sign (b.toNat:Int):=by
 rw[xO];simp only[kp,nu,sign,vw,bn,EX,YC,yS,zw,qb,Z2,Bool.or_false];rfl
end Rt
def iG (s:ByteArray) (f k:Nat) (acc:List Rt.Tk):Prop:=(acc.length<=24/\Rt.toksFrom s f k acc=Rt.yY s)\/(24 < acc.length/\Rt.yY s=none)
theorem iG.skip (h:iG s (f+1) k acc) (d:k < s.size) (i:Rt.qC s k=32):iG s f (k+1) acc:=by
 rcases h with⟨h1,h2⟩| h
 ·rw[Rt.toksFrom,zE d,zE i]at h2;exact Or.inl ⟨h1,h2⟩
 ·exact Or.inr h
theorem iG.stop (h:iG s (f+1) k acc) (d:k < s.size) (j:¬Rt.qC s k=32) (i:Rt.jL s k=0):Rt.yY s=none:=by
 rcases h with⟨h1,h2⟩| h
 ·rw[Rt.toksFrom,zE d,zA j,zE (Or.inl i)]at h2;exact h2.symm
 ·exact h.2
theorem iG.next (h:iG s (f+1) k acc) (hlt:k < s.size) (hb:¬Rt.qC s k=32) (hz:0 < Rt.jL s k):iG s f (k+Rt.jL s k) (acc++[⟨Rt.YZ s k,s.extract k (k+Rt.jL s k)⟩]):=by
 rcases h with⟨h1,h2⟩| h
 ·rw[Rt.toksFrom,zE hlt,zA hb]at h2;by_cases h24:24<=acc.length
  ·rw[zE (Or.inr h24)]at h2;exact Or.inr ⟨by simp;omega,h2.symm⟩
  ·rw[zA (by omega)]at h2;exact Or.inl ⟨by simp;omega,h2⟩
 ·exact Or.inr ⟨by simp;omega,h.2⟩
theorem iG.fin (h:iG s (f+1) k acc) (d:¬k < s.size):(acc.length<=24/\Rt.yY s=some acc)\/(24 < acc.length/\Rt.yY s=none):=by
 rcases h with⟨h1,h2⟩| h
 ·rw[Rt.toksFrom,zA d]at h2;exact Or.inl ⟨h1,h2.symm⟩
 ·exact Or.inr h
def fC (t:Rt.Tk):Value:=.string t.text
theorem rf (s:ByteArray) (hs:s.size<=40000):Calls Tryz.prog 80 #[.string s] w fun e w'=>Below w.heap.size w w'/\
      ((Rt.yY s=none/\∃v,e=.returned (.tuple #[v,.bool false]))\/
       ∃ts v,Rt.yY s=some ts/\e=.returned (.tuple #[v,.bool true])/\w'.ownsRow w.heap.size 9 1 v ts.length (ts.map fC)):=by
  have J:s.size<=maxLen:=by unfold maxLen;omega
  obtain⟨V,hi,I,H,G⟩:=yi eT;go_enter func80,ntmps80;go_wp2;go_loopw [4,5] (fun v i wr=>∃(k f:Nat) (acc:List Rt.Tk),k<=s.size/\i=.int .i64 k/\s.size < f+k/\acc.length<=k/\iG s f k acc/\wr.ownsRow w.heap.size 9 1 v acc.length (acc.map fC)/\Below w.heap.size w wr)
    (fun _ i _=>s.size-(intOf i).toNat)
  case atStart=>exact⟨0,s.size+1,[],zo _,rfl,by omega,by simp,Or.inl ⟨by simp,rfl⟩,zW _ _ _ _,zI _ _⟩
  case round=>
    obtain⟨k,f,acc,hk,rfl,hf,a2,O,hown,hnx⟩:=hrel;have HQ:=zD O;clear O;have A:=hnx.size;obtain⟨f,rfl⟩:∃g,f=g+1:=⟨f-1,by omega⟩;obtain⟨ad,cap,rfl⟩:=zK hown;by_cases hlt:k < s.size
    · have D:=Rt.jB hlt;by_cases hb:s[k].toNat=32
      · have HR:=zD (HQ.u.skip hlt (by rw[D,hb];rfl));clear D;have a1:((s[k].toNat:Int)==32)=true:=by simp[hb]
        clear hb;go_wp2_with fail;go_roundw
        case rel=>exact⟨k+1,f,acc,by omega,by go_num,by omega,by omega,HR.u,hown,hnx⟩
        case measure=>simp[intOf];omega
      · have a1:((s[k].toNat:Int)==32)=false:=by simp;omega
        have N:¬Rt.qC s k=32:=by rw[D];omega
        have HN:=zD N;have U:=zD D;clear N;cases hl:qt (s[k].toNat:Int)with
        | true=>
          have hd:=JJ hl;have M:=DR s 97 122 k hlt (by rw[Zy];exact hl);have a0:=ux s 97 122 k (by omega);have F:=zD (show Rf.runN s k=Rt.cw s 97 122 k by unfold Rf.runN;rw[U.u,zE hl]);by_cases h8:8 < Rt.cw s 97 122 k
          · have HR:=zD (HQ.u.stop hlt HN.u (by unfold Rt.jL;rw[zE h8]));clear D;go_wp2_with (first | (go_at_call 129;refine(K0 s k J hlt).mono ?_;rintro e w' ⟨rfl,rfl⟩;rw[F.u])| (go_at_call 130;refine(kK).mono ?_;rintro e w' ⟨rfl,rfl⟩)| (go_at_call 131;refine(vB).mono ?_;rintro e w' ⟨rfl,rfl⟩));go_ret2;exact⟨hnx,Or.inl ⟨HR.u,_,rfl⟩⟩
          · have hM:Rt.jL s k=Rt.cw s 97 122 k:=by unfold Rt.jL;rw[zA h8,zE M]
            have h:=HQ.u.next hlt HN.u (by rw[hM];exact M);rw[hM]at h;have HR:=zD h;have W:((Rt.cw s 97 122 k:Int)==0)=false:=by simp;omega
            clear D h hM;go_wp2_with (first
              | (at_builtin;refine xQ _ rfl _ _ 87 rfl w.heap.size 9 V _ 1 16 underlying87 hi I H G rfl (by decide) _ _ _ rfl (hown.alloc _) ⟨_,0,none⟩ 1 1 [.string (s.extract k (k+Rt.cw s 97 122 k))] rfl rfl (cell_one_new _ _ _) ?c2 ?c3 ?c4 ?c5 ?_)
              | (go_at_call 129;refine(K0 s k J hlt).mono ?_;rintro e w' ⟨rfl,rfl⟩;rw[F.u])| (go_at_call 130;refine(kK).mono ?_;rintro e w' ⟨rfl,rfl⟩)| (go_at_call 131;refine(vB).mono ?_;rintro e w' ⟨rfl,rfl⟩))
            case c2=>intro u hu;simp at hu;rcases hu with rfl;rfl
            case c3=>unfold maxLen;omega
            case c4=>omega
            case c5=>simp;omega
            intro v' w1 j d _;have y:=qY hnx A hown d;clear d hown hnx;go_wp2;go_roundw
            case rel=>exact⟨k+Rt.cw s 97 122 k,f,_,by omega,by go_num,by omega,by simp;omega,HR.u,by rw[yB];simpa[fC] using j,y⟩
            case measure=>simp[intOf];omega
        | false=>
          cases hd:jo (s[k].toNat:Int)with
          | true=>
            have T:=nY s 97 122 k hlt (by rw[Zy];exact hl);have M:=DR s 48 57 k hlt (by rw[Xk];exact hd);have a0:=ux s 48 57 k (by omega);have F:=zD (show Rf.runN s k=Rt.cw s 48 57 k by unfold Rf.runN;rw[U.u,zA (by rw[hl];simp),zE hd]);by_cases h8:9 < Rt.cw s 48 57 k
            · have HR:=zD (HQ.u.stop hlt HN.u (by unfold Rt.jL;rw[T,zA (by omega),zA (by omega),zE h8]));clear D;go_wp2_with (first | (go_at_call 129;refine(K0 s k J hlt).mono ?_;rintro e w' ⟨rfl,rfl⟩;rw[F.u])| (go_at_call 130;refine(kK).mono ?_;rintro e w' ⟨rfl,rfl⟩)| (go_at_call 131;refine(vB).mono ?_;rintro e w' ⟨rfl,rfl⟩));go_ret2;exact⟨hnx,Or.inl ⟨HR.u,_,rfl⟩⟩
            · have hM:Rt.jL s k=Rt.cw s 48 57 k:=by unfold Rt.jL;rw[T,zA (by omega),zA (by omega),zA h8,zE M]
              have h:=HQ.u.next hlt HN.u (by rw[hM];exact M);rw[hM]at h;have HR:=zD h;have W:((Rt.cw s 48 57 k:Int)==0)=false:=by simp;omega
              clear D h hM;go_wp2_with (first
                | (at_builtin;refine xQ _ rfl _ _ 87 rfl w.heap.size 9 V _ 1 16 underlying87 hi I H G rfl (by decide) _ _ _ rfl (hown.alloc _) ⟨_,0,none⟩ 1 1 [.string (s.extract k (k+Rt.cw s 48 57 k))] rfl rfl (cell_one_new _ _ _) ?c2 ?c3 ?c4 ?c5 ?_)
                | (go_at_call 129;refine(K0 s k J hlt).mono ?_;rintro e w' ⟨rfl,rfl⟩;rw[F.u])| (go_at_call 130;refine(kK).mono ?_;rintro e w' ⟨rfl,rfl⟩)| (go_at_call 131;refine(vB).mono ?_;rintro e w' ⟨rfl,rfl⟩))
              case c2=>intro u hu;simp at hu;rcases hu with rfl;rfl
              case c3=>unfold maxLen;omega
              case c4=>omega
              case c5=>simp;omega
              intro v' w1 j d _;have y:=qY hnx A hown d;clear d hown hnx;go_wp2;go_roundw
              case rel=>exact⟨k+Rt.cw s 48 57 k,f,_,by omega,by go_num,by omega,by simp;omega,HR.u,by rw[yB];simpa[fC] using j,y⟩
              case measure=>simp[intOf];omega
          | false=>
            have T:=nY s 97 122 k hlt (by rw[Zy];exact hl);have h1:=nY s 48 57 k hlt (by rw[Xk];exact hd);have F:=zD (show Rf.runN s k=0 by unfold Rf.runN;rw[U.u,zA (by rw[hl];simp),zA (by rw[hd];simp)]);have hM:Rt.jL s k=if Rt.sign (s[k].toNat:Int)=true then 1 else 0:=by
              unfold Rt.jL;rw[T,h1,zA (by omega),zA (by omega),zA (by omega),zA (by omega),U.u];simp[hlt]
            have HM:=zD hM;have HG:=zD ((qB (kp nu) (CT s k hlt)).trans (EC s[k]));clear D T h1 hM;go_wp2_with (first | (go_at_call 129;refine(K0 s k J hlt).mono ?_;rintro e w' ⟨rfl,rfl⟩;rw[F.u])| (go_at_call 130;refine(kK).mono ?_;rintro e w' ⟨rfl,rfl⟩)| (go_at_call 131;refine(vB).mono ?_;rintro e w' ⟨rfl,rfl⟩));have g1:(k:Int)+1<=(s.size:Int):=by omega
            have g2:(0:Int)<=(k:Int):=by omega
            have g3:(k:Int)<=(k:Int)+1:=by omega
            have g4:(0:Int)<=(k:Int)+1:=by omega
            have g5:IntKind.i64.wrap ((k:Int)+1)=(k:Int)+1:=zl _ (by omega);go_region_held3 (fun _=>True) (trivial) (first | (go_at_call 133;refine(wW).mono ?_;rintro e w1 ⟨v,rfl,Z,R⟩)| (go_at_call 132;refine(cr (s.extract k (k+1)) (by first | exact Z | exact Z.zP (zh _)) (by decide)).mono ?_;rintro e w2 ⟨rfl,rfl⟩;rw[HG.u]));have z:=yh R;have o:=yG hown z;have x:=hnx.trans (z.mono (B':=w.heap.size) A);have L:=x.size;clear hown R z hnx A Z;cases hg:Rt.sign (s[k].toNat:Int)with
            | false=>
              have HR:=zD (HQ.u.stop hlt HN.u (by rw[HM.u,hg];rfl));go_wp2_with fail;go_ret2;exact⟨x,Or.inl ⟨HR.u,_,rfl⟩⟩
            | true=>
              have hM:Rt.jL s k=1:=by rw[HM.u,hg];rfl
              have h:=HQ.u.next hlt HN.u (by rw[hM];omega);rw[hM]at h;have HR:=zD h;clear h hM;go_wp2_with (first
                | (at_builtin;refine xQ _ rfl _ _ 87 rfl w.heap.size 9 V _ 1 16 underlying87 hi I H G rfl (by decide) _ _ _ rfl (o.alloc _) ⟨_,0,none⟩ 1 1 [.string (s.extract k (k+1))] rfl rfl (cell_one_new _ _ _) ?c2 ?c3 ?c4 ?c5 ?_)
                | (go_at_call 129;refine(K0 s k J hlt).mono ?_;rintro e w' ⟨rfl,rfl⟩;rw[F.u])| (go_at_call 130;refine(kK).mono ?_;rintro e w' ⟨rfl,rfl⟩)| (go_at_call 131;refine(vB).mono ?_;rintro e w' ⟨rfl,rfl⟩))
              case c2=>intro u hu;simp at hu;rcases hu with rfl;rfl
              case c3=>unfold maxLen;omega
              case c4=>omega
              case c5=>simp;omega
              intro v' w1 j d _;have y:=qY x L o d;clear d o x;go_wp2;go_roundw
              case rel=>exact⟨k+1,f,_,by omega,by go_num,by omega,by simp;omega,HR.u,by rw[yB];simpa[fC] using j,y⟩
              case measure=>simp[intOf];omega
    · rcases HQ.u.fin hlt with⟨h24,hT⟩| ⟨h24,hT⟩
      · go_wp2_with fail;go_ret2;exact⟨hnx,Or.inr ⟨acc,_,hT,qB (fun b=>Ending.returned (.tuple #[.slice ad acc.length cap,.bool b])) (qA (by omega)),hown⟩⟩
      · go_wp2_with fail;go_ret2;exact⟨hnx,Or.inl ⟨hT,_,qB (fun b=>Ending.returned (.tuple #[.slice ad acc.length cap,.bool b])) (qP (by omega))⟩⟩
theorem xA.form (h:xA w v xs):∃ad cap,v=.slice ad xs.length cap/\xs.length<=cap:=by
 obtain⟨ad,cap,f,d,_⟩:=h;exact⟨ad,cap,f,d⟩
theorem xA.cell {w:World} {v:Value} {xs:List ByteArray} (h:xA w v xs) {j:Nat} (d:j < xs.length):∃b o cap,v=.slice (some ⟨b,o,none⟩) xs.length cap/\w.cell? ⟨b,o+j,none⟩=some (.string xs[j]):=by
 obtain⟨k,cap,f,i,h⟩:=h;rcases h with rfl | ⟨b,o,rfl,h⟩
 ·simp at d
 ·exact⟨b,o,cap,f,h j d⟩
theorem JK {tv sv:Value} {sg:List ByteArray} (ht:xA w tv t) (hsg:xA w sv sg) (hl:t.length<=1000) (a1:sg.length<=100) (R:∀x∈t,x.size<=40000):Calls Tryz.prog 174 #[tv,sv] w fun e w'=>e=.returned (.int .i64 (Rf.last sg t))/\Below w.heap.size w w':=by
 obtain⟨ad,cap,rfl,a0⟩:=ht.form;obtain⟨Z,J,rfl,V⟩:=hsg.form;go_enter func174,ntmps174;go_wp2;go_loopw [5,6,7] (fun a d i wr=>∃k:Nat,k<=t.length/\i=.int .i64 k/\a=.int .i64 (kQ sg t k)/\d=.int .i64 (Rf.depth t k)/\xA wr (.slice ad t.length cap) t/\xA wr (.slice Z sg.length J) sg/\Below w.heap.size w wr)
  (fun _ _ i _=>t.length-(intOf i).toNat)
 case atStart=>exact⟨0,zo _,rfl,rfl,rfl,ht,hsg,zI _ _⟩
 case round=>
  obtain⟨k,hk,rfl,rfl,rfl,D,T,H⟩:=hrel;by_cases hlt:k < t.length
  ·obtain⟨b,o,cap',G,cx⟩:=D.cell hlt;simp at G;obtain⟨rfl,rfl⟩:=G;have a2:=nX t k;have hD:Rf.depth t (k+1)=Rf.depth t k+J9 t[k]:=by rw[Rf.depth,qq hlt]
   have j:=zD hD;have M:=zD (show kQ sg t (k+1)=if kp sg t[k]=true/\Rf.depth t (k+1)=0/\0 < k/\KX (ve t (k-1))=true then (k:Int)else kQ sg t k by rw[kQ,qq hlt]);have f:=XX D T H;have F:(k:Int) < (t.length:Int):=by omega
   clear hD;generalize hx:t[k]=x at *;generalize Rf.depth t k=d at *;generalize kQ sg t k=a at *;by_cases hk0:0 < k
   ·have z:k-1 < t.length:=by omega
    obtain⟨b',o',W,G,cy⟩:=f.u.1.cell z;simp at G;obtain⟨⟨rfl,rfl⟩,rfl⟩:=G;have hy:=R _ (zj z);have L:=zD (qq z);have O:t[k-1].size<=maxLen:=by unfold maxLen;omega
    clear hy;generalize t[k-1]=y at *;rcases dF x with⟨h1,hd⟩| ⟨h1,h2,hd⟩| ⟨h1,h2,h3,hd⟩| ⟨h1,h2,h3,h4,hd⟩| ⟨h1,h2,h3,h4,hd⟩
    all_goals
     rw[hd]at j;clear hd;go_wp2_with (first | (go_at_call 132;refine(cr x f.u.2.1 (by omega)).mono ?_;rintro e w1 ⟨rfl,rfl⟩)| (go_at_call 203;refine(oW y O).mono ?_;rintro e w2 ⟨rfl,I⟩;have h:=zD I;clear I))
    all_goals
     go_roundw
     case rel=>
      refine⟨k+1,by omega,by go_num,qB _ ?_,qB _ ?_,?_,?_,?_⟩
      ·first
       | (rw[M.u,zE ⟨by assumption,by rw[j.u];omega,by omega,by rw[L.u];assumption⟩])
       | (rw[M.u,zA (by rintro ⟨q1,N,q3,A⟩;rw[j.u]at N;first | contradiction | omega | (rw[L.u,‹KX y=false›]at A;exact absurd A (by decide)))])
      ·have:=j.u;omega
      ·first | exact f.u.1 | exact f.u.1.zP h.u
      ·first | exact f.u.2.1 | exact f.u.2.1.zP h.u
      ·first | exact f.u.2.2 | exact f.u.2.2.trans (h.u.mono f.u.2.2.size)
     case measure=>simp[intOf];omega
   ·rcases dF x with⟨h1,hd⟩| ⟨h1,h2,hd⟩| ⟨h1,h2,h3,hd⟩| ⟨h1,h2,h3,h4,hd⟩| ⟨h1,h2,h3,h4,hd⟩
    all_goals
     rw[hd]at j;clear hd;go_wp2_with (first | (go_at_call 132;refine(cr x f.u.2.1 (by omega)).mono ?_;rintro e w1 ⟨rfl,rfl⟩))
    all_goals
     go_roundw
     case rel=>
      refine⟨k+1,by omega,by go_num,qB _ ?_,qB _ ?_,?_,?_,?_⟩
      ·first
       | (rw[M.u,zE ⟨by assumption,by rw[j.u];omega,by omega,by rw[L.u];assumption⟩])
       | (rw[M.u,zA (by rintro ⟨q1,N,q3,A⟩;rw[j.u]at N;first | contradiction | omega | (rw[L.u,‹KX y=false›]at A;exact absurd A (by decide)))])
      ·have:=j.u;omega
      ·first | exact f.u.1 | exact f.u.1.zP h.u
      ·first | exact f.u.2.1 | exact f.u.2.1.zP h.u
      ·first | exact f.u.2.2 | exact f.u.2.2.trans (h.u.mono f.u.2.2.size)
     case measure=>simp[intOf];omega
  ·have F:¬(k:Int) < (t.length:Int):=by omega
   have U:k=t.length:=by omega
   subst U;go_wp2;go_ret;exact⟨rfl,H⟩
def kv (fn:Nat) (F:List ByteArray->Bool) (t:List ByteArray):Prop:=
 ∀(w:World) (v:Value),xA w v t->Calls Tryz.prog fn #[v] w fun e w'=>e=.returned (.bool (F t))/\Below w.heap.size w w'
def Y8 (t:List ByteArray):Prop:=t.length<=1000/\∀x∈t,x.size<=40000
theorem Y8.take {t:List ByteArray} (h:Y8 t) (k:Nat):Y8 (t.take k):=⟨by have:=h.1;simp;omega,fun x hx=>h.2 x (List.mem_of_mem_take hx)⟩
theorem Y8.drop {t:List ByteArray} (h:Y8 t) (k:Nat):Y8 (t.drop k):=⟨by have:=h.1;simp;omega,fun x hx=>h.2 x (List.mem_of_mem_drop hx)⟩
theorem xA.take {w:World} {b o cap:Nat} {t:List ByteArray} (h:xA w (.slice (some ⟨b,o,none⟩) t.length cap) t) (k c:Nat) (f:k<=t.length) (x:k<=c):xA w (.slice (some ⟨b,o,none⟩) k c) (t.take k):=by
 obtain⟨y,cap',d,_,h2⟩:=h;refine⟨some ⟨b,o,none⟩,c,by simp[vD f],by simp;omega,?_⟩;rcases h2 with rfl | ⟨b',i,rfl,h2⟩
 ·left;simp
 ·simp at d;obtain⟨⟨rfl,rfl⟩,rfl⟩:=d;refine Or.inr ⟨b,o,rfl,fun j hj=>?_⟩;simp at hj;rw[h2 j (by omega)];simp
theorem xA.drop {w:World} {b o cap:Nat} {t:List ByteArray} (h:xA w (.slice (some ⟨b,o,none⟩) t.length cap) t) (k n c:Nat) (f:n=t.length-k) (x:n<=c):xA w (.slice (some ⟨b,o+k,none⟩) n c) (t.drop k):=by
 obtain⟨y,cap',d,_,h2⟩:=h;refine⟨some ⟨b,o+k,none⟩,c,by simp[f],by simp;omega,?_⟩;rcases h2 with rfl | ⟨b',i,rfl,h2⟩
 ·left;simp
 ·simp at d;obtain⟨⟨rfl,rfl⟩,rfl⟩:=d;refine Or.inr ⟨b,o+k,rfl,fun j hj=>?_⟩;simp at hj;rw[show o+k+j=o+(k+j) by omega,h2 (k+j) (by omega)];simp
theorem xA.gone {c:Nat} (h:t.length<=k) (d:n=t.length-k):xA w (.slice ad n c) (t.drop k):=by
 refine⟨ad,c,by simp[d],by simp;omega,Or.inl ?_⟩;simp;omega
theorem xA.qZ (h:xA w (.slice ad n cap) t) (d:t≠[]):∃b o,ad=some ⟨b,o,none⟩:=by
 obtain⟨j,cap',f,_,h2⟩:=h;rcases h2 with h2 | ⟨b',i,h2,_⟩
 ·exact absurd h2 d
 ·simp at f;exact⟨b',i,by rw[f.1,h2]⟩
theorem pT (J:Y8 t) (S:List ByteArray->Bool) (W:Rf.last kF t < 0->kv 176 S t) (V:∀k:Nat,Rf.last kF t=k->kv 176 S (t.take k)/\kv 176 S (t.drop (k+1))):kv 135 (Qa S) t:=by
 intro w v G;have hl:=J.1;have HF:=zD J;clear J;have HA:=qG W V;clear W V;obtain⟨ad,cap,rfl,R⟩:=G.form;go_enter func135,ntmps135;go_wp2_with fail;refine(VW).mono ?_;rintro e w1 ⟨sv,rfl,z,i⟩;have x:=G.zP i;have A:=G.qZ;go_wp2_with fail;refine(JK x z (by omega) (by decide) HF.u.2).mono ?_;rintro e w2 ⟨rfl,y⟩;have H:=zD (i.trans (y.mono (B':=w.heap.size) i.size));have M:=zD (x.zP y);clear G i x y z;have D:=XK kF t t.length;have f:-1<=Rf.last kF t/\Rf.last kF t < (t.length:Int)/\(Rf.last kF t=-1\/0 < Rf.last kF t):=D;clear D;by_cases hneg:Rf.last kF t < 0
 ·have N:=zD (show Qa S t=S t by rw[Qa,zE hneg]);go_wp2_with fail;refine(HA.u.1 hneg _ _ M.u).mono ?_;rintro e w3 ⟨rfl,d⟩;have j:=zD (H.u.trans (d.mono (B':=w.heap.size) H.u.size));clear d;go_wp2;go_ret;exact⟨by rw[N.u];rfl,j.u⟩
 ·obtain⟨k,I⟩:∃k:Nat,Rf.last kF t=k:=⟨(Rf.last kF t).toNat,by omega⟩;have N:=zD (show Qa S t=(S (t.take k) && S (t.drop (k+1))) by rw[Qa,zA hneg,I];rfl);obtain⟨U,T⟩:=HA.u.2 k I;rw[I]at f hneg ⊢;obtain⟨b,o,rfl⟩:=A (by intro h;rw[h]at f;simp at f;omega);have a0:k < t.length:=by omega
  have Z:=qG U T;clear U T;go_wp2_with fail;refine(Z.u.1 _ _ (M.u.take k _ (by omega) (by omega))).mono ?_;rintro e w3 ⟨rfl,d⟩;have L:=zD (M.u.zP d);have j:=zD (H.u.trans (d.mono (B':=w.heap.size) H.u.size));clear d;go_wp2_with fail
  all_goals
   refine(Z.u.2 _ _ (by first | exact xA.gone (by omega) rfl | exact L.u.drop (k+1) _ _ rfl (by omega))).mono ?_;rintro e w4 ⟨rfl,F⟩;have O:=zD (j.u.trans (F.mono (B':=w.heap.size) j.u.size));clear F;go_wp2_with fail
   all_goals
    go_ret;exact⟨by rw[N.u];exact yj (by simp_all),O.u⟩
theorem tI (J:Y8 t) (S T:List ByteArray->Bool) (Z:Rf.last kL t < 0->kv 205 T t) (W:∀k:Nat,Rf.last kL t=k->kv 176 S (t.take k)/\kv 205 T (t.drop (k+1))):kv 176 (Vk S T) t:=by
 intro w v G;have hl:=J.1;have HF:=zD J;clear J;have HA:=qG Z W;clear Z W;obtain⟨ad,cap,rfl,R⟩:=G.form;go_enter func176,ntmps176;go_wp2_with fail;refine(iD).mono ?_;rintro e w1 ⟨sv,rfl,z,i⟩;have x:=G.zP i;have A:=G.qZ;go_wp2_with fail;refine(JK x z (by omega) (by decide) HF.u.2).mono ?_;rintro e w2 ⟨rfl,y⟩;have H:=zD (i.trans (y.mono (B':=w.heap.size) i.size));have M:=zD (x.zP y);clear G i x y z;have D:=XK kL t t.length;have f:-1<=Rf.last kL t/\Rf.last kL t < (t.length:Int)/\(Rf.last kL t=-1\/0 < Rf.last kL t):=D;clear D;by_cases hneg:Rf.last kL t < 0
 ·have N:=zD (show Vk S T t=T t by rw[Vk,zE hneg]);go_wp2_with fail;refine(HA.u.1 hneg _ _ M.u).mono ?_;rintro e w3 ⟨rfl,d⟩;have j:=zD (H.u.trans (d.mono (B':=w.heap.size) H.u.size));clear d;go_wp2;go_ret;exact⟨by rw[N.u];rfl,j.u⟩
 ·obtain⟨k,I⟩:∃k:Nat,Rf.last kL t=k:=⟨(Rf.last kL t).toNat,by omega⟩;have N:=zD (show Vk S T t=(S (t.take k) && T (t.drop (k+1))) by rw[Vk,zA hneg,I];rfl);obtain⟨V,U⟩:=HA.u.2 k I;rw[I]at f hneg ⊢;obtain⟨b,o,rfl⟩:=A (by intro h;rw[h]at f;simp at f;omega);have a0:k < t.length:=by omega
  have HS:=qG V U;clear V U;go_wp2_with fail;refine(HS.u.1 _ _ (M.u.take k _ (by omega) (by omega))).mono ?_;rintro e w3 ⟨rfl,d⟩;have L:=zD (M.u.zP d);have j:=zD (H.u.trans (d.mono (B':=w.heap.size) H.u.size));clear d;go_wp2_with fail
  all_goals
   refine(HS.u.2 _ _ (by first | exact xA.gone (by omega) rfl | exact L.u.drop (k+1) _ _ rfl (by omega))).mono ?_;rintro e w4 ⟨rfl,F⟩;have O:=zD (j.u.trans (F.mono (B':=w.heap.size) j.u.size));clear F;go_wp2_with fail
   all_goals
    go_ret;exact⟨by rw[N.u];exact yj (by simp_all),O.u⟩
theorem pP (J:Y8 t) (S T:List ByteArray->Bool) (Z:Rf.last vJ t < 0->kv 217 T t) (W:∀k:Nat,Rf.last vJ t=k->kv 205 S (t.take k)/\kv 217 T (t.drop (k+1))):kv 205 (X8 S T) t:=by
 intro w v G;have hl:=J.1;have HF:=zD J;clear J;have HA:=qG Z W;clear Z W;obtain⟨ad,cap,rfl,R⟩:=G.form;go_enter func205,ntmps205;go_wp2_with fail;refine(ax).mono ?_;rintro e w1 ⟨sv,rfl,z,i⟩;have x:=G.zP i;have A:=G.qZ;go_wp2_with fail;refine(JK x z (by omega) (by decide) HF.u.2).mono ?_;rintro e w2 ⟨rfl,y⟩;have H:=zD (i.trans (y.mono (B':=w.heap.size) i.size));have M:=zD (x.zP y);clear G i x y z;have D:=XK vJ t t.length;have f:-1<=Rf.last vJ t/\Rf.last vJ t < (t.length:Int)/\(Rf.last vJ t=-1\/0 < Rf.last vJ t):=D;clear D;by_cases hneg:Rf.last vJ t < 0
 ·have N:=zD (show X8 S T t=T t by rw[X8,zE hneg]);go_wp2_with fail;refine(HA.u.1 hneg _ _ M.u).mono ?_;rintro e w3 ⟨rfl,d⟩;have j:=zD (H.u.trans (d.mono (B':=w.heap.size) H.u.size));clear d;go_wp2;go_ret;exact⟨by rw[N.u];rfl,j.u⟩
 ·obtain⟨k,I⟩:∃k:Nat,Rf.last vJ t=k:=⟨(Rf.last vJ t).toNat,by omega⟩;have N:=zD (show X8 S T t=(S (t.take k) && T (t.drop (k+1))) by rw[X8,zA hneg,I];rfl);obtain⟨V,U⟩:=HA.u.2 k I;rw[I]at f hneg ⊢;obtain⟨b,o,rfl⟩:=A (by intro h;rw[h]at f;simp at f;omega);have a0:k < t.length:=by omega
  have HS:=qG V U;clear V U;go_wp2_with fail;refine(HS.u.1 _ _ (M.u.take k _ (by omega) (by omega))).mono ?_;rintro e w3 ⟨rfl,d⟩;have L:=zD (M.u.zP d);have j:=zD (H.u.trans (d.mono (B':=w.heap.size) H.u.size));clear d;go_wp2_with fail
  all_goals
   refine(HS.u.2 _ _ (by first | exact xA.gone (by omega) rfl | exact L.u.drop (k+1) _ _ rfl (by omega))).mono ?_;rintro e w4 ⟨rfl,F⟩;have O:=zD (j.u.trans (F.mono (B':=w.heap.size) j.u.size));clear F;go_wp2_with fail
   all_goals
    go_ret;exact⟨by rw[N.u];exact yj (by simp_all),O.u⟩
theorem xA.Ad (h:xA w (.slice (some ⟨b,o,none⟩) t.length cap) t) (i j n c:Nat) (d:j<=t.length) (f:n=j-i) (k:n<=c):xA w (.slice (some ⟨b,o+i,none⟩) n c) ((t.take j).drop i):=by
 have y:=h.take j j d (zB _);have x:xA w (.slice (some ⟨b,o,none⟩) (t.take j).length j) (t.take j):=by rw[jw,vD d];exact y
 exact x.drop i n c (by rw[jw,vD d];exact f) k
theorem il (T:Y8 t) (F E C:List ByteArray->Bool) (Z:2<=t.length->kv 217 F (t.drop 1)) (h1:2<=t.length->kv 135 E ((t.take (t.length-1)).drop 1)) (W:kv 177 C t):kv 217 (kR F E C) t:=by
 intro w v G;have hl:=T.1;have J:=XX Z h1 W;clear Z h1 W;obtain⟨ad,cap,rfl,V⟩:=G.form;by_cases hz:t.length=0
 ·have k:=zD (show kR F E C t=false by rw[kR,zE hz]);have L:(t.length:Int)=0:=by omega
  go_enter func217,ntmps217;go_wp2;go_ret;exact⟨by rw[k.u];rfl,zI _ _⟩
 ·obtain⟨b,o,rfl⟩:=G.qZ (by intro h;rw[h]at hz;simp at hz);have D:0 < t.length:=by omega
  have I:t.length-1 < t.length:=by omega
  have M:=T.2 _ (zj D);have HV:=zD G;have cells:∀w',xA w' (.slice (some ⟨b,o,none⟩) t.length cap) t->w'.cell? ⟨b,o,none⟩=some (.string t[0])/\w'.cell? ⟨b,o+(t.length-1),none⟩=some (.string t[t.length-1]):=by
   intro w' h;obtain⟨b',o',cap',U,R⟩:=h.cell D;obtain⟨b2,o2,a0,H,O⟩:=h.cell I;simp at U H;obtain⟨⟨rfl,rfl⟩,rfl⟩:=U;obtain⟨⟨rfl,rfl⟩,rfl⟩:=H;exact⟨R,O⟩
  obtain⟨R,O⟩:=cells _ G;have HC:=zD cells;clear cells G;have F0:=zD (qq D);have F1:=zD (qq I);have z:t[0].size<=maxLen:=by unfold maxLen;omega
  have k:=zD (show kR F E C t=if t.length=1 then Rf.yg t[0] || xi t[0]else if (t[0].toList==[45])=true then F (t.drop 1)else if (t[0].toList==[40])=true/\(t[t.length-1].toList==[41])=true then E ((t.take (t.length-1)).drop 1)else C t by
   rw[kR,zA hz,Rf.first,Rf.final,F0.u,F1.u])
  clear M;generalize t[0]=x at *;generalize t[t.length-1]=y at *;have L:¬(t.length:Int)=0:=by omega
  go_enter func217,ntmps217;go_wp2_with fail;refine(XJ x z).mono ?_;rintro e w1 ⟨rfl,A⟩;have j:=zD (HV.u.zP A);have f:=zD A;obtain⟨d0,d1⟩:=HC.u _ j.u;clear A R O;by_cases h1:t.length=1
  ·have N:(t.length:Int)=1:=by omega
   rw[zE h1]at k;go_wp2_with (go_at_call 139;refine(Yv x z).mono ?_;rintro e w' ⟨rfl,rfl⟩)
   all_goals
    go_ret;exact⟨by rw[k.u];exact yj (by simp_all),f.u⟩
  ·have N:¬(t.length:Int)=1:=by omega
   rw[zA h1]at k;cases hm:(x.toList==[45])with
   | true=>
    rw[zE hm]at k;go_wp2_with fail
    all_goals
     refine(J.u.1 (by omega) _ _ (by first | exact xA.gone (by omega) rfl | exact j.u.drop 1 _ _ rfl (by omega))).mono ?_;rintro e w2 ⟨rfl,d⟩;have i:=zD (f.u.trans (d.mono (B':=w.heap.size) f.u.size));clear d;go_wp2;go_ret;exact⟨by rw[k.u];first | rfl | exact yj (by simp),i.u⟩
   | false=>
    rw[zA (by rw[hm];decide)]at k;by_cases hp:(x.toList==[40])=true/\(y.toList==[41])=true
    ·rw[zE hp]at k;obtain⟨p1,p2⟩:=hp;go_wp2_with fail
     all_goals
      refine(J.u.2.1 (by omega) _ _ (by first | exact j.u.Ad 1 (t.length-1) _ _ (by omega) rfl (by omega)| exact j.u.Ad 1 (t.length-1) _ _ (by omega) (by omega) (by omega))).mono ?_;rintro e w2 ⟨rfl,d⟩;have i:=zD (f.u.trans (d.mono (B':=w.heap.size) f.u.size));clear d;go_wp2;go_ret;exact⟨by rw[k.u];first | rfl | exact yj (by simp),i.u⟩
    ·rw[zA hp]at k;cases p1:(x.toList==[40])
     ·go_wp2_with fail;refine(J.u.2.2 _ _ j.u).mono ?_;rintro e w2 ⟨rfl,d⟩;have i:=zD (f.u.trans (d.mono (B':=w.heap.size) f.u.size));clear d;go_wp2;go_ret;exact⟨by rw[k.u];first | rfl | exact yj (by simp),i.u⟩
     ·have p2:(y.toList==[41])=false:=by cases h:(y.toList==[41])with | false=>rfl | true=>exact absurd ⟨p1,h⟩ hp
      go_wp2_with fail;refine(J.u.2.2 _ _ j.u).mono ?_;rintro e w2 ⟨rfl,d⟩;have i:=zD (f.u.trans (d.mono (B':=w.heap.size) f.u.size));clear d;go_wp2;go_ret;exact⟨by rw[k.u];first | rfl | exact yj (by simp),i.u⟩
theorem pU (V:Y8 t) (E:List ByteArray->Bool) (h1:4<=t.length->kv 135 E ((t.take (t.length-1)).drop 2)):kv 177 (Rf.kX E) t:=by
 intro w v k;have hl:=V.1;have HA:=zD h1;clear h1;obtain⟨ad,cap,rfl,Z⟩:=k.form;by_cases hz:t.length < 4
 ·have d:=zD (show Rf.kX E t=false by rw[Rf.kX,zE (Or.inl hz)]);have L:(t.length:Int) < 4:=by omega
  go_enter func177,ntmps177;go_wp2;go_ret;exact⟨by rw[d.u];rfl,zI _ _⟩
 ·obtain⟨b,o,rfl⟩:=k.qZ (by intro h;rw[h]at hz;simp at hz);have i:0 < t.length:=by omega
  have H:1 < t.length:=by omega
  have G:t.length-1 < t.length:=by omega
  have M:=V.2 _ (zj i);have HV:=zD k;have cells:∀w',xA w' (.slice (some ⟨b,o,none⟩) t.length cap) t->w'.cell? ⟨b,o,none⟩=some (.string t[0])/\w'.cell? ⟨b,o+1,none⟩=some (.string t[1])/\w'.cell? ⟨b,o+(t.length-1),none⟩=some (.string t[t.length-1]):=by
   intro w' h;obtain⟨b',o',cap',W,T⟩:=h.cell i;obtain⟨b2,o2,a1,D,R⟩:=h.cell H;obtain⟨b3,o3,a0,A,O⟩:=h.cell G;simp at W D A;obtain⟨⟨rfl,rfl⟩,rfl⟩:=W;obtain⟨⟨rfl,rfl⟩,rfl⟩:=D;obtain⟨⟨rfl,rfl⟩,rfl⟩:=A;exact⟨T,R,O⟩
  obtain⟨T,R,O⟩:=cells _ k;clear cells k;have F0:=zD (qq i);have F1:=zD (qq H);have F2:=zD (qq G);have j:t[0].size<=maxLen:=by unfold maxLen;omega
  have d:=zD (show Rf.kX E t=if (t[1].toList==[91])=false\/(t[t.length-1].toList==[93])=false then false else Rf.yg t[0] && E ((t.take (t.length-1)).drop 2) by
   rw[Rf.kX,Rf.first,Rf.final,F0.u,F1.u,F2.u];by_cases h:(t[1].toList==[91])=false\/(t[t.length-1].toList==[93])=false
   ·rw[zE h,zE (Or.inr h)]
   ·rw[zA h,zA (by rintro (N | N);exact hz N;exact h N)])
  clear M;generalize t[0]=x at *;generalize t[1]=z at *;generalize t[t.length-1]=y at *;have L:¬(t.length:Int) < 4:=by omega
  cases q1:(z.toList==[91])with
  | false=>
   rw[zE (Or.inl q1)]at d;go_enter func177,ntmps177;go_wp2;go_ret;exact⟨by rw[d.u];rfl,zI _ _⟩
  | true=>
   cases q2:(y.toList==[93])with
   | false=>
    rw[zE (Or.inr q2)]at d;go_enter func177,ntmps177;go_wp2;go_ret;exact⟨by rw[d.u];rfl,zI _ _⟩
   | true=>
    rw[zA (by simp[q1,q2])]at d;go_enter func177,ntmps177;go_wp2_with fail;refine(XJ x j).mono ?_;rintro e w1 ⟨rfl,f⟩;have I:=zD (HV.u.zP f);have J:=zD f;clear f T R O;go_wp2_with fail;refine(HA.u (by omega) _ _ (by first | exact I.u.Ad 2 (t.length-1) _ _ (by omega) rfl (by omega)| exact I.u.Ad 2 (t.length-1) _ _ (by omega) (by omega) (by omega))).mono ?_;rintro e w2 ⟨rfl,F⟩;have U:=zD (J.u.trans (F.mono (B':=w.heap.size) J.u.size));clear F;go_wp2_with fail
    all_goals
     go_ret;exact⟨by rw[d.u];exact yj (by simp_all),U.u⟩
end Go.Proofs.YthleadfkfnnadaaGreat
