/- The walks of the reader's small methods, continued: valueOf, number, emit. -/
import Derived.Test.YthleadfkfnnadaaGreatRtTidy
set_option maxHeartbeats 4000000
set_option maxRecDepth 100000
set_option linter.unusedSimpArgs false
namespace Go.Proofs.YthleadfkfnnadaaGreat
open Rt Go.Proofs.Tryz
open Go.RowKit
variable {s:ByteArray} {lo hi:Int} {ts:List Rt.Tk} {R n:Nat} {b a c tv ov:Value} {w w1 w2 w':World}
theorem QG {k:IntKind} {a b c d:Int} (h:a=b) (f:c=d):Ending.returned (.tuple #[.int k a,.int k c])=.returned (.tuple #[.int k b,.int k d]):=by rw[h,f]
theorem eC {a:Nat} (y:s.size<=maxLen) (ha:a<=s.size):Calls Tryz.prog 194 #[.string s,.int .i64 a,.int .u8 lo,.int .u8 hi] w fun e w'=>e=.returned (.int .i64 (Rt.cw s lo hi a))/\w'=w:=by
 unfold maxLen at y;go_enter func194,ntmps194;go_wp2;go_loop [9] (fun i=>∃k:Nat,a<=k/\k<=s.size/\i=.int .i64 k/\∀j (h:j < s.size),a<=j->j < k->Rt.within lo hi s[j]=true) (fun i=>s.size-(intOf i).toNat)
 case atStart=>exact⟨a,zB _,ha,rfl,fun j h h1 h2=>by omega⟩
 case round=>
  obtain⟨k,f,x,rfl,d⟩:=hrel;have o:Hd (∀j (h:j < s.size),a<=j->j < k->Rt.within lo hi s[j]=true):=d;clear d;by_cases hlt:k < s.size
  ·go_wp2
   ·have h1:lo<=(s[k].toNat:Int):=by assumption
    have h2:(s[k].toNat:Int)<=hi:=by assumption
    go_round
    case rel=>
     refine⟨k+1,by omega,by omega,by go_num,fun j h hj1 hj2=>?_⟩;by_cases e:j=k
     ·subst e;simp[Rt.within,h1,h2]
     ·exact o.out j h hj1 (by omega)
    case measure=>simp[intOf];omega
   ·have h2:hi < (s[k].toNat:Int):=by assumption
    have:=Rt.bJ s lo hi a k f x o.out (fun h=>by simp[Rt.within];omega);go_ret;exact⟨km (by rw[this];omega),rfl⟩
   ·have h2:(s[k].toNat:Int) < lo:=by assumption
    have:=Rt.bJ s lo hi a k f x o.out (fun h=>by simp[Rt.within];omega);go_ret;exact⟨km (by rw[this];omega),rfl⟩
  ·go_wp2;go_ret;have:=Rt.bJ s lo hi a k f x o.out (fun h=>absurd h hlt);exact⟨km (by rw[this];omega),rfl⟩
theorem tJ {b:Int}:Calls Tryz.prog 195 #[.int .u8 b] w fun e w'=>e=.returned (.bool (Rt.sign b))/\w'=w:=by
 go_enter func195,ntmps195;go_wp2
 all_goals (go_ret;exact⟨by simp_all [Rt.sign],rfl⟩)
theorem Ka (s:ByteArray) (a:Nat) (k:s.size<=maxLen) (o:a<=s.size):Calls Tryz.prog 168 #[.string s,.int .i64 a] w fun e w'=>e=.returned (.tuple #[.int .i64 (Rt.YZ s a),.int .i64 (Rt.jL s a)])/\w'=w:=by
 have i:=k;unfold maxLen at i;go_enter func168,ntmps168;go_wp2_with (first | (go_at_call 194;refine(eC k o).mono ?_;rintro e w' ⟨rfl,rfl⟩)| (go_at_call 195;refine(tJ).mono ?_;rintro e w' ⟨rfl,rfl⟩))
 ·go_ret2;exact⟨QG (by unfold Rt.YZ;(repeat' split) <;> omega) (by unfold Rt.jL;(repeat' split) <;> omega),rfl⟩
 ·go_ret2;exact⟨QG (by unfold Rt.YZ;(repeat' split) <;> omega) (by unfold Rt.jL;(repeat' split) <;> omega),rfl⟩
 ·go_ret2;exact⟨QG (by unfold Rt.YZ;(repeat' split) <;> omega) (by unfold Rt.jL;(repeat' split) <;> omega),rfl⟩
 ·go_ret2;exact⟨QG (by unfold Rt.YZ;(repeat' split) <;> omega) (by unfold Rt.jL;(repeat' split) <;> omega),rfl⟩
 ·have f:a < s.size:=by assumption
  have j:Rt.sign ↑s[a].toNat=true:=by assumption
  have d:Hd (a < s.size/\Rt.sign (Rt.qC s a)=true):=⟨f,by rw[Rt.jB f];exact j⟩;go_ret2;exact⟨QG (by unfold Rt.YZ;rw[zE d.out];(repeat' split) <;> omega) (by unfold Rt.jL;rw[zE d.out];(repeat' split) <;> omega),rfl⟩
 ·have f:a < s.size:=by assumption
  have j:Rt.sign ↑s[a].toNat=false:=by assumption
  have d:Hd (¬(a < s.size/\Rt.sign (Rt.qC s a)=true)):=by rintro ⟨_,h⟩;rw[Rt.jB f,j]at h;cases h
  go_ret2;exact⟨QG (by unfold Rt.YZ;rw[zA d.out];(repeat' split) <;> omega) (by unfold Rt.jL;rw[zA d.out];(repeat' split) <;> omega),rfl⟩
 ·go_ret2;exact⟨QG (by unfold Rt.YZ;(repeat' split) <;> omega) (by unfold Rt.jL;(repeat' split) <;> omega),rfl⟩
theorem dQ (s:ByteArray) (h:s.size<=maxLen):Calls Tryz.prog 74 #[.string s] w fun e w'=>e=.returned (.bool (Rt.ZE s))/\w'=w:=by
 unfold maxLen at h;by_cases hbig:40000 < s.size
 ·go_enter func74,ntmps74;go_wp2;go_ret;exact⟨by simp[Rt.ZE,hbig],rfl⟩
 ·have f:¬(40000:Int) < (s.size:Int):=by omega
  go_enter func74,ntmps74;go_wp2;go_loop [3,4] (fun n i=>∃k:Nat,k<=s.size/\i=.int .i64 k/\n=.int .i64 (1+Rt.nls s k:Nat)) (fun _ i=>s.size-(intOf i).toNat)
  case atStart=>exact⟨0,zo _,rfl,rfl⟩
  case round=>
   obtain⟨k,o,rfl,rfl⟩:=hrel;have j:=Fy s k;by_cases hlt:k < s.size
   ·have HS:Hd (Rt.nls s (k+1)=Rt.nls s k+(if (s[k].toNat:Int)=10 then 1 else 0)):=by rw[<-Rt.jB hlt];rfl
    go_wp2
    all_goals
     go_round
     case rel=>exact⟨k+1,by omega,by go_num,by rw[HS.out];first | (rw[zE (beqT (by assumption))];go_num)| (rw[zA (beqF (by assumption))];go_num)⟩
     case measure=>simp[intOf];omega
   ·have d:k=s.size:=by omega
    subst d;go_wp2;go_ret;exact⟨by simp[Rt.ZE,hbig];omega,rfl⟩
theorem Ei:(Tryz.prog.info? 188).map (fun i=>(i.zero,i.size,i.bytes))=some (some (.agg #[.int .i64 0,.string ByteArray.empty]),2,24):=by kernel_rfl
theorem rh (s:ByteArray) (T:s.size<=40000):Calls Tryz.prog 121 #[.string s] w fun e w'=>Below w.heap.size w w'/\
      ((Rt.yY s=none/\e=.returned (.tuple #[.slice none 0 0,.bool false]))\/
       ∃ts v,Rt.yY s=some ts/\e=.returned (.tuple #[v,.bool true])/\w'.ownsRow w.heap.size 188 2 v ts.length (qa ts)):=by
  have I:s.size<=maxLen:=by unfold maxLen;omega
  obtain⟨M,O,F,D,A⟩:=yi Ei;go_enter func121,ntmps121;go_wp2;go_loopw [4,5] (fun v i wr=>∃(k f:Nat) (acc:List Rt.Tk),k<=s.size/\i=.int .i64 k/\s.size < f+k/\acc.length<=24/\Rt.toksFrom s f k acc=Rt.yY s/\wr.ownsRow w.heap.size 188 2 v acc.length (qa acc)/\Below w.heap.size w wr)
    (fun _ i _=>s.size-(intOf i).toNat)
  case atStart=>exact⟨0,s.size+1,[],zo _,rfl,by omega,by simp,rfl,zW _ _ _ _,zI _ _⟩
  case round=>
    obtain⟨k,f,acc,U,rfl,V,hacc,x,hown,hnx⟩:=hrel;have y:Hd (Rt.toksFrom s f k acc=Rt.yY s):=x;clear x;have H:=hnx.size;obtain⟨f,rfl⟩:∃g,f=g+1:=⟨f-1,by omega⟩;obtain⟨W,cap,rfl⟩:=zK hown;by_cases hlt:k < s.size
    · have z:=Rt.jB hlt;by_cases hb:s[k].toNat=32
      · have HR:Hd (Rt.toksFrom s f (k+1) acc=Rt.yY s):=by
          have h:=y.out;rw[Rt.toksFrom,zE hlt,zE (by rw[z,hb];rfl)]at h;exact h
        clear z;have L:((s[k].toNat:Int)==32)=true:=by simp[hb]
        clear hb;go_wp2_with fail;go_roundw
        case rel=>exact⟨k+1,f,acc,by omega,by go_num,by omega,hacc,HR.out,hown,hnx⟩
        case measure=>simp[intOf];omega
      · have L:((s[k].toNat:Int)==32)=false:=by simp;omega
        have N:=Rt.ou s k (by omega);have d:¬Rt.qC s k=32:=by rw[z];omega
        clear z;by_cases hz:Rt.jL s k=0
        · have HR:Hd (Rt.yY s=none):=by
            have h:=y.out;rw[Rt.toksFrom,zE hlt,zA d,zE (Or.inl hz)]at h;exact h.symm
          clear d;go_wp2_with (go_at_call 168;refine(Ka s k I (by omega)).mono ?_;rintro e w' ⟨rfl,rfl⟩;rw[hz]);go_ret2;exact⟨hnx,Or.inl ⟨HR.out,rfl⟩⟩
        · by_cases h24:24<=acc.length
          · have HR:Hd (Rt.yY s=none):=by
              have h:=y.out;rw[Rt.toksFrom,zE hlt,zA d,zE (Or.inr h24)]at h;exact h.symm
            clear d;have G:((Rt.jL s k:Int)==0)=false:=by simp;omega
            go_wp2_with (go_at_call 168;refine(Ka s k I (by omega)).mono ?_;rintro e w' ⟨rfl,rfl⟩);go_ret2;exact⟨hnx,Or.inl ⟨HR.out,rfl⟩⟩
          · have HR:Hd (Rt.toksFrom s f (k+Rt.jL s k) (acc++[⟨Rt.YZ s k,s.extract k (k+Rt.jL s k)⟩])=Rt.yY s):=by
              have h:=y.out;rw[Rt.toksFrom,zE hlt,zA d,zA (by omega)]at h;exact h
            clear d;have G:((Rt.jL s k:Int)==0)=false:=by simp;omega
            go_wp2_with (first
              | (at_builtin;refine xQ _ rfl (.tmp 31) (.tmp 40) 137 rfl w.heap.size 188 M _ 2 24 underlying137 O F D A rfl (by decide) _ _ _ rfl (hown.alloc _) ⟨_,0,none⟩ 1 1 [.int .i64 (Rt.YZ s k),.string (s.extract k (k+Rt.jL s k))] rfl rfl (cell_two_new _ _ _ _) ?c2 ?c3 ?c4 ?c5 ?_)
              | (go_at_call 168;refine(Ka s k I (by omega)).mono ?_;rintro e w' ⟨rfl,rfl⟩))
            case c2=>intro u hu;simp at hu;rcases hu with rfl | rfl <;> rfl
            case c3=>unfold maxLen;omega
            case c4=>omega
            case c5=>simp;omega
            intro R w1 o j _;have J:=qY hnx H hown j;clear j hown hnx;go_wp2;go_roundw
            case rel=>exact⟨k+Rt.jL s k,f,_,by omega,by go_num,by omega,by simp;omega,HR.out,by rw[fB];simpa using o,J⟩
            case measure=>simp[intOf];omega
    · go_wp2;go_ret2;have h:=y.out;rw[Rt.toksFrom,zA hlt]at h;exact⟨hnx,Or.inr ⟨acc,_,h.symm,rfl,hown⟩⟩
theorem Al (s:ByteArray) (O:s.size<=40000):Calls Tryz.prog 120 #[.string s] w fun e w'=>Below w.heap.size w w'/\
   ∃v,e=.returned v/\w'.ownsRow w.heap.size 9 1 v (Rt.lines s).length ((Rt.lines s).map Value.string):=by
 obtain⟨I,J,z,y,x⟩:=yi eT;go_enter func120,ntmps120;go_wp2;go_loopw [3,4,5] (fun v st i wr=>∃(k a f:Nat) (acc:List ByteArray),a<=k/\k<=s.size/\i=.int .i64 k/\st=.int .i64 a/\s.size < f+k/\acc.length<=k/\Rt.linesFrom s f a k acc=Rt.lines s/\wr.ownsRow w.heap.size 9 1 v acc.length (acc.map Value.string)/\Below w.heap.size w wr)
  (fun _ _ i _=>s.size-(intOf i).toNat)
 case atStart=>exact⟨0,0,s.size+1,[],zB _,zo _,rfl,rfl,by omega,by simp,rfl,zW _ _ _ _,zI _ _⟩
 case round=>
  obtain⟨k,a,f,acc,N,R,rfl,rfl,T,L,D,hown,hnx⟩:=hrel;have H:Hd (Rt.linesFrom s f a k acc=Rt.lines s):=D;clear D;have A:=hnx.size;obtain⟨f,rfl⟩:∃g,f=g+1:=⟨f-1,by omega⟩;obtain⟨U,cap,rfl⟩:=zK hown;by_cases hlt:k < s.size
  ·have F:=Rt.jB hlt;by_cases hb:s[k].toNat=10
   ·have HR:Hd (Rt.linesFrom s f (k+1) (k+1) (acc++[s.extract a k])=Rt.lines s):=by
     have h:=H.out;rw[Rt.linesFrom,zE hlt,zE (by rw[F,hb];rfl)]at h;exact h
    clear F;have G:((s[k].toNat:Int)==10)=true:=by simp[hb]
    clear hb;go_wp2_with (at_builtin;refine xQ _ rfl (.tmp 16) (.tmp 21) 87 rfl w.heap.size 9 I _ 1 16 underlying87 J z y x rfl (by decide) _ _ _ rfl (hown.alloc _) ⟨_,0,none⟩ 1 1 [.string (s.extract a k)] rfl rfl (cell_one_new _ _ _) ?c2 ?c3 ?c4 ?c5 ?_)
    case c2=>intro u hu;simp at hu;rcases hu with rfl;rfl
    case c3=>unfold maxLen;omega
    case c4=>omega
    case c5=>simp;omega
    intro M w1 j d _;have o:=qY hnx A hown d;clear d hown hnx;go_wp2;go_roundw
    case rel=>exact⟨k+1,k+1,f,_,by omega,by omega,by go_num,by go_num,by omega,by simp;omega,HR.out,by simpa using j,o⟩
    case measure=>simp[intOf];omega
   ·have HR:Hd (Rt.linesFrom s f a (k+1) acc=Rt.lines s):=by
     have h:=H.out;rw[Rt.linesFrom,zE hlt,zA (by rw[F];omega)]at h;exact h
    clear F;have G:((s[k].toNat:Int)==10)=false:=by simp;omega
    go_wp2;go_roundw
    case rel=>exact⟨k+1,a,f,acc,by omega,by omega,by go_num,rfl,by omega,by omega,HR.out,hown,hnx⟩
    case measure=>simp[intOf];omega
  ·have HR:Hd (acc++[s.extract a s.size]=Rt.lines s):=by
    have h:=H.out;rw[Rt.linesFrom,zA hlt]at h;exact h
   go_wp2_with (at_builtin;refine xQ _ rfl (.tmp 25) (.tmp 29) 87 rfl w.heap.size 9 I _ 1 16 underlying87 J z y x rfl (by decide) _ _ _ rfl (hown.alloc _) ⟨_,0,none⟩ 1 1 [.string (s.extract a s.size)] rfl rfl (cell_one_new _ _ _) ?d2 ?d3 ?d4 ?d5 ?_)
   case d2=>intro u hu;simp at hu;rcases hu with rfl;rfl
   case d3=>unfold maxLen;omega
   case d4=>omega
   case d5=>simp;omega
   intro M w1 j d _;have o:=qY hnx A hown d;clear d hown hnx;go_wp2;go_ret;exact⟨o,_,rfl,by rw[<-HR.out];simpa using j⟩
def Gs (w:World) (R:Nat) (tv:Value) (ts:List Rt.Tk):Prop:=
 ∃b cap,tv=.slice (some ⟨b,0,none⟩) ts.length cap/\b < R/\
  ∀i (h:i < ts.length),w.cell? ⟨b,i*2,none⟩=some (.int .i64 ts[i].kind)/\w.cell? ⟨b,i*2+1,none⟩=some (.string ts[i].text)
structure ZJ (R:Nat) (ov ov':Value) (w w':World):Prop where
 os:w'.os=w.os
 tape:w'.tape=w.tape
 output:w'.output=w.output
 size:w.heap.size<=w'.heap.size
 block:∀k,k < w.heap.size->k≠R->some k≠ov.ownBlock->w'.heap[k]?=w.heap[k]?
 own:∀g,ov'.ownBlock=some g->ov.ownBlock=some g\/w.heap.size<=g
theorem ZJ.refl (R:Nat) (ov:Value) (w:World):ZJ R ov ov w w:=⟨rfl,rfl,rfl,zB _,fun _ _ _ _=>rfl,fun _ h=>Or.inl h⟩
theorem ZJ.trans {R:Nat} {a b c:Value} {w w1 w2:World} (h:ZJ R a b w w1) (k:ZJ R b c w1 w2):ZJ R a c w w2:=
 ⟨k.os.trans h.os,k.tape.trans h.tape,k.output.trans h.output,zi h.size k.size,
  fun i hi hR ha=>(k.block i (zX hi h.size) hR (fun e=>by rcases h.own i e.symm with x | x;exact ha x.symm;omega)).trans (h.block i hi hR ha),
  fun g hg=>by
   rcases k.own g hg with x | x
   ·rcases h.own g x with y | y
    ·exact Or.inl y
    ·exact Or.inr y
   ·exact Or.inr (zi h.size x)⟩
def aN (o:qM):List Value:=[.int .i64 o.code,.int .i64 o.number,.string o.name]
def xX (os:List qM):List Value:=os.flatMap aN
theorem fW {os:List qM} {o:qM}:xX (os++[o])=xX os++[.int .i64 o.code,.int .i64 o.number,.string o.name]:=by simp[xX,aN]
structure kC (w:World) (R:Nat) (tv:Value) (ts:List Rt.Tk) (n:Nat) (ov:Value) (ops:List qM):Prop where
 le:n<=ts.length
 VJ:ts.length<=24
 YH:ops.length<=n
 block:w.heap[R]?=some (.cells #[tv,.int .i64 n,ov] 208 (0,0))
 yY:Gs w R tv ts
 own:w.ownsRow (R+1) 236 3 ov ops.length (xX ops)
theorem QL {ops:List qM} (d:kC w R tv ts n ov ops):Calls Tryz.prog 170 #[.pointer (some ⟨R,0,none⟩)] w fun e w'=>e=.returned (.bool (decide (n < ts.length)))/\∃q,w'=w.drewN q:=by
 obtain⟨b,cap,rfl,j,f⟩:=d.yY;have i:=zC d.block 0 (by simp);have h:=zC d.block 1 (by simp);simp at i h;clear f;go_enter func170,ntmps170;go_wp2_with fail;go_quiet (fail);go_wp2;go_ret;exact⟨by simp,_,rfl⟩
theorem kC.E8 {ops:List qM} (f:kC w R tv ts n ov ops) (h:n < ts.length) (q:Nat):kC ((w.drewN q).setCell ⟨R,1,none⟩ (.int .i64 ((n:Int)+1))) R tv ts (n+1) ov ops/\ZJ R ov ov w ((w.drewN q).setCell ⟨R,1,none⟩ (.int .i64 ((n:Int)+1))):=by
 have x:R < w.heap.size:=zt w _ (zC f.block 0 (by simp));have d:∀k,k≠R->((w.drewN q).setCell ⟨R,1,none⟩ (.int .i64 ((n:Int)+1))).heap[k]?=w.heap[k]?:=fun k hk=>zO (w.drewN q) ⟨R,1,none⟩ _ k hk;have j:=f.own;refine⟨⟨by omega,f.VJ,by have:=f.YH;omega,?_,?_,?_⟩,⟨rfl,rfl,rfl,by simp[World.setCell],fun k _ hk _=>d k hk,fun _ h=>Or.inl h⟩⟩
 ·have:=f.block;show ((w.drewN q).heap.modify R _)[R]?=_;rw[ZD];simp[World.drewN,this]
 ·obtain⟨b,cap,rfl,y,o⟩:=f.yY;exact⟨b,cap,rfl,y,fun i h=>⟨by rw[xG (w:=w) (d b (by omega))];exact(o i h).1,by rw[xG (w:=w) (d b (by omega))];exact(o i h).2⟩⟩
 ·obtain⟨z,h2⟩:=f.own;refine⟨z,?_⟩;rcases h2 with h2 | ⟨g,cap,cur,hv,hg,hh,r⟩
  ·exact Or.inl h2
  ·exact Or.inr ⟨g,cap,cur,hv,hg,by rw[d g (by omega)];exact hh,r⟩
theorem fE {ops:List qM} (x:ByteArray) (d:kC w R tv ts n ov ops) (j:¬n < ts.length):Calls Tryz.prog 216 #[.pointer (some ⟨R,0,none⟩),.string x] w fun e w'=>e=.returned (.bool false)/\∃q,w'=w.drewN q:=by
 obtain⟨b,cap,rfl,o,f⟩:=d.yY;have i:=zC d.block 0 (by simp);have h:=zC d.block 1 (by simp);simp at i h;clear f;have k:decide ((ts.length:Int)<=(n:Int))=true:=by simp;omega
 go_enter func216,ntmps216;go_wp2_with fail;go_quiet (fail);go_wp2;go_ret;exact⟨by simp,_,rfl⟩
theorem mb {ops:List qM} (x:ByteArray) (d:kC w R tv ts n ov ops) (k:n < ts.length) (f:¬ts[n].text=x):Calls Tryz.prog 216 #[.pointer (some ⟨R,0,none⟩),.string x] w fun e w'=>e=.returned (.bool false)/\∃q,w'=w.drewN q:=by
 obtain⟨b,cap,rfl,A,h⟩:=d.yY;have y:=zC d.block 0 (by simp);have o:=zC d.block 1 (by simp);simp at y o;have D:=(h n k).2;have i:=KI f;clear f;generalize ts[n].text=tx at *;clear h;have z:decide ((ts.length:Int)<=(n:Int))=false:=by simp;omega
 have j:(n:Int) < (ts.length:Int):=by omega
 go_enter func216,ntmps216;go_wp2_with fail;go_quiet (fail);go_wp2;go_ret;exact⟨by simp,_,rfl⟩
theorem JD {ops:List qM} (x:ByteArray) (f:kC w R tv ts n ov ops) (i:n < ts.length) (h:ts[n].text=x):Calls Tryz.prog 216 #[.pointer (some ⟨R,0,none⟩),.string x] w fun e w'=>e=.returned (.bool true)/\kC w' R tv ts (n+1) ov ops/\ZJ R ov ov w w':=by
 have d:=f.E8 i;obtain⟨b,cap,rfl,G,k⟩:=f.yY;have A:=zC f.block 0 (by simp);have z:=zC f.block 1 (by simp);have H:=zS f.block 1;simp at A z;have y:=(k n i).2;rw[h]at y;clear k h;have j:=f.VJ;have D:Hd (∀q:Nat,kC ((w.drewN q).setCell ⟨R,1,none⟩ (.int .i64 ((n:Int)+1))) R (Value.slice (some { block:=b,off:=0 }) ts.length cap) ts (n+1) ov ops/\ZJ R ov ov w ((w.drewN q).setCell ⟨R,1,none⟩ (.int .i64 ((n:Int)+1)))):=d;clear d;have F:decide ((ts.length:Int)<=(n:Int))=false:=by simp;omega
 have o:(n:Int) < (ts.length:Int):=by omega
 go_enter func216,ntmps216;go_wp2_with fail;go_quiet (fail);go_wp2;go_ret;exact⟨by simp,D.out _⟩
section
attribute [local go_sem ↓] Go.wp_at_zero Go.wp_at_succ
theorem kC.zP {ops:List qM} (f:kC w R tv ts n ov ops) (d:Below w.heap.size w w'):kC w' R tv ts n ov ops/\ZJ R ov ov w w':=by
 have j:R < w.heap.size:=zt w _ (zC f.block 0 (by simp));refine⟨⟨f.le,f.VJ,f.YH,by rw[d.block R j];exact f.block,?_,?_⟩,⟨d.os,d.tape,d.output,d.size,fun k h _ _=>d.block k h,fun _ h=>Or.inl h⟩⟩
 ·obtain⟨b,cap,rfl,x,y⟩:=f.yY;exact⟨b,cap,rfl,x,fun i h=>⟨cell_later d (y i h).1,cell_later d (y i h).2⟩⟩
 ·obtain⟨z,h2⟩:=f.own;refine⟨z,?_⟩;rcases h2 with h2 | ⟨g,cap,cur,hv,hg,hh,r⟩
  ·exact Or.inl h2
  ·have o:g < w.heap.size:=by
    by_cases h:g < w.heap.size
    ·exact h
    ·rw[vq (by omega)]at hh;cases hh
   exact Or.inr ⟨g,cap,cur,hv,hg,by rw[d.block g o];exact hh,r⟩
theorem below_drewN (w:World) (q:Nat):Below w.heap.size w (w.drewN q):=⟨rfl,rfl,rfl,zB _,fun _ _=>rfl⟩
theorem gS {a b c:Addr} {x y z:Option Value} (q:Nat) (h:w.cell? a=x) (f:w.cell? b=y) (d:w.cell? c=z):∃w1,w1=w.drewN q/\w1.cell? a=x/\w1.cell? b=y/\w1.cell? c=z:=⟨_,rfl,h,f,d⟩
theorem aw {q m:Nat} (h:w1=w.drewN q):w1.drewN m=w.drewN (q+m):=by
 subst h;simp[World.drewN,vN]
theorem mr:Calls Tryz.prog 220 #[.string s] w fun e w'=>e=.returned (.bool (Rt.aL s))/\w'=w:=by
 go_enter func220,ntmps220;go_wp2
 all_goals (go_ret;exact⟨by simp_all [Rt.aL,Rt.cJ],rfl⟩)
theorem Yu:Calls Tryz.prog 228 #[.string s] w fun e w'=>e=.returned (.int .i64 (Rt.yI s))/\w'=w:=by
 go_enter func228,ntmps228;go_wp2
 all_goals (go_ret;exact⟨by simp_all [Rt.yI],rfl⟩)
theorem nB {ops:List qM} (d:kC w R tv ts n ov ops) (j:¬n < ts.length):Calls Tryz.prog 225 #[.pointer (some ⟨R,0,none⟩),.int .i64 lo,.int .i64 hi] w fun e w'=>e=.returned (.int .i64 0)/\∃q,w'=w.drewN q:=by
 obtain⟨b,cap,rfl,o,f⟩:=d.yY;have i:=zC d.block 0 (by simp);have h:=zC d.block 1 (by simp);simp at i h;clear f;have k:¬((n:Int) < (ts.length:Int)):=by omega
 go_enter func225,ntmps225;go_wp2_with fail;go_quiet (fail);go_wp2;go_ret;exact⟨by simp,_,rfl⟩
theorem KW {ops:List qM} (f:kC w R tv ts n ov ops) (F:n < ts.length) (A:Rt.yI ts[n].text < lo\/hi < Rt.yI ts[n].text):Calls Tryz.prog 225 #[.pointer (some ⟨R,0,none⟩),.int .i64 lo,.int .i64 hi] w fun e w'=>e=.returned (.int .i64 0)/\∃q,w'=w.drewN q:=by
 obtain⟨b,cap,rfl,H,y⟩:=f.yY;have o:=zC f.block 0 (by simp);have j:=zC f.block 1 (by simp);simp at o j;have z:=(y n F).2;clear y;have D:(n:Int) < (ts.length:Int):=by omega
 generalize ts[n].text=tx at *;by_cases h1:Rt.yI tx < lo
 ·go_enter func225,ntmps225;go_wp2_with fail;go_quiet (fail);go_wp2_with fail;obtain⟨w1,d,k,i,h⟩:=gS nq o j z;rw[<-d];have x:Hd (w1=w.drewN nq):=d;clear d;go_quiet ((go_at_call 228;exact Calls.quiet_of_same (Yu)));go_wp2;go_ret;exact⟨by simp,_,aw x.out⟩
 ·have I:hi < Rt.yI tx:=by omega
  have G:¬Rt.yI tx < lo:=h1;clear A;go_enter func225,ntmps225;go_wp2_with fail;go_quiet (fail);go_wp2_with fail;obtain⟨w1,d,k,i,h⟩:=gS nq o j z;rw[<-d];have x:Hd (w1=w.drewN nq):=d;clear d;go_quiet ((go_at_call 228;exact Calls.quiet_of_same (Yu)));go_wp2;go_ret;exact⟨by simp,_,aw x.out⟩
theorem kC.same {ops:List qM} (d:kC w R tv ts n ov ops) (f:w'.heap=w.heap):kC w' R tv ts n ov ops:=by
 refine⟨d.le,d.VJ,d.YH,by rw[f];exact d.block,?_,?_⟩
 ·obtain⟨b,cap,rfl,j,k⟩:=d.yY;exact⟨b,cap,rfl,j,fun i h=>⟨by rw[xG (w:=w) (by rw[f])];exact(k i h).1,by rw[xG (w:=w) (by rw[f])];exact(k i h).2⟩⟩
 ·obtain⟨o,h2⟩:=d.own;refine⟨o,?_⟩;rcases h2 with h2 | ⟨g,cap,cur,hv,hg,hh2,r⟩
  ·exact Or.inl h2
  ·exact Or.inr ⟨g,cap,cur,hv,hg,by rw[f];exact hh2,r⟩
theorem ZJ.same (h:ZJ R a b w w1) (d:w2.heap=w1.heap) (j:w2.os=w1.os) (i:w2.tape=w1.tape) (f:w2.output=w1.output):ZJ R a b w w2:=
 ⟨j.trans h.os,i.trans h.tape,f.trans h.output,by rw[d];exact h.size,fun k h1 h2 h3=>by rw[d];exact h.block k h1 h2 h3,h.own⟩
theorem Jf {ops:List qM} (f:kC w R tv ts n ov ops) (h:n < ts.length) (M:lo<=Rt.yI ts[n].text) (L:Rt.yI ts[n].text<=hi):Calls Tryz.prog 225 #[.pointer (some ⟨R,0,none⟩),.int .i64 lo,.int .i64 hi] w fun e w'=>e=.returned (.int .i64 (Rt.yI ts[n].text))/\kC w' R tv ts (n+1) ov ops/\ZJ R ov ov w w':=by
 have I:Hd (∀q:Nat,kC ((w.drewN q).setCell ⟨R,1,none⟩ (.int .i64 ((n:Int)+1))) R tv ts (n+1) ov ops/\ZJ R ov ov w ((w.drewN q).setCell ⟨R,1,none⟩ (.int .i64 ((n:Int)+1)))):=f.E8 h;obtain⟨b,cap,rfl,J,j⟩:=f.yY;have o:=zC f.block 0 (by simp);have k:=zC f.block 1 (by simp);have z:=zS f.block 1;simp at o k;have D:=(j n h).2;clear j;have i:=f.VJ;have x:(n:Int) < (ts.length:Int):=by omega
 generalize ts[n].text=tx at *;go_enter func225,ntmps225;go_wp2_with fail;go_quiet (fail);go_wp2_with fail;obtain⟨w1,d,G,F,A⟩:=gS nq o k D;rw[<-d];have y:w1.frozen? ⟨R,1,none⟩=false:=by rw[d];exact z
 have H:Hd (w1=w.drewN nq):=d;clear d;go_quiet ((go_at_call 228;exact Calls.quiet_of_same (Yu)));go_wp2;go_ret;refine⟨by simp,?_⟩;rw[aw H.out];exact I.out _
theorem oj {ops:List qM} (d:kC w R tv ts n ov ops) (j:¬n < ts.length):Calls Tryz.prog 213 #[.pointer (some ⟨R,0,none⟩)] w fun e w'=>e=.returned (.tuple #[.string ⟨#[]⟩,.bool false])/\∃q,w'=w.drewN q:=by
 obtain⟨b,cap,rfl,o,f⟩:=d.yY;have i:=zC d.block 0 (by simp);have h:=zC d.block 1 (by simp);simp at i h;clear f;have k:¬((n:Int) < (ts.length:Int)):=by omega
 go_enter func213,ntmps213;go_wp2_with fail;go_quiet (fail);go_wp2_with fail;go_ret2;exact⟨by simp,_,rfl⟩
theorem Zh (w:World) (R:Nat) (tv:Value) (d:List Rt.Tk) (n:Nat) (ov:Value) (h:List qM) (j:kC w R tv d n ov h) (A:n < d.length):Calls Tryz.prog 213 #[.pointer (some ⟨R,0,none⟩)] w fun e w'=>
   (d[n].kind=1/\Rt.aL d[n].text=false/\e=.returned (.tuple #[.string d[n].text,.bool true])/\kC w' R tv d (n+1) ov h/\ZJ R ov ov w w')\/
   (¬(d[n].kind=1/\Rt.aL d[n].text=false)/\e=.returned (.tuple #[.string ⟨#[]⟩,.bool false])/\kC w' R tv d n ov h/\ZJ R ov ov w w'):=by
 have i:=j;obtain⟨b,cap,rfl,hb,F⟩:=j.yY;have y:=zC j.block 0 (by simp);have G:=zC j.block 1 (by simp);have M:=zS j.block 1;simp at y G;obtain⟨U,O⟩:=F n A;clear F;have D:=j.VJ;have I:(n:Int) < (d.length:Int):=by omega
 generalize d[n].text=tx at *;generalize d[n].kind=kx at *;have x:R < w.heap.size:=zt w _ y;go_enter func213,ntmps213;go_wp2_with fail;go_quiet (fail);go_wp2_with fail;obtain⟨w1,f,W,V,N⟩:=gS nq y G O;rw[<-f];have T:w1.cell? ⟨b,n*2,none⟩=some (.int .i64 kx):=by rw[f];exact U
 have L:w1.frozen? ⟨R,1,none⟩=false:=by rw[f];exact M
 have H:R < w1.heap.size:=by rw[f];exact x
 have z:Hd (w1=w.drewN nq):=f;clear f;go_region_held3 (fun w'=>w'.cell? ⟨R,0,none⟩=some (.slice (some ⟨b,0,none⟩) d.length cap)/\w'.cell? ⟨R,1,none⟩=some (.int .i64 n)/\w'.cell? ⟨b,n*2,none⟩=some (.int .i64 kx)/\w'.cell? ⟨b,n*2+1,none⟩=some (.string tx)) (go_keep) (fail);go_wp2_with (go_at_call 220;refine(mr).mono ?_;rintro e w' ⟨rfl,rfl⟩)
 ·have o:Rt.aL tx=true:=by assumption
  go_ret2;refine Or.inr ⟨by simp[o],by simp,?_⟩;exact i.zP (by rw[z.out];exact((below_drewN w nq).alloc (zB _) _).drew)
 ·have o:kx=1:=by assumption
  have J:Rt.aL tx=false:=by assumption
  go_ret2;refine Or.inl ⟨o,J,by simp,?_⟩;have k:=i.E8 A nq;rw[<-z.out]at k;obtain⟨a1,a2⟩:=k;obtain⟨a3,Z⟩:=a1.zP (((zI _ _).alloc (zB _) (.cells #[.int .i64 1,.string tx] 188)).drew);exact⟨a3,a2.trans Z⟩
 ·have o:¬kx=1:=by assumption
  go_ret2;refine Or.inr ⟨by simp[o],by simp,?_⟩;exact i.zP (by rw[z.out];exact((below_drewN w nq).alloc (zB _) _).drew)
theorem nk (f:s.size<=maxLen):Calls Tryz.prog 221 #[.string s] w fun e w'=>e=.returned (.int .i64 (Rt.val s))/\w'=w:=by
 unfold maxLen at f;go_enter func221,ntmps221;go_wp2;go_loop [3,4] (fun v i=>∃k:Nat,k<=s.size/\i=.int .i64 k/\v=.int .i64 (Rt.valTo s k)) (fun _ i=>s.size-(intOf i).toNat)
 case atStart=>exact⟨0,zo _,rfl,rfl⟩
 case round=>
  obtain⟨k,h,rfl,rfl⟩:=hrel;by_cases hlt:k < s.size
  ·have HB:Hd (Rt.qC s k=(s[k].toNat:Int)):=Rt.jB hlt;go_wp2;go_round
   case rel=>exact⟨k+1,by omega,by go_num,by rw[Rt.valTo,HB.out]⟩
   case measure=>simp[intOf];omega
  ·have d:k=s.size:=by omega
   subst d;go_wp2;go_ret;exact⟨rfl,rfl⟩
theorem kC.push {ov':Value} {ops:List qM} {o:qM} {wa:World} (y:kC w R tv ts n ov ops) (z:Below w.heap.size w wa) (A:w1.ownsRow (R+1) 236 3 ov' (ops.length+1) (xX ops++[.int .i64 o.code,.int .i64 o.number,.string o.name])) (d:wa.grownBy w1 ov.ownBlock) (J:∀g,ov'.ownBlock=some g->ov.ownBlock=some g\/w.heap.size<=g) (M:ops.length < n):kC (w1.setCell ⟨R,2,none⟩ ov') R tv ts n ov' (ops++[o])/\ZJ R ov ov' w (w1.setCell ⟨R,2,none⟩ ov'):=by
 have H:R < w.heap.size:=zt w _ (zC y.block 0 (by simp));have D:∀k,k<=R->some k≠ov.ownBlock:=fun k hk h=>by have:=(y.own.lt k h.symm).1;omega
 have f:∀k,k < w.heap.size->some k≠ov.ownBlock->w1.heap[k]?=w.heap[k]?:=fun k hk hkv=>(d.block k (zX hk z.size) hkv).trans (z.block k hk);have x:∀k,k≠R->(w1.setCell ⟨R,2,none⟩ ov').heap[k]?=w1.heap[k]?:=fun k hk=>zO w1 ⟨R,2,none⟩ _ k hk;have G:w1.heap[R]?=some (.cells #[tv,.int .i64 n,ov] 208 (0,0)):=(f R H (D R (zB _))).trans y.block;refine⟨⟨y.le,y.VJ,by simp;omega,?_,?_,?_⟩,⟨d.os.trans z.os,d.tape.trans z.tape,d.output.trans z.output,?_,fun k hk hkR hkv=>(x k hkR).trans (f k hk hkv),J⟩⟩
 ·show (w1.heap.modify R _)[R]?=_;rw[ZD];simp[G]
 ·obtain⟨b,cap,rfl,I,L⟩:=y.yY;have F:∀j,(w1.setCell ⟨R,2,none⟩ ov').cell? ⟨b,j,none⟩=w.cell? ⟨b,j,none⟩:=fun j=>xG (w:=w) ((x b (by omega)).trans (f b (by omega) (D b (by omega))));exact⟨b,cap,rfl,I,fun i h=>⟨by rw[F];exact(L i h).1,by rw[F];exact(L i h).2⟩⟩
 ·rw[fW,ze];exact qL A (by show R < R+1;omega) _
 ·simp[World.setCell];exact zi z.size d.size
theorem F7:(Tryz.prog.info? 236).map (fun i=>(i.zero,i.size,i.bytes))=some (some (.agg #[.int .i64 0,.int .i64 0,.string ByteArray.empty]),3,32):=by kernel_rfl
theorem DJ (h:R < w.heap.size) (A:w.cell? ⟨R,2,none⟩=some ov) (z:w.frozen? ⟨R,2,none⟩=false) (f:ov.ownBlock≠some R) (x:∀k,ov.ownBlock=some k->R+1<=k/\k < w.heap.size) {o:Obj} (d:((w.alloc (.cells #[a,b,c] 236)).alloc o).drew.grownBy w1 ov.ownBlock):(w1.cell? ⟨R,2,none⟩=some ov/\w1.cell? ⟨w.heap.size,0,none⟩=some a/\w1.cell? ⟨w.heap.size,1,none⟩=some b/\w1.cell? ⟨w.heap.size,2,none⟩=some c)/\w1.frozen? ⟨R,2,none⟩=false:=by
 have j:∀k,k < w.heap.size+1->some k≠ov.ownBlock->w1.heap[k]?=(w.alloc (.cells #[a,b,c] 236)).heap[k]?:=fun k hk hv=>by
  rw[d.block k (by simp;omega) hv];exact jx _ _ _ (by simp;omega)
 have i:w1.heap[R]?=w.heap[R]?:=(j R (by omega) (xK f)).trans (jx _ _ _ h);have y:w1.heap[w.heap.size]?=(w.alloc (.cells #[a,b,c] 236)).heap[w.heap.size]?:=j _ (by omega) (fun e=>by have:=(x _ e.symm).2;omega);refine⟨⟨(xG (w:=w) i).trans A,?_,?_,?_⟩,(World.frozen?_of_block (w:=w) i).trans z⟩
 all_goals (rw[xG (w:=w.alloc (.cells #[a,b,c] 236)) y];simp)
theorem XQ {ops:List qM} (o:qM) (j:kC w R tv ts n ov ops) (z:ops.length < n):Calls Tryz.prog 226 #[.pointer (some ⟨R,0,none⟩),.agg #[.int .i64 o.code,.int .i64 o.number,.string o.name]] w fun e w'=>
   e=.returned (.tuple #[])/\∃ov',kC w' R tv ts n ov' (ops++[o])/\ZJ R ov ov' w w':=by
 obtain⟨L,F,y,x,k⟩:=yi F7;have G:=zC j.block 2 (by simp);have O:=zS j.block 2;simp at G;have D:R < w.heap.size:=zt w _ G;have d:=j.own;have I:=j.VJ;have M:=j.le;have A:ov.ownBlock≠some R:=fun h=>by have:=(d.lt R h).1;omega
 go_enter func226,ntmps226;go_wp2_with fail;go_region_law
  ((refine step_append_lies _ (by rfl) _ _ _ (by rfl) (R+1) 236 L _ 3 32 underlying138 F y x k rfl (by omega) ov ops.length (xX ops) (by rfl) (((d.alloc _).alloc _).drew) ⟨w.heap.size+1,0,none⟩ 1 1 [.int .i64 o.code,.int .i64 o.number,.string o.name] (by rfl) (by rfl) (World.news_of_block (cs:=#[.int .i64 o.code,.int .i64 o.number,.string o.name]) (t:=236) (fr:=(0,0)) (iC w)) (by simp[Value.oneCell']) (by omega) (by unfold maxLen;omega) (by omega) (by simp;omega) (w.heap.size+2) (by simp) ?_;intro T cap w1 i f hat H;obtain⟨⟨J,_⟩,N⟩:=DJ D G O A d.lt f))
 all_goals
  go_end0;exact⟨rfl,_,j.push ((((zI _ _).alloc (zB _) _).alloc (by simp) _).drew) i f (fun g hg=>by simp[Value.ownBlock]at hg;subst hg;rcases hat with h | h;exact Or.inl h;exact Or.inr (by omega)) z⟩
theorem sa {ops:List qM} (d:kC w R tv ts n ov ops) (j:¬n < ts.length):Calls Tryz.prog 214 #[.pointer (some ⟨R,0,none⟩)] w fun e w'=>e=.returned (.tuple #[.int .i64 0,.bool false])/\∃q,w'=w.drewN q:=by
 obtain⟨b,cap,rfl,o,f⟩:=d.yY;have i:=zC d.block 0 (by simp);have h:=zC d.block 1 (by simp);simp at i h;clear f;have k:decide ((ts.length:Int)<=(n:Int))=true:=by simp;omega
 go_enter func214,ntmps214;go_wp2_with fail;go_quiet (fail);go_wp2_with fail;go_ret2;exact⟨by simp,_,rfl⟩
theorem AX {ops:List qM} (d:kC w R tv ts n ov ops) (j:n < ts.length) (f:¬ts[n].kind=2):Calls Tryz.prog 214 #[.pointer (some ⟨R,0,none⟩)] w fun e w'=>e=.returned (.tuple #[.int .i64 0,.bool false])/\∃q,w'=w.drewN q:=by
 obtain⟨b,cap,rfl,z,h⟩:=d.yY;have x:=zC d.block 0 (by simp);have o:=zC d.block 1 (by simp);simp at x o;have A:=(h n j).1;clear h;generalize ts[n].kind=kx at *;have k:(kx != 2)=true:=by simpa using f
 clear f;have y:decide ((ts.length:Int)<=(n:Int))=false:=by simp;omega
 have i:(n:Int) < (ts.length:Int):=by omega
 go_enter func214,ntmps214;go_wp2_with fail;go_quiet (fail);go_wp2_with fail;go_ret2;exact⟨by simp,_,rfl⟩
theorem fe {ops:List qM} (f:kC w R tv ts n ov ops) (h:n < ts.length) (i:ts[n].kind=2) (y:ts[n].text.size<=maxLen):Calls Tryz.prog 214 #[.pointer (some ⟨R,0,none⟩)] w fun e w'=>e=.returned (.tuple #[.int .i64 (Rt.val ts[n].text),.bool true])/\kC w' R tv ts (n+1) ov ops/\ZJ R ov ov w w':=by
 have M:Hd (∀q:Nat,kC ((w.drewN q).setCell ⟨R,1,none⟩ (.int .i64 ((n:Int)+1))) R tv ts (n+1) ov ops/\ZJ R ov ov w ((w.drewN q).setCell ⟨R,1,none⟩ (.int .i64 ((n:Int)+1)))):=f.E8 h;obtain⟨b,cap,rfl,O,k⟩:=f.yY;have x:=zC f.block 0 (by simp);have o:=zC f.block 1 (by simp);have D:=zS f.block 1;simp at x o;obtain⟨H,G⟩:=k n h;clear k;rw[i]at H;clear i;have j:=f.VJ;generalize ts[n].text=tx at *;have N:decide ((ts.length:Int)<=(n:Int))=false:=by simp;omega
 have z:(n:Int) < (ts.length:Int):=by omega
 go_enter func214,ntmps214;go_wp2_with fail;go_quiet (fail);go_wp2_with fail;obtain⟨w1,d,J,I,F⟩:=gS nq x o G;rw[<-d];have A:w1.frozen? ⟨R,1,none⟩=false:=by rw[d];exact D
 have L:Hd (w1=w.drewN nq):=d;clear d;go_quiet ((go_at_call 221;exact Calls.quiet_of_same (nk y)));go_wp2;go_ret2;refine⟨by simp,?_⟩;rw[aw L.out];exact M.out _
end
end Go.Proofs.YthleadfkfnnadaaGreat
