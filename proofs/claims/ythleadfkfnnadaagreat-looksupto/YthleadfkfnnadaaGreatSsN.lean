/- Looking at a place: Cell. -/
import Derived.Test.YthleadfkfnnadaaGreatSeB
import Derived.Test.YthleadfkfnnadaaGreatPlB
set_option maxHeartbeats 4000000
set_option maxRecDepth 100000
set_option linter.unusedSimpArgs false
namespace Go.Proofs.YthleadfkfnnadaaGreat
open Rt Go.Proofs.Tryz
open Go.RowKit
variable {cap:Int} {ls:List (List ByteArray)} {tail:List Value} {X:ZK} {M B P:Nat} {m:Rt.Mc} {s:Se} {S:Rt.Src} {ty:TypeId} {jv:Value} {w:World}
section
attribute [local go_sem ↓] Go.wp_at_zero Go.wp_at_succ
namespace Rt
def G4 (S:Src) (m:Mc) (x:ByteArray):Int×Int:=if isVar S.zL (qJ S m) x=true then (ZL m (vx S m x),0)else (0,4)
def cellR (S:Src) (m:Mc) (x:ByteArray) (n:Int):Int×Int:=if ZW S.zL (qJ S m) x=true then (match kX S m x n with | some s=>(ZL m s,0)| none=>(0,9))else (0,4)
def G3 (m:Mc):List Int:=(m.zH.drop 1).map Fm.call
end Rt
theorem cellb_lt {b o:Nat} {v:Value} (h:w.cell? ⟨b,o,none⟩=some v):b < w.heap.size:=by
 unfold World.cell? at h;split at h
 ·rename_i hb;exact(Zd.1 hb).1
 ·cases h
theorem mValue_any (x:ByteArray) (h:jz w M B ty tail S m X) (j:dL S m):Calls Tryz.prog 115 #[.pointer (some ⟨M,0,none⟩),.string x] w fun e w'=>e=.returned (.tuple #[.int .i64 (Rt.G4 S m x).1,.int .i64 (Rt.G4 S m x).2])/\Below w.heap.size w w':=by
 have i:(Rt.yA S.zL (Rt.qJ S m)).params.length<=1000:=aJ j.ZX (Rt.qJ S m);go_enter func115,ntmps115;go_wp2_with fail;refine(CF h).mono ?_;rintro e w1 ⟨rfl,f⟩;have D:=zD (show Rt.G4 S m x=if Rt.isVar S.zL (Rt.qJ S m) x=true then (Rt.ZL m (Rt.vx S m x),0)else (0,4)from rfl);generalize Rt.qJ S m=pc at *;go_wp2_with fail;refine(isVariable_m pc x (h.prog.zP f) j.zL i).mono ?_;rintro e w2 ⟨rfl,A⟩;have d:=f.trans (A.mono f.size);have I:=h.zP d;clear f A i;cases hv:Rt.isVar S.zL pc x with
 | false=>
  have L:=zD (show Rt.G4 S m x=(0,4) by rw[D.u,hv];rfl);have F:=zD d;clear h I j d hv D;go_wp2_with fail;refine zT (v:=.tuple #[.int .i64 0,.int .i64 4]) ?_ rfl ⟨by rw[L.u],F.u⟩;simp[results,results115,go_sem]
 | true=>
  have L:=zD (show Rt.G4 S m x=(Rt.ZL m (Rt.vx S m x),0) by rw[D.u,hv];rfl);have y:=XX I j d;clear h I j d hv D;go_wp2_with fail;refine(fy x y.u.1 y.u.2.1).mono ?_;rintro e G ⟨rfl,o⟩;have F:=zD (y.u.2.2.trans (o.mono y.u.2.2.size));have O:=y.u.1.zP o;obtain⟨_,j,_⟩:=y.u;generalize H:Rt.vx S m x=sp at *;have R:=zD (fun (W:World) (hW:jz W M B ty tail S m X)=>nT sp hW j);have J:=zD O;clear H o O j y;generalize Rt.ZL m sp=gv at *;go_wp2_with fail;have k:=(zI G.heap.size G).alloc (zB _) (.cells #[.int .i64 sp.line,.int .i64 sp.cell] 160);refine(R.u _ (J.u.zP k)).mono ?_;rintro e T ⟨rfl,z⟩;have N:=zD (F.u.trans ((k.trans (z.mono (B':=G.heap.size) (by simp))).mono F.u.size));clear k z;go_wp2_with fail;refine zT (v:=.tuple #[.int .i64 gv,.int .i64 0]) ?_ rfl ⟨by rw[L.u],N.u⟩;simp[results,results115,go_sem]
theorem mCalls_any (h:jz w M B ty tail S m X) (hm:m.zH.length<=1000) (h0:0 < m.zH.length):Calls Tryz.prog 73 #[.pointer (some ⟨M,0,none⟩)] w fun e w'=>Below w.heap.size w w'/\∃v,e=.returned v/\w'.ownsRow w.heap.size 3 1 v (Rt.G3 m).length (xR (Rt.G3 m)):=by
 obtain⟨i0,O,L,J,I⟩:=yi XL;have HH:=zD h;obtain⟨D,A,y⟩:=zK h.zH;have HC:=zD (show ∀k,(hk:k < m.zH.length)->∃g,D=some ⟨g,0,none⟩/\(X.fv.ownBlock=some g)/\∀W,Below w.heap.size w W->W.cell? ⟨g,k*2+1,none⟩=some (.int .i64 m.zH[k].call) by
  intro k hk;obtain⟨g,V,G,_,_,F⟩:=yD h.zH (Js X.xg m.zH h.fl k hk).2;refine⟨g,by rw[y]at G;injection G,by rw[G];rfl,fun W hW=>cell_later hW F⟩)
 have HX:=zD (show ∀W,Below w.heap.size w W->W.cell? ⟨M,2,none⟩=some (.slice D m.zH.length A)from fun W hW=>by rw[<-y];exact(h.zP hW).c2);have HL:=zD (show ∀k,(hk:k < m.zH.length)->(Rt.G3 m).take (k-1)++(if 1<=k then [m.zH[k].call]else [])=(Rt.G3 m).take k by
  intro k hk;unfold Rt.G3;cases k with
  | zero=>simp
  | succ k=>
   have:((m.zH.drop 1).map Rt.Fm.call)[k]?=some m.zH[k+1].call:=by
    rw[yt,vp,show 1+k=k+1 by omega,zJ hk];rfl
   rw[kI,this];simp)
 have R:=zD (show (Rt.G3 m).length=m.zH.length-1 by unfold Rt.G3;simp);clear h y;go_enter func73,ntmps73;go_wp2_with fail;go_loopw [3,4] (fun v i wr=>∃k:Nat,k+1<=m.zH.length/\i=.int .i64 ((k:Int)+1)/\wr.ownsRow w.heap.size 3 1 v k (xR ((Rt.G3 m).take k))/\Below w.heap.size w wr)
  (fun _ i _=>m.zH.length+1-(intOf i).toNat)
 case atStart=>exact⟨0,by omega,rfl,zW _ _ _ _,zI _ _⟩
 case round=>
  obtain⟨k,hk,rfl,d,f⟩:=hrel;have N:=f.size;obtain⟨a2,Z,rfl⟩:=zK d;have c2:=HX.u wr f;by_cases hlt:k+1 < m.zH.length
  ·obtain⟨g,rfl,_,U⟩:=HC.u (k+1) hlt;have F:=U wr f;have G:=cellb_lt F;have HT:=zD (HL.u (k+1) hlt);generalize m.zH[k+1].call=q at *;have z:((k:Int)+1) < (m.zH.length:Int):=by omega
   have a1:(0:Int)<=(k:Int)+1:=by omega
   have ek:((k:Int)+1).toNat=k+1:=by omega
   clear U;go_wp2_with (at_builtin;refine xQ _ rfl _ _ 24 rfl w.heap.size 3 i0 _ 1 8 underlying24 O L J I rfl (by decide) _ _ _ rfl (d.alloc _) ⟨_,0,none⟩ 1 1 [.int .i64 q] rfl rfl (cell_one_new _ _ _) ?c2 ?c3 ?c4 ?c5 ?_)
   case c2=>intro u hu;simp at hu;rcases hu with rfl;rfl
   case c3=>unfold maxLen;omega
   case c4=>omega
   case c5=>simp;omega
   intro v' w3 j o _;have x:=qY f N d o;have H:=qG j x;clear j x o d f c2 F;go_wp2_with fail;go_roundw
   case rel=>
    obtain⟨q2,q3⟩:=H.u;have T:=HT.u;rw[zu,zE (by omega)]at T;exact⟨k+1,by omega,by go_num,by rw[<-T,xR,yB];exact q2,q3⟩
   case measure=>simp[intOf];omega
  ·have H:=qG d f;have z:¬((k:Int)+1) < (m.zH.length:Int):=by omega
   have HE:=zD (show (Rt.G3 m).take k=Rt.G3 m/\(Rt.G3 m).length=k from by
    have a0:=R.u;exact⟨yw (by omega),by omega⟩)
   clear d f;go_wp2;go_ret;refine⟨H.u.2,_,rfl,?_⟩;have:=H.u.1;rw[HE.u.1]at this;rw[HE.u.2];exact this
theorem sValue_any (x:ByteArray) (h:Zv w P B S cap s X jv) (f:dL S s.m):Calls Tryz.prog 69 #[.pointer (some ⟨P,0,none⟩),.string x] w fun e w'=>e=.returned (.tuple #[.int .i64 (Rt.G4 S s.m x).1,.int .i64 (Rt.G4 S s.m x).2])/\Below w.heap.size w w':=by
 have i:=zD (mValue_any x h.mc f);clear h f;go_enter func69,ntmps69;go_wp2_with fail;refine i.u.mono ?_;rintro e w1 ⟨rfl,d⟩;have j:=zD d;clear d;go_wp2_with fail;refine zT (v:=.tuple #[.int .i64 (Rt.G4 S s.m x).1,.int .i64 (Rt.G4 S s.m x).2]) ?_ rfl ⟨rfl,j.u⟩;simp[results,results69,go_sem]
theorem sCalls_any (h:Zv w P B S cap s X jv) (j:s.m.zH.length<=1000) (k:0 < s.m.zH.length):Calls Tryz.prog 38 #[.pointer (some ⟨P,0,none⟩)] w fun e w'=>Below w.heap.size w w'/\∃v,e=.returned v/\w'.ownsRow w.heap.size 3 1 v (Rt.G3 s.m).length (xR (Rt.G3 s.m)):=by
 have o:=zD (mCalls_any h.mc j k);clear h;go_enter func38,ntmps38;go_wp2_with fail;refine o.u.mono ?_;rintro e w1 ⟨d,v,rfl,f⟩;have i:=qG d f;clear d f;go_wp2;go_ret;exact⟨i.u.1,v,rfl,i.u.2⟩
end
namespace Rf
open Rt
theorem par_yes {ps:List ByteArray} {x:ByteArray}:∀(i:Nat),0<=parNo i ps x->ps.any (fun y=>decide (y=x))=true:=by
 induction ps with
 | nil=>intro i h;rw[parNo]at h;omega
 | cons p r ih=>
  intro i h;rw[parNo]at h;split at h
  ·next he=>rw[vw,qA he];rfl
  ·rw[vw,ih (i+1) h,Bool.or_true]
theorem decl_first {zL:List PL} (h:ZM zL ls) (x:ByteArray) (i:¬decl ls x=0):∃hd:decl ls x-1 < ls.length,((first ls[decl ls x-1]).toList==[118,97,114])=decide ((yJ zL x).kind=1)/\((first ls[decl ls x-1]).toList==[97,114,114,97,121])=decide ((yJ zL x).kind=2):=by
 rcases h.bD x with⟨h1,_⟩| ⟨_,hd,hli⟩
 ·exact absurd h1 i
 ·obtain⟨o,k,j,_⟩:=Ya hli;obtain⟨_,f,d,_⟩:=vA (yJ zL x).kind;refine⟨hd,?_,?_⟩
  ·rw[k];simp[f]
  ·rw[j];simp[d]
theorem decl_none {zL:List PL} (h:ZM zL ls) (x:ByteArray) (d:decl ls x=0):(yJ zL x).kind=0:=by
 rcases h.bD x with⟨_,h1⟩| ⟨h1,_⟩
 ·rw[h1];rfl
 ·exact absurd d h1
section
variable {zL:List PL} {ls:List (List ByteArray)} {S:Rt.Src} {m:Mc}
theorem sort_of (E:Env zL ls S m) (x:ByteArray):Rt.isVar S.zL (qJ S m) x=Rt.isVar zL (qJ S m) x/\ZW S.zL (qJ S m) x=ZW zL (qJ S m) x/\
  (0<=index (XZ ls (top (yT zL m)).proc) x->Rt.isVar zL (qJ S m) x=true/\ZW zL (qJ S m) x=false)/\
  (¬0<=index (XZ ls (top (yT zL m)).proc) x->Rt.isVar zL (qJ S m) x=decide ((yJ zL x).kind=1)/\ZW zL (qJ S m) x=decide ((yJ zL x).kind=2)):=by
 have d:index (XZ ls (top (yT zL m)).proc) x=parNo 0 (yA zL (qJ S m)).params x:=by
  rw[E.Gd,E.Ja,Zl];have:=G6 x (yA zL (qJ S m)).params _ 0 (xW _);rw[Yf]at this;exact this
 rw[d];unfold Rt.isVar ZW VS yJ;refine⟨?_,?_,fun h=>?_,fun h=>?_⟩
 ·rw[E.Ja,Zl,XR,Zl]
 ·rw[E.Ja,Zl,XR,Zl]
 ·rw[par_yes 0 h];exact⟨rfl,rfl⟩
 ·rw[pR 0 (by omega)];exact⟨rfl,rfl⟩
def valD (ls:List (List ByteArray)) (p:Pl) (x:ByteArray):Int×Int:=
 if 0<=index (XZ ls (top p).proc) x then (value ls p x,0)else if decl ls x=0 then (0,4)else if ((first (xU ls (decl ls x-1))).toList==[118,97,114])=true then (value ls p x,0)else (0,4)
theorem valD_eq (E:Env zL ls S m) (x:ByteArray):valD ls (yT zL m) x=G4 S m x:=by
 obtain⟨k,_,i,h⟩:=sort_of E x;unfold valD G4;rw[k];by_cases hp:0<=index (XZ ls (top (yT zL m)).proc) x
 ·have d:=(i hp).1;rw[zE hp,zE d,Bl E d]
 ·rw[zA hp];have d:=(h hp).1;by_cases h0:decl ls x=0
  ·rw[zE h0,zA (by rw[d,decl_none E.both x h0];decide)]
  ·obtain⟨f,j,_⟩:=decl_first E.both x h0;rw[zA h0,yq f,j,<-d];by_cases hk:Rt.isVar zL (qJ S m) x=true
   ·rw[zE hk,zE hk,Bl E hk]
   ·rw[zA hk,zA hk]
def celD (ls:List (List ByteArray)) (p:Pl) (x:ByteArray) (i:Int):Int×Int:=
 if 0<=index (XZ ls (top p).proc) x\/decl ls x=0 then (0,4)else if ((first (xU ls (decl ls x-1))).toList==[97,114,114,97,121])=true then
  (if i < 0\/((p.cells.getD (decl ls x) []).length:Int)<=i then (0,9)else ((p.cells.getD (decl ls x) []).getD i.toNat 0,0))else (0,4)
theorem celD_eq (E:Env zL ls S m) (x:ByteArray) (i:Int):celD ls (yT zL m) x i=Go.Proofs.YthleadfkfnnadaaGreat.Rt.cellR S m x i:=by
 obtain⟨_,o,j,h⟩:=sort_of E x;unfold celD Go.Proofs.YthleadfkfnnadaaGreat.Rt.cellR;rw[o];by_cases hp:0<=index (XZ ls (top (yT zL m)).proc) x
 ·rw[zE (Or.inl hp),zA (by rw[(j hp).2];simp)]
 ·have d:=(h hp).2;by_cases h0:decl ls x=0
  ·rw[zE (Or.inr h0),zA (by rw[d,decl_none E.both x h0];decide)]
  ·obtain⟨f,_,k⟩:=decl_first E.both x h0;rw[zA (by omega),yq f,k,<-d];by_cases hk:ZW zL (qJ S m) x=true
   ·obtain⟨y,A,z⟩:=GD E hk;rw[zE hk,zE hk,y,Rt.kX];unfold Q6;simp only;by_cases hb:i < 0\/((cellsOf m (xb S.zL x:Nat)).length:Int)<=i
    ·rw[zE hb,zA (by simp;omega)]
    ·rw[zA hb,zE (by simp;omega)];simp only;unfold ZL;rw[zA (by simp;omega),xL]
   ·rw[zA hk,zA hk]
theorem calls_map (zL:List PL) (n:Int):∀fs:List Fm,(frsOf zL fs n).map Fr.call=fs.map Fm.call
 | []=>rfl
 | [f]=>rfl
 | a::b::r=>by
  show _::(frsOf zL (b::r) n).map Fr.call=_;rw[calls_map zL n (b::r)];rfl
theorem callsD (m:Mc):((yT zL m).zH.drop 1).map Fr.call=G3 m:=by
 unfold G3;rw[List.map_drop,List.map_drop];show ((frsOf zL m.zH m.line).map Fr.call).drop 1=_;rw[calls_map]
end
end Rf
section
attribute [local go_sem ↓] Go.wp_at_zero Go.wp_at_succ
theorem mCell_any (x:ByteArray) (n:Int) (h:jz w M B ty tail S m X) (f:dL S m):Calls Tryz.prog 119 #[.pointer (some ⟨M,0,none⟩),.string x,.int .i64 n] w fun e w'=>e=.returned (.tuple #[.int .i64 (Rt.cellR S m x n).1,.int .i64 (Rt.cellR S m x n).2])/\Below w.heap.size w w':=by
 have k:(Rt.yA S.zL (Rt.qJ S m)).params.length<=1000:=aJ f.ZX (Rt.qJ S m);go_enter func119,ntmps119;go_wp2_with fail;refine(CF h).mono ?_;rintro e w1 ⟨rfl,j⟩;have G:=zD (show Rt.cellR S m x n=if ZW S.zL (Rt.qJ S m) x=true then (match Rt.kX S m x n with | some s=>(Rt.ZL m s,(0:Int))| none=>((0:Int),(9:Int)))else ((0:Int),(4:Int))from rfl);generalize Rt.qJ S m=pc at *;go_wp2_with fail;refine(isArray_m pc x (h.prog.zP j) f.zL k).mono ?_;rintro e w2 ⟨rfl,F⟩;have d:=j.trans (F.mono j.size);have J:=h.zP d;clear j F k;cases hv:ZW S.zL pc x with
 | false=>
  have z:=zD (show Rt.cellR S m x n=(0,4) by rw[G.u,hv];rfl);have A:=zD d;clear h J f d hv G;go_wp2_with fail;refine zT (v:=.tuple #[.int .i64 0,.int .i64 4]) ?_ rfl ⟨by rw[z.u],A.u⟩;simp[results,results119,go_sem]
 | true=>
  have z:=zD (show Rt.cellR S m x n=(match Rt.kX S m x n with | some s=>(Rt.ZL m s,(0:Int))| none=>((0:Int),(9:Int))) by rw[G.u,hv];rfl);have o:=XX J f d;clear h J f d hv G;go_wp2_with fail;refine(lU x n o.u.1 o.u.2.1).mono ?_;rintro e H ⟨rfl,i⟩;have A:=zD (o.u.2.2.trans (i.mono o.u.2.2.size));have I:=o.u.1.zP i;obtain⟨_,f,_⟩:=o.u;cases hsp:Rt.kX S m x n with
  | none=>
   rw[hsp]at z;clear hsp i I f o;unfold cellR;go_wp2_with fail;refine zT (v:=.tuple #[.int .i64 0,.int .i64 9]) ?_ rfl ⟨by rw[z.u],A.u.alloc A.u.size _⟩;simp[results,results119,go_sem]
  | some sp=>
   rw[hsp]at z;have O:=zD (fun (W:World) (hW:jz W M B ty tail S m X)=>nT sp hW f);have L:=zD I;clear hsp i I f o;simp only at z;generalize Rt.ZL m sp=gv at *;unfold cellR;go_wp2_with fail;have y:=(zI H.heap.size H).alloc (zB _) (.cells #[.int .i64 sp.line,.int .i64 sp.cell] 160);refine(O.u _ (L.u.zP y)).mono ?_;rintro e R ⟨rfl,D⟩;have N:=zD (A.u.trans ((y.trans (D.mono (B':=H.heap.size) (by simp))).mono A.u.size));clear y D;go_wp2_with fail;refine zT (v:=.tuple #[.int .i64 gv,.int .i64 0]) ?_ rfl ⟨by rw[z.u],N.u⟩;simp[results,results119,go_sem]
theorem sCell_any (x:ByteArray) (n:Int) (h:Zv w P B S cap s X jv) (f:dL S s.m):Calls Tryz.prog 71 #[.pointer (some ⟨P,0,none⟩),.string x,.int .i64 n] w fun e w'=>e=.returned (.tuple #[.int .i64 (Rt.cellR S s.m x n).1,.int .i64 (Rt.cellR S s.m x n).2])/\Below w.heap.size w w':=by
 have i:=zD (mCell_any x n h.mc f);clear h f;go_enter func71,ntmps71;go_wp2_with fail;refine i.u.mono ?_;rintro e w1 ⟨rfl,d⟩;have j:=zD d;clear d;go_wp2_with fail;refine zT (v:=.tuple #[.int .i64 (Rt.cellR S s.m x n).1,.int .i64 (Rt.cellR S s.m x n).2]) ?_ rfl ⟨rfl,j.u⟩;simp[results,results71,go_sem]
end
end Go.Proofs.YthleadfkfnnadaaGreat
