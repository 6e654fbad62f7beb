/- The names of a program: calls, parameters. -/
import Derived.Test.YthleadfkfnnadaaGreatNames0
set_option maxHeartbeats 4000000
set_option maxRecDepth 100000
set_option linter.unusedSimpArgs false
namespace Go.Proofs.YthleadfkfnnadaaGreat
open Go.RowKit
variable {b:Bool} {x:ByteArray} {r:Int} {cs:List (List Value)} {l:List ByteArray} {zL:List Rt.PL} {B P k cap c1:Nat} {ad a1:Option Addr} {fm:Rt.qS} {lv:Value} {w:World}
def Gz (P:Nat) (fm:Rt.qS) (w:World) (e:Ending) (w':World):Prop:=∃fv,e=.returned (.agg fv)/\qk w' (P+1) fv fm/\Below w.heap.size w w'
theorem Vc {N:Nat} {v:Array Value} {cs:Array Value} (h:qk w B v fm) (A:w.heap[N]?=some (.cells cs 143 (0,0))) (a b c d e f:Value):qk (W6 w N a b c d e f) B v fm:=by
 have i:∀(t:TypeId) (size n:Nat) (v:Value) (xs:List Value),t≠143->w.ownsRow B t size v n xs->(W6 w N a b c d e f).ownsRow B t size v n xs:=by
  intro t size n v xs z hv
  refine ZU hv ?_ _ _ _ _ _ _
  intro g hg e
  subst e
  rcases hv.2 with⟨j,_⟩| ⟨g',_,cur,j,_,hh,_⟩
  ·rw[j]at hg;cases hg
  ·rw[j]at hg
   simp[Value.ownBlock]at hg
   subst hg
   rw[A]at hh
   simp at hh
   exact z hh.2.symm
 obtain⟨y,iv,vv,k,rfl,H,G,F,D⟩:=h
 exact⟨y,iv,vv,k,rfl,i _ _ _ _ _ (by decide) H,i _ _ _ _ _ (by decide) G,i _ _ _ _ _ (by decide) F,qi.map (fun x o hh=>i _ _ _ _ _ (by decide) hh) _ _ D⟩
theorem Tryz.VA (L:Option Addr) (I J:Nat) (j:Int) (f:ByteArray) (D:Int) (H:Option Addr) (i A:Nat) (G:Option Addr) (n2 z:Nat) (F:Option Addr) (h k:Nat) (d o x y p:Int) (w:World) :
  (Instr.field 145 (.agg #[.slice L I J,.int .i64 j,.string f,.int .i64 D,.slice H i A,.slice G n2 z,.slice F h k,.int .i64 d,.int .i64 o,.int .i64 x,.int .i64 y,.int .i64 p]) 1).run Tryz.prog w=.ok (.agg #[.int .i64 j,.string f,.int .i64 D,.slice H i A,.slice G n2 z,.slice F h k]) w:=by kernel_rfl
theorem Xq (x:ByteArray) (h:qH w P zL lv cs) (z:zL.length<=101) :
  Calls Tryz.prog 128 #[.pointer (some ⟨P,0,none⟩),.string x] w (Gz P (Rt.yJ zL x) w):=by
 have y:=(zI w.heap.size w).alloc (zB _) (.cells yo 143)
 have H:=h.zP y
 have f:=zN w (.cells yo 143)
 clear h
 go_enter Tryz.func128,Tryz.ntmps128
 go_wp2_with fail
 refine(vt x H z).mono ?_
 rintro e w1 ⟨rfl,rfl⟩
 go_wp2_with fail
 refine(iM _ H).mono ?_
 rintro e w2 ⟨I,G,F,D,A,k,j,i,L,J,rfl,_,o,d⟩
 rw[Rt.Zk]at o ⊢
 generalize (Rt.yM zL (Rt.xb zL x)).depth=dp at *
 generalize (Rt.yM zL (Rt.xb zL x)).opener=opn at *
 generalize (Rt.yM zL (Rt.xb zL x)).proc=pr at *
 generalize (Rt.yM zL (Rt.xb zL x)).yY.length=tl at *
 obtain⟨V,U,T,R,O,N,f0,f1,f2,f3,f4,f5⟩:=YD (zU f d)
 have hz:=zQ (zU f d)
 have W:=zD (Vc o (zU f d))
 have Z:=zD (y.trans (d.mono (B':=w.heap.size) (by simp)))
 have M:=Tryz.VA I tl A (Rt.yA zL (Rt.xb zL x)).kind (Rt.yA zL (Rt.xb zL x)).name (Rt.yA zL (Rt.xb zL x)).cells G (Rt.yA zL (Rt.xb zL x)).params.length k F (Rt.yA zL (Rt.xb zL x)).index.length j D (Rt.yA zL (Rt.xb zL x)).values.length i dp opn L J pr
 clear H y f d o
 go_wp2_with fail
 refine zT (v:=.agg #[.int .i64 (Rt.yA zL (Rt.xb zL x)).kind,.string (Rt.yA zL (Rt.xb zL x)).name,.int .i64 (Rt.yA zL (Rt.xb zL x)).cells,.slice G (Rt.yA zL (Rt.xb zL x)).params.length k,.slice F (Rt.yA zL (Rt.xb zL x)).index.length j,.slice D (Rt.yA zL (Rt.xb zL x)).values.length i]) ?_ rfl ⟨_,rfl,W.u _ _ _ _ _ _,YI Z.u (zB _) _ _ _ _ _ _⟩
 simp[results,Tryz.results128,go_sem,V,U,T,R,O,N]
theorem Tryz.uq (a b c:Value) (d:Option Addr) (n k:Nat) (e f:Value) (w:World):(Instr.field 143 (.agg #[a,b,c,.slice d n k,e,f]) 3).run Tryz.prog w=.ok (.slice d n k) w:=by kernel_rfl
theorem Tryz.eX (x:Int) (b c d e f:Value) (w:World):(Instr.field 143 (.agg #[.int .i64 x,b,c,d,e,f]) 0).run Tryz.prog w=.ok (.int .i64 x) w:=by kernel_rfl
namespace Rt
def parFrom:Nat->List ByteArray->ByteArray->Int
 | _,[],_=>-1
 | i,y::r,x=>if y=x then (i:Int)else parFrom (i+1) r x
def YW (zL:List PL) (proc:Int) (x:ByteArray):Int:=parFrom 0 (yA zL proc).params x
theorem dZ:∀(l:List ByteArray) (i:Nat) (x:ByteArray),(l.any (fun y=>decide (y=x))=true/\0<=parFrom i l x)\/(l.any (fun y=>decide (y=x))=false/\parFrom i l x=-1)
 | [],i,x=>Or.inr ⟨rfl,rfl⟩
 | y::r,i,x=>by
  rw[parFrom,vw]
  by_cases h:y=x
  ·rw[zE h];exact Or.inl ⟨by simp[h],by omega⟩
  ·rw[zA h]
   rcases dZ r (i+1) x with⟨h1,h2⟩| ⟨h1,h2⟩
   ·exact Or.inl ⟨by simp[h1],h2⟩
   ·exact Or.inr ⟨by simp[h1,h],h2⟩
theorem lN (zL:List PL) (d:Int) (x:ByteArray):(VS zL d x=true/\0<=YW zL d x)\/(VS zL d x=false/\YW zL d x=-1):=dZ _ _ _
theorem dX (h:parFrom k (l.drop k) x=r) (f:k < l.length) (d:l[k]=x):r=k:=by
 rw[zZ f,parFrom,zE d]at h;exact h.symm
theorem aU (h:parFrom k (l.drop k) x=r) (f:k < l.length) (d:¬l[k]=x):parFrom (k+1) (l.drop (k+1)) x=r:=by
 rw[zZ f,parFrom,zA d]at h;exact h
theorem dY (h:parFrom k (l.drop k) x=r) (d:¬k < l.length):r=-1:=by
 rw[zp (by omega),parFrom]at h;exact h.symm
end Rt
theorem mW (n:Int) (x:ByteArray) (h:qH w P zL lv cs) (O:(Rt.yA zL n).params.length<=1000) :
  Calls Tryz.prog 191 #[.pointer (some ⟨P,0,none⟩),.int .i64 n,.string x] w fun e w'=>e=.returned (.int .i64 (Rt.YW zL n x))/\Below w.heap.size w w':=by
 go_enter Tryz.func191,Tryz.ntmps191
 go_wp2_with fail
 refine(iM _ h).mono ?_
 rintro e w2 ⟨L,y,H,G,F,cap1,f,d,W,V,rfl,_,A,D⟩
 rw[Rt.Zk]at A ⊢
 generalize (Rt.yM zL n).depth=dp at *
 generalize (Rt.yM zL n).opener=opn at *
 generalize (Rt.yM zL n).proc=pr at *
 generalize (Rt.yM zL n).yY.length=tl at *
 obtain⟨Z,iv,vv,vs,o,T,b2,b3,_⟩:=A
 have J:Z=.slice y (Rt.yA zL n).params.length cap1:=by simp at o;exact o.1.symm
 subst J
 have U:=zD D
 have HO:=zD T
 have HI:=zD (show Rt.YW zL n x=Rt.parFrom 0 (Rt.yA zL n).params x from rfl)
 clear h D T b2 b3 o
 generalize (Rt.yA zL n)=fm at *
 have a1:=Tryz.VA L tl F fm.kind fm.name fm.cells y fm.params.length cap1 H fm.index.length f G fm.values.length d dp opn W V pr
 have a0:=Tryz.uq (.int .i64 fm.kind) (.string fm.name) (.int .i64 fm.cells) y fm.params.length cap1 (.slice H fm.index.length f) (.slice G fm.values.length d)
 go_wp2
 go_loop [8] (fun i=>∃k:Nat,k<=fm.params.length/\i=.int .i64 k/\Rt.parFrom k (fm.params.drop k) x=Rt.YW zL n x) (fun i=>fm.params.length-(intOf i).toNat)
 case atStart=>exact⟨0,zo _,rfl,HI.u.symm⟩
 case round=>
  obtain⟨k,hk,rfl,R⟩:=hrel
  have M:=zD R
  clear R
  by_cases hlt:k < fm.params.length
  ·obtain⟨g,cap',N,_,_,cx⟩:=yD HO.u (j:=k) (u:=.string fm.params[k]) (by simp[hlt])
   simp at N
   obtain⟨rfl,rfl⟩:=N
   have z:(k:Int) < (fm.params.length:Int):=by omega
   by_cases hx:fm.params[k]=x
   ·have HE:=zD (Rt.dX M.u hlt hx)
    have I:=Rt.QB hx
    clear hx
    go_wp2
    go_ret
    exact⟨by rw[HE.u];rfl,U.u⟩
   ·have HE:=zD (Rt.aU M.u hlt hx)
    have I:=Rt.KI hx
    clear hx
    go_wp2
    go_round
    case rel=>exact⟨k+1,by omega,by go_num,HE.u⟩
    case measure=>simp[intOf];omega
  ·have HE:=zD (Rt.dY M.u hlt)
   have z:¬(k:Int) < (fm.params.length:Int):=by omega
   go_wp2
   go_ret
   exact⟨by rw[HE.u];rfl,U.u⟩
theorem QS (n:Int) (x:ByteArray) (h:qH w P zL lv cs) (i:zL.length<=101) (f:(Rt.yA zL n).params.length<=1000) :
  Calls Tryz.prog 163 #[.pointer (some ⟨P,0,none⟩),.int .i64 n,.string x] w fun e w'=>e=.returned (.bool (Rt.isVar zL n x))/\Below w.heap.size w w':=by
 go_enter Tryz.func163,Tryz.ntmps163
 go_wp2_with fail
 refine(mW _ x h f).mono ?_
 rintro e w1 ⟨rfl,d⟩
 have hpi:=Rt.lN zL n x
 generalize Rt.YW zL n x=R at *
 cases hp:Rt.VS zL n x with
 | true=>
  have O:0<=R:=by rcases hpi with h | h;exact h.2;rw[hp]at h;cases h.1
  clear hpi
  have G:=zD (show Rt.isVar zL n x=true by simp[Rt.isVar,hp])
  have H:=zD d
  clear h hp d
  go_wp2_with fail
  go_ret
  exact⟨by rw[G.u];rfl,H.u⟩
 | false=>
  have O:¬0<=R:=by rcases hpi with h | h;rw[hp]at h;cases h.1;omega
  clear hpi
  have G:=zD (show Rt.isVar zL n x=decide ((Rt.yJ zL x).kind=1) by simp[Rt.isVar,hp])
  have I:=h.zP d
  have z:=d.size
  clear h hp
  go_wp2_with fail
  refine(Xq x I i).mono ?_
  rintro e w2 ⟨fv,rfl,⟨U,iv,vv,T,rfl,M,L,J,_⟩,j⟩
  obtain⟨F,y,rfl⟩:=zK M
  obtain⟨D,o,rfl⟩:=zK L
  obtain⟨A,k,rfl⟩:=zK J
  clear M L J
  have N:=Tryz.eX (Rt.yJ zL x).kind (.string (Rt.yJ zL x).name) (.int .i64 (Rt.yJ zL x).cells) (.slice F (Rt.yJ zL x).params.length y) (.slice D (Rt.yJ zL x).index.length o) (.slice A (Rt.yJ zL x).values.length k)
  have H:=zD (d.trans (j.mono (B':=w.heap.size) z))
  clear I d j
  go_wp2_with fail
  go_ret
  exact⟨by rw[G.u];exact yj (by rw[beq_eq_decide]),H.u⟩
theorem dm (n:Int) (x:ByteArray) (h:qH w P zL lv cs) (i:zL.length<=101) (f:(Rt.yA zL n).params.length<=1000) :
  Calls Tryz.prog 166 #[.pointer (some ⟨P,0,none⟩),.int .i64 n,.string x] w fun e w'=>e=.returned (.bool (Rt.ZW zL n x))/\Below w.heap.size w w':=by
 go_enter Tryz.func166,Tryz.ntmps166
 go_wp2_with fail
 refine(mW _ x h f).mono ?_
 rintro e w1 ⟨rfl,d⟩
 have hpi:=Rt.lN zL n x
 generalize Rt.YW zL n x=R at *
 cases hp:Rt.VS zL n x with
 | true=>
  have O:0<=R:=by rcases hpi with h | h;exact h.2;rw[hp]at h;cases h.1
  clear hpi
  have G:=zD (show Rt.ZW zL n x=false by simp[Rt.ZW,hp])
  have H:=zD d
  clear h hp d
  go_wp2_with fail
  go_ret
  exact⟨by rw[G.u];rfl,H.u⟩
 | false=>
  have O:¬0<=R:=by rcases hpi with h | h;rw[hp]at h;cases h.1;omega
  clear hpi
  have G:=zD (show Rt.ZW zL n x=decide ((Rt.yJ zL x).kind=2) by simp[Rt.ZW,hp])
  have I:=h.zP d
  have z:=d.size
  clear h hp
  go_wp2_with fail
  refine(Xq x I i).mono ?_
  rintro e w2 ⟨fv,rfl,⟨U,iv,vv,T,rfl,M,L,J,_⟩,j⟩
  obtain⟨F,y,rfl⟩:=zK M
  obtain⟨D,o,rfl⟩:=zK L
  obtain⟨A,k,rfl⟩:=zK J
  clear M L J
  have N:=Tryz.eX (Rt.yJ zL x).kind (.string (Rt.yJ zL x).name) (.int .i64 (Rt.yJ zL x).cells) (.slice F (Rt.yJ zL x).params.length y) (.slice D (Rt.yJ zL x).index.length o) (.slice A (Rt.yJ zL x).values.length k)
  have H:=zD (d.trans (j.mono (B':=w.heap.size) z))
  clear I d j
  go_wp2_with fail
  go_ret
  exact⟨by rw[G.u];exact yj (by rw[beq_eq_decide]),H.u⟩
theorem VP:∀(ts:List qM) (i:Nat) (h:i < ts.length),(xX ts)[i*3]?=some (.int .i64 ts[i].code)/\(xX ts)[i*3+1]?=some (.int .i64 ts[i].number)/\(xX ts)[i*3+2]?=some (.string ts[i].name)
 | [],i,h=>by simp at h
 | t::r,0,_=>by simp[xX,aN]
 | t::r,i+1,h=>by
  have d:=VP r i (by simpa using h)
  have e:xX (t::r)=[Value.int .i64 t.code,Value.int .i64 t.number,Value.string t.name]++xX r:=by simp[xX,aN]
  have f:(i+1)*3=i*3+3:=by omega
  rw[e,f]
  simpa using d
theorem lO {ops:List qM} (h:w.ownsRow B 236 3 (.slice ad ops.length cap) ops.length (xX ops)) (y:k < ops.length) :
  ∃g,ad=some ⟨g,0,none⟩/\w.cell? ⟨g,k*3,none⟩=some (.int .i64 ops[k].code)/\w.cell? ⟨g,k*3+1,none⟩=some (.int .i64 ops[k].number)/\w.cell? ⟨g,k*3+2,none⟩=some (.string ops[k].name):=by
 obtain⟨D,A,z⟩:=VP ops k y
 obtain⟨g,c,i,_,_,x⟩:=yD h D
 obtain⟨G,I,f,_,_,o⟩:=yD h A
 obtain⟨F,H,d,_,_,j⟩:=yD h z
 simp at i f d
 rw[i.1]at f d
 simp at f d
 refine⟨g,i.1,x,?_,?_⟩
 ·rw[f.1];exact o
 ·rw[d.1];exact j
theorem FA {ops:List qM} {f:qM->Bool} (h:(ops.drop k).all f=b) (d:¬k < ops.length):b=true:=by
 rw[zp (by omega)]at h
 exact h.symm
theorem GJ {ops:List qM} {f:qM->Bool} (h:(ops.drop k).all f=b) (d:k < ops.length) (i:f ops[k]=false):b=false:=by
 rw[zZ d,kY,i]at h
 exact h.symm
theorem E9 {ops:List qM} {f:qM->Bool} (h:(ops.drop k).all f=b) (d:k < ops.length) (i:f ops[k]=true):(ops.drop (k+1)).all f=b:=by
 rw[zZ d,kY,i]at h
 exact h
theorem QZ (n:Int) {ops:List qM} (h:qH w P zL lv cs) (I:zL.length<=101) (H:(Rt.yA zL n).params.length<=1000)
  (J:w.ownsRow (P+1) 236 3 (.slice ad ops.length cap) ops.length (xX ops)) (a2:ops.length<=1000) :
  Calls Tryz.prog 202 #[.pointer (some ⟨P,0,none⟩),.int .i64 n,.agg #[.slice ad ops.length cap]] w fun e w'=>e=.returned (.bool (Rt.XP zL n ops))/\Below w.heap.size w w':=by
 have hb0:=(zI w.heap.size w).alloc (zB _) (.cells #[.slice ad ops.length cap] 140)
 have hE0:=zN w (.cells #[.slice ad ops.length cap] 140)
 have h0:=h.zP hb0
 have hx0:=yG J hb0
 clear h J
 go_enter Tryz.func202,Tryz.ntmps202
 go_wp2_with fail
 go_loopw [7,8] (fun i _ wr=>∃k:Nat,k<=ops.length/\i=.int .i64 k/\(ops.drop k).all (Rt.CS zL n)=Rt.XP zL n ops/\qH wr P zL lv cs/\wr.heap[w.heap.size]?=some (.cells #[.slice ad ops.length cap] 140 (0,0))/\
   wr.ownsRow (P+1) 236 3 (.slice ad ops.length cap) ops.length (xX ops)/\Below w.heap.size w wr)
  (fun i _ _=>ops.length-(intOf i).toNat)
 case atStart=>exact⟨0,zo _,rfl,rfl,h0,hE0,hx0,hb0⟩
 case round=>
  clear h0 hE0 hx0 hb0
  obtain⟨k,hk,rfl,hT,L,W,J,F⟩:=hrel
  have HT:=zD hT
  clear hT
  have cE:=zC W 0 (by simp)
  simp at cE
  have a0:=F.size
  have a3:=zQ W
  by_cases hlt:k < ops.length
  ·obtain⟨g,rfl,o0,o1,o2⟩:=lO J hlt
   have V:(k:Int) < (ops.length:Int):=by omega
   have y:=(zI wr.heap.size wr).alloc (zB _) (.cells #[.int .i64 ops[k].code,.int .i64 ops[k].number,.string ops[k].name] 236)
   have f:=L.zP y
   have z:=zU W y
   have x:=yG J y
   have j:=F.trans (y.mono (B':=w.heap.size) a0)
   have D:=zN wr (.cells #[.int .i64 ops[k].code,.int .i64 ops[k].number,.string ops[k].name] 236)
   have HN:=zD (GJ HT.u hlt)
   have HY:=zD (E9 HT.u hlt)
   have HF:=zD (show Rt.CS zL n ops[k]=(if ops[k].code=2 then Rt.isVar zL n ops[k].name else if ops[k].code=3 then Rt.ZW zL n ops[k].name else true)from rfl)
   clear L W J F
   generalize ops[k]=o at *
   by_cases h2:o.code=2
   ·have a1:(o.code==2)=true:=by simpa using h2
    have Z:(o.code==3)=false:=by rw[h2];rfl
    have A:=zD (HF.u.trans (zE h2))
    clear h2
    go_wp2_with fail
    refine(QS _ o.name f I H).mono ?_
    rintro e w2 ⟨rfl,d⟩
    have M:=zU D d
    have c0:=zC M 0 (by simp)
    simp at c0
    cases hv:Rt.isVar zL n o.name with
    | true=>
     have G:=DA (HY.u (A.u.trans hv)) (f.zP d) (zU z d) (yG x d) (j.trans (d.mono (B':=w.heap.size) (by have:=y.size;omega)))
     clear f z x j D M d hv
     go_wp2_with fail
     go_roundw
     case rel=>
      obtain⟨U,T,R,O,N⟩:=G.u
      exact⟨k+1,by omega,by go_num,U,T,R,O,N⟩
     case measure=>simp[intOf];omega
    | false=>
     have G:=qG (HN.u (A.u.trans hv)) (j.trans (d.mono (B':=w.heap.size) (by have:=y.size;omega)))
     clear f z x j D M d hv
     go_wp2_with fail
     go_ret
     exact⟨by rw[G.u.1];rfl,G.u.2⟩
   have a1:(o.code==2)=false:=by simpa using h2
   by_cases h3:o.code=3
   ·have Z:(o.code==3)=true:=by simpa using h3
    have A:=zD (HF.u.trans ((zA h2).trans (zE h3)))
    clear h2 h3
    go_wp2_with fail
    refine(dm _ o.name f I H).mono ?_
    rintro e w2 ⟨rfl,d⟩
    cases hv:Rt.ZW zL n o.name with
    | true=>
     have G:=DA (HY.u (A.u.trans hv)) (f.zP d) (zU z d) (yG x d) (j.trans (d.mono (B':=w.heap.size) (by have:=y.size;omega)))
     clear f z x j D d hv
     go_wp2_with fail
     go_roundw
     case rel=>
      obtain⟨U,T,R,O,N⟩:=G.u
      exact⟨k+1,by omega,by go_num,U,T,R,O,N⟩
     case measure=>simp[intOf];omega
    | false=>
     have G:=qG (HN.u (A.u.trans hv)) (j.trans (d.mono (B':=w.heap.size) (by have:=y.size;omega)))
     clear f z x j D d hv
     go_wp2_with fail
     go_ret
     exact⟨by rw[G.u.1];rfl,G.u.2⟩
   ·have Z:(o.code==3)=false:=by simpa using h3
    have A:=zD (HF.u.trans ((zA h2).trans (zA h3)))
    clear h2 h3
    have G:=DA (HY.u A.u) f z x j
    clear f z x j D
    go_wp2_with fail
    go_roundw
    case rel=>
     obtain⟨U,T,R,O,N⟩:=G.u
     exact⟨k+1,by omega,by go_num,U,T,R,O,N⟩
    case measure=>simp[intOf];omega
  ·have HE:=zD (FA HT.u hlt)
   have V:¬(k:Int) < (ops.length:Int):=by omega
   have HB:=zD F
   clear L W J F
   go_wp2_with fail
   go_ret
   exact⟨by rw[HE.u];rfl,HB.u⟩
end Go.Proofs.YthleadfkfnnadaaGreat
namespace Go.Proofs.YthleadfkfnnadaaGreat
open Go.RowKit
attribute [local go_sem ↓] Go.wp_at_zero Go.wp_at_succ
variable {b:Bool} {x:ByteArray} {r:Int} {cs:List (List Value)} {l:List ByteArray} {zL:List Rt.PL} {B P k cap c1:Nat} {ad a1:Option Addr} {fm:Rt.qS} {lv:Value} {w:World}
theorem qi.get {w:World} {B:Nat}:∀(vs:List Value) (os:List (List qM)) (i:Nat) (h:i < os.length),qi w B vs os->∃x,vs[i]?=some x/\w.ownsRow B 236 3 x os[i].length (xX os[i])
 | x::_,o::_,0,_,⟨h1,_⟩=>⟨x,rfl,h1⟩
 | _::xs,_::os,i+1,h,⟨_,h2⟩=>by
  obtain⟨y,d,f⟩:=qi.get xs os i (by simpa using h) h2
  exact⟨y,by simpa using d,f⟩
 | [],_::_,_,_,h=>h.elim
 | _,[],_,h,_=>by simp at h
theorem Bn {os:List (List qM)} {f:List qM->Bool} (h:(os.drop k).all f=b) (d:¬k < os.length):b=true:=by
 rw[zp (by omega)]at h
 exact h.symm
theorem D0 {os:List (List qM)} {f:List qM->Bool} (h:(os.drop k).all f=b) (d:k < os.length) (i:f os[k]=false):b=false:=by
 rw[zZ d,kY,i]at h
 exact h.symm
theorem Bm {os:List (List qM)} {f:List qM->Bool} (h:(os.drop k).all f=b) (d:k < os.length) (i:f os[k]=true):(os.drop (k+1)).all f=b:=by
 rw[zZ d,kY,i]at h
 exact h
theorem kj {pl:Rt.PL} {a2 a3:Option Addr} (a0:Option Addr) {c2 c3:Nat} (Z:Nat) (U T:Int) (h:qH w P zL lv cs) (A:zL.length<=101) (z:(Rt.yA zL pl.proc).params.length<=1000) (F:Rt.Small pl.form)
  (hf:qk w (P+1) #[.int .i64 pl.form.kind,.string pl.form.name,.int .i64 pl.form.cells,.slice a1 pl.form.params.length c1,.slice a2 pl.form.index.length c2,.slice a3 pl.form.values.length c3] pl.form) :
  Calls Tryz.prog 173 #[.pointer (some ⟨P,0,none⟩),.agg #[.slice a0 pl.yY.length Z,.int .i64 pl.form.kind,.string pl.form.name,.int .i64 pl.form.cells,.slice a1 pl.form.params.length c1,.slice a2 pl.form.index.length c2,.slice a3 pl.form.values.length c3,.int .i64 pl.depth,.int .i64 pl.opener,.int .i64 U,.int .i64 T,.int .i64 pl.proc]] w fun e w'=>
   e=.returned (.bool (Rt.jF zL pl))/\Below w.heap.size w w':=by
 have j:=(zI w.heap.size w).alloc (zB _) (.cells #[.slice a0 pl.yY.length Z,.int .i64 pl.form.kind,.string pl.form.name,.int .i64 pl.form.cells,.slice a1 pl.form.params.length c1,.slice a2 pl.form.index.length c2,.slice a3 pl.form.values.length c3,.int .i64 pl.depth,.int .i64 pl.opener,.int .i64 U,.int .i64 T,.int .i64 pl.proc] 145)
 have I:=zN w (.cells #[.slice a0 pl.yY.length Z,.int .i64 pl.form.kind,.string pl.form.name,.int .i64 pl.form.cells,.slice a1 pl.form.params.length c1,.slice a2 pl.form.index.length c2,.slice a3 pl.form.values.length c3,.int .i64 pl.depth,.int .i64 pl.opener,.int .i64 U,.int .i64 T,.int .i64 pl.proc] 145)
 have W:=h.zP j
 have a5:=(xZ (B:=P+1) j).form hf
 obtain⟨pv,iv,vv,vs,N,b1,b2,b3,b4⟩:=a5
 simp at N
 obtain⟨rfl,rfl,rfl⟩:=N
 clear h hf
 go_enter Tryz.func173,Tryz.ntmps173
 go_wp2_with fail
 refine(QZ pl.proc W A z b2 (zi F.index (by omega))).mono ?_
 rintro e w1 ⟨rfl,f⟩
 cases hv:Rt.XP zL pl.proc pl.form.index with
 | false=>
  have HE:=zD (show Rt.jF zL pl=false by simp[Rt.jF,hv])
  have HB:=zD (j.trans (f.mono (B':=w.heap.size) (by simp)))
  clear W I j f b1 b2 b3 b4 hv
  go_wp2_with fail
  go_ret
  exact⟨by rw[HE.u];rfl,HB.u⟩
 | true=>
  have hI:pl.form.values.all (Rt.XP zL pl.proc)=Rt.jF zL pl:=by simp[Rt.jF,hv]
  have h1:=W.zP f
  have hL1:=zU I f
  have b31:=yG b3 f
  have b41:=(xZ (B:=P+1) f).exprs _ _ b4
  have hbe1:=j.trans (f.mono (B':=w.heap.size) (by simp))
  clear W I j f b1 b2 b3 b4 hv
  go_wp2_with fail
  go_loopw [5] (fun i wr=>∃k:Nat,k<=pl.form.values.length/\i=.int .i64 k/\(pl.form.values.drop k).all (Rt.XP zL pl.proc)=Rt.jF zL pl/\qH wr P zL lv cs/\
    wr.heap[w.heap.size]?=some (.cells #[.slice a0 pl.yY.length Z,.int .i64 pl.form.kind,.string pl.form.name,.int .i64 pl.form.cells,.slice a1 pl.form.params.length c1,.slice a2 pl.form.index.length c2,.slice a3 pl.form.values.length c3,.int .i64 pl.depth,.int .i64 pl.opener,.int .i64 U,.int .i64 T,.int .i64 pl.proc] 145 (0,0))/\
    wr.ownsRow (P+1) 140 1 (.slice a3 pl.form.values.length c3) pl.form.values.length vs/\qi wr (P+1) vs pl.form.values/\Below w.heap.size w wr)
   (fun i _=>pl.form.values.length-(intOf i).toNat)
  case atStart=>exact⟨0,zo _,rfl,hI,h1,hL1,b31,b41,hbe1⟩
  case round=>
   clear h1 hL1 b31 b41 hbe1 hI
   obtain⟨k,hk,rfl,hT,G,O,x,y,o⟩:=hrel
   have HT:=zD hT
   clear hT
   have L:=o.size
   obtain⟨l0,l1,l2,l3,l4,l5,l6,l7,l8,l9,b5,b0⟩:=Yn O
   have a6:=F.values
   by_cases hlt:k < pl.form.values.length
   ·have M:(k:Int) < (pl.form.values.length:Int):=by omega
    have b6:(0:Int)<=(k:Int):=by omega
    obtain⟨xv,J,D⟩:=qi.get _ _ k hlt y
    obtain⟨b7,a9,rfl⟩:=zK D
    obtain⟨g,cap',hg,_,a7,cx⟩:=yD x J
    simp at hg
    obtain⟨rfl,rfl⟩:=hg
    have a8:=zQ O
    have a4:pl.form.values[k].length<=1000:=zi (F.each _ (zj hlt)) (by omega)
    have HN:=zD (D0 HT.u hlt)
    have HY:=zD (Bm HT.u hlt)
    have R:=GW G O x y o D
    clear G O x y o D J
    generalize pl.form.values[k]=ov at *
    go_wp2_with fail
    go_region_with
     ((go_at_call 202;refine(QZ pl.proc (by exact R.u.1.zP (zh _)) A z (by exact yG R.u.2.2.2.2.2 (zh _)) a4).mono ?_;rintro e w2 ⟨rfl,H⟩))
    all_goals
     obtain⟨q1,q2,q3,q4,V,_⟩:=R.u
     have d:=yh H
     cases hv:Rt.XP zL pl.proc ov with
     | true=>
      have HG:=GW (HY.u hv) (q1.zP d) (zU q2 d) (yG q3 d) ((xZ (B:=P+1) d).exprs _ _ q4) (V.trans (d.mono (B':=w.heap.size) L))
      clear q1 q2 q3 q4 V H d hv R
      go_wp2_with fail
      go_roundw
      case rel=>
       obtain⟨r1,r2,r3,r4,r5,r6⟩:=HG.u
       exact⟨k+1,by omega,by go_num,r1,r2,r3,r4,r5,r6⟩
      case measure=>simp[intOf];omega
     | false=>
      have HG:=qG (HN.u hv) (V.trans (d.mono (B':=w.heap.size) L))
      clear q1 q2 q3 q4 V H d hv R
      go_wp2_with fail
      go_ret
      exact⟨by rw[HG.u.1];rfl,HG.u.2⟩
   ·have HE:=zD (Bn HT.u hlt)
    have M:¬(k:Int) < (pl.form.values.length:Int):=by omega
    have HB:=zD o
    clear G O x y o
    go_wp2_with fail
    go_ret
    exact⟨by rw[HE.u];rfl,HB.u⟩
end Go.Proofs.YthleadfkfnnadaaGreat
namespace Go.Proofs.YthleadfkfnnadaaGreat
open Go.RowKit
variable {b:Bool} {x:ByteArray} {r:Int} {cs:List (List Value)} {l:List ByteArray} {zL:List Rt.PL} {B P k cap c1:Nat} {ad a1:Option Addr} {fm:Rt.qS} {lv:Value} {w:World}
theorem nb (d:Rt.qS) (O N M:Option Addr) (H G F:Nat) (h:qH w P zL lv cs) (o:zL.length<=101) :
  Calls Tryz.prog 172 #[.pointer (some ⟨P,0,none⟩),.agg #[.int .i64 d.kind,.string d.name,.int .i64 d.cells,.slice O d.params.length H,.slice N d.index.length G,.slice M d.values.length F]] w fun e w'=>e=.returned (.bool (Rt.XF zL d))/\Below w.heap.size w w':=by
 have i:=(zI w.heap.size w).alloc (zB _) (.cells #[.int .i64 d.kind,.string d.name,.int .i64 d.cells,.slice O d.params.length H,.slice N d.index.length G,.slice M d.values.length F] 143)
 have j:=zN w (.cells #[.int .i64 d.kind,.string d.name,.int .i64 d.cells,.slice O d.params.length H,.slice N d.index.length G,.slice M d.values.length F] 143)
 have T:=h.zP i
 clear h
 go_enter Tryz.func172,Tryz.ntmps172
 go_wp2_with fail
 refine(Xq d.name T o).mono ?_
 rintro e w2 ⟨fv,rfl,⟨pv,iv,vv,vs,rfl,W,V,U,_⟩,f⟩
 obtain⟨L,z,rfl⟩:=zK W
 obtain⟨J,y,rfl⟩:=zK V
 obtain⟨I,x,rfl⟩:=zK U
 obtain⟨_,_,_,_,_,Z,_,_,_,_,_,_⟩:=YD (zU j f)
 have hz:=zQ (zU j f)
 have R:=zD ((i.trans (f.mono (B':=w.heap.size) (by simp))).alloc (by omega) (.cells #[.int .i64 (Rt.yJ zL d.name).kind,.string (Rt.yJ zL d.name).name,.int .i64 (Rt.yJ zL d.name).cells,.slice L (Rt.yJ zL d.name).params.length z,.slice J (Rt.yJ zL d.name).index.length y,.slice I (Rt.yJ zL d.name).values.length x] 143))
 have A:=zD (show Rt.XF zL d=(decide ((Rt.yJ zL d.name).kind=3) && decide ((Rt.yJ zL d.name).params.length=d.values.length))from rfl)
 clear T i j f W V U
 generalize (Rt.yJ zL d.name)=df at *
 by_cases hk:df.kind=3
 ·have D:(df.kind==3)=true:=by simpa using hk
  rw[hk]at R
  have k:=zD (A.u.trans (by rw[hk];rfl:_=decide (df.params.length=d.values.length)))
  clear A
  go_wp2_with fail
  go_ret
  refine⟨?_,?_⟩
  ·rw[k.u]
   refine yj ?_
   rw[xO]
   simp
   omega
  ·have:=R.u
   first | exact this | (rw[hk];exact this)
 ·have D:(df.kind==3)=false:=by simpa using hk
  have k:=zD (A.u.trans (by simp[hk]:_=false))
  clear A hk
  go_wp2_with fail
  go_ret
  exact⟨by rw[k.u];rfl,R.u⟩
theorem kT (w:World) (q:Nat):Below B w (w.drewN q):=⟨rfl,rfl,rfl,zB _,fun _ _=>rfl⟩
theorem ig (M L:Option Addr) (J I:Nat) (z:w.ownsRow B 9 1 (.slice a1 fm.params.length c1) fm.params.length (fm.params.map Value.string)) (a5:fm.params.length<=1000) :
  Calls Tryz.prog 171 #[.agg #[.int .i64 fm.kind,.string fm.name,.int .i64 fm.cells,.slice a1 fm.params.length c1,.slice M fm.index.length J,.slice L fm.values.length I]] w fun e w'=>e=.returned (.bool (Rt.QJ fm))/\Below w.heap.size w w':=by
 have hb0:=(zI w.heap.size w).alloc (zB _) (.cells #[.int .i64 fm.kind,.string fm.name,.int .i64 fm.cells,.slice a1 fm.params.length c1,.slice M fm.index.length J,.slice L fm.values.length I] 143)
 have hN0:=zN w (.cells #[.int .i64 fm.kind,.string fm.name,.int .i64 fm.cells,.slice a1 fm.params.length c1,.slice M fm.index.length J,.slice L fm.values.length I] 143)
 have hp0:=yG z hb0
 by_cases hm:(fm.name.toList==Rt.QN)=true/\0 < fm.params.length
 ·obtain⟨hm1,hm2⟩:=hm
  have O:Hd (Rt.QJ fm=false):=zD (by simp[Rt.QJ,hm1,hm2])
  unfold Rt.QN at hm1
  have a0:(0:Int) < (fm.params.length:Int):=by omega
  have HB:=zD hb0
  clear hb0 hN0 hp0 z
  go_enter Tryz.func171,Tryz.ntmps171
  go_wp2_with fail
  go_ret
  exact⟨by rw[O.u];rfl,HB.u⟩
 ·have O:Hd (∀b:Prop,(Rt.bh fm.params fm.params.length↔b)->[Decidable b]->Rt.QJ fm=decide b):=by
   refine zD ?_
   intro b hb _
   have h1:((fm.name.toList==Rt.QN) && decide (0 < fm.params.length))=false:=by
    rw[yL]
    intro e
    simp at e
    exact hm ⟨by simpa using e.1,by omega⟩
   rw[Rt.QJ,h1]
   simp[hb]
  have W:=zD (O.u True)
  have Z:=zD (O.u False)
  clear O
  have hcase:(fm.name.toList==[109,97,105,110])=true/\¬(0:Int) < (fm.params.length:Int)\/(fm.name.toList==[109,97,105,110])=false:=by
   cases e:(fm.name.toList==[109,97,105,110])with
   | true=>exact Or.inl ⟨rfl,by have:¬0 < fm.params.length:=fun x=>hm ⟨e,x⟩;omega⟩
   | false=>exact Or.inr rfl
  clear hm z
  have a4:=zQ hN0
  rcases hcase with⟨hm1,hm2⟩| hm1
  all_goals
   go_enter Tryz.func171,Tryz.ntmps171
   go_wp2_with fail
   go_loopw [3,4] (fun i _ wr=>∃k:Nat,k<=fm.params.length/\i=.int .i64 k/\Rt.bh fm.params k/\wr.heap[w.heap.size]?=some (.cells #[.int .i64 fm.kind,.string fm.name,.int .i64 fm.cells,.slice a1 fm.params.length c1,.slice M fm.index.length J,.slice L fm.values.length I] 143 (0,0))/\
     wr.ownsRow B 9 1 (.slice a1 fm.params.length c1) fm.params.length (fm.params.map Value.string)/\Below w.heap.size w wr)
    (fun i _ _=>fm.params.length-(intOf i).toNat)
   case atStart=>exact⟨0,zo _,rfl,fun i j h1 h2=>by omega,hN0,hp0,hb0⟩
   case round=>
    clear hN0 hp0 hb0
    obtain⟨k,hk,rfl,hT,R,z,y⟩:=hrel
    have HT:=zD hT
    clear hT
    obtain⟨_,_,_,x3,_,_,_,_,_,_,_,_⟩:=YD R
    by_cases hlt:k < fm.params.length
    ·try (exfalso;omega)
     all_goals
      have F:(k:Int) < (fm.params.length:Int):=by omega
      have HH:=XX R z y
      clear R z y
      go_wp2_with fail
      go_loopw [4] (fun j wr2=>∃m:Nat,m<=k/\j=.int .i64 m/\(∀j,j < m->¬fm.params[k]?=fm.params[j]?)/\wr2.heap[w.heap.size]?=some (.cells #[.int .i64 fm.kind,.string fm.name,.int .i64 fm.cells,.slice a1 fm.params.length c1,.slice M fm.index.length J,.slice L fm.values.length I] 143 (0,0))/\
        wr2.ownsRow B 9 1 (.slice a1 fm.params.length c1) fm.params.length (fm.params.map Value.string)/\Below w.heap.size w wr2)
       (fun j _=>k-(intOf j).toNat)
      case atStart=>exact⟨0,zo _,rfl,fun j h=>by omega,HH.u.1,HH.u.2.1,HH.u.2.2⟩
      case round=>
       clear HH
       obtain⟨m,hm,rfl,H,o,f,d⟩:=hrel
       have N:=zD H
       clear H
       obtain⟨_,_,_,y3,_,_,_,_,_,_,_,_⟩:=YD o
       by_cases hlt2:m < k
       ·have A:(m:Int) < (k:Int):=by omega
        obtain⟨g,cap',hg,_,_,ck⟩:=yD f (j:=k) (u:=.string fm.params[k]) (by simp[hlt])
        obtain⟨g',U,D,_,_,cm⟩:=yD f (j:=m) (u:=.string (fm.params[m]'(by omega))) (by rw[yt,zJ (by omega)];rfl)
        simp at hg D
        obtain⟨rfl,rfl⟩:=hg
        simp at D
        obtain⟨rfl,rfl⟩:=D
        have a7:(m:Int) < (fm.params.length:Int):=by omega
        have a8:(0:Int)<=(m:Int):=by omega
        have a9:(0:Int)<=(k:Int):=by omega
        have HH:=XX o f d
        clear o f d
        by_cases heq:fm.params[k]=fm.params[m]'(by omega)
        ·have G:=Rt.QB heq
         have V:Hd (Rt.QJ fm=false):=by
          refine zD ?_
          have:=Z.u ⟨fun h=>(h k m hlt2 hlt hlt (by rw[zJ hlt,zJ (by omega),heq])).elim,fun h=>h.elim⟩
          simpa using this
         clear heq
         go_wp2_with fail
         go_quiet (fail)
         go_wp2_with fail
         go_ret
         exact⟨by rw[V.u];rfl,HH.u.2.2.trans (kT _ _)⟩
        ·have G:=Rt.KI heq
         have HT3:Hd (∀j,j < m+1->¬fm.params[k]?=fm.params[j]?):=by
          refine zD ?_
          intro j hj
          by_cases e:j=m
          ·subst e
           rw[zJ hlt,zJ (by omega)]
           simpa using heq
          ·exact N.u j (by omega)
         clear heq
         go_wp2_with fail
         go_quiet (fail)
         go_wp2_with fail
         go_roundw
         case rel=>exact⟨m+1,by omega,by go_num,HT3.u,HH.u.1,HH.u.2.1,HH.u.2.2.trans (kT _ _)⟩
         case measure=>simp[intOf];omega
       ·have A:¬(m:Int) < (k:Int):=by omega
        have a6:m=k:=by omega
        have HT3:Hd (Rt.bh fm.params (k+1)):=by
         refine zD ?_
         intro i j h1 h2 h3
         by_cases e:i=k
         ·subst e;exact N.u j (by omega)
         ·exact HT.u i j h1 (by omega) h3
        have HH:=XX o f d
        clear o f d
        go_wp2_with fail
        go_roundw
        case rel=>exact⟨k+1,by omega,by go_num,HT3.u,HH.u.1,HH.u.2.1,HH.u.2.2⟩
        case measure=>simp[intOf];omega
    ·have F:¬(k:Int) < (fm.params.length:Int):=by omega
     have T:k=fm.params.length:=by omega
     have V:Hd (Rt.QJ fm=true):=by
      refine zD ?_
      have:=W.u ⟨fun _=>trivial,fun _=>by rw[<-T];exact HT.u⟩
      simpa using this
     have HH:=zD y
     clear R z y
     go_wp2_with fail
     go_ret
     exact⟨by rw[V.u];rfl,HH.u⟩
end Go.Proofs.YthleadfkfnnadaaGreat
