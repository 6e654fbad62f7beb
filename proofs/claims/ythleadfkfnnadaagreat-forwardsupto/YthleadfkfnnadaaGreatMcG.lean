/- The program within a machine: Otherwise, GoOn, First. -/
import Derived.Test.YthleadfkfnnadaaGreatMcD
set_option maxHeartbeats 4000000
set_option maxRecDepth 100000
set_option linter.unusedSimpArgs false
namespace Go.Proofs.YthleadfkfnnadaaGreat
open Go.RowKit
attribute [local go_sem ↓] Go.wp_at_zero Go.wp_at_succ
variable {cs:List (List Value)} {zL:List Rt.PL} {tail:List Value} {X:ZK} {M B BB P:Nat} {lk:Rt.Qw} {m:Rt.Mc} {S:Rt.Src} {ty:TypeId} {lv:Value} {w:World}
def mT (K:Nat) (x:List Int×Int) (w:World) (e:Ending) (w':World):Prop:=e=.returned (.int .i64 x.2)/\(∃sv,Qf w' K x.1 sv)/\Below K w w'
section
variable (w0 w : World) (M B : Nat) (ty : TypeId) (tail : List Value) (S : Rt.Src) (m : Rt.Mc) (X : ZK) (K : Nat) (st : List Int) (sv : Value) (code number : Int) (name : ByteArray)
theorem re (D:jz w0 M B ty tail S m X) (y:dL S m) (x:Below w0.heap.size w0 w) (H:w0.heap.size<=K) (k:Qf w K st sv) (z:st.length<=1000) :
  Calls Tryz.prog 207 #[.pointer (some ⟨M,0,none⟩),.pointer (some ⟨K,0,none⟩),.agg #[.int .i64 1,.int .i64 number,.string name]] w (mT K (st++[number],0) w):=by
 have _u:=And.intro D (And.intro y H)
 clear _u
 have A:=zQ k.block
 have d:=(zI w.heap.size w).alloc (zB _) (.cells #[.int .i64 1,.int .i64 number,.string name] 236)
 have I:=zN w (.cells #[.int .i64 1,.int .i64 number,.string name] 236)
 have f:=k.zP d
 have i:Below K w (w.alloc (.cells #[.int .i64 1,.int .i64 number,.string name] 236)):=d.mono (by omega)
 have o:Below w0.heap.size w0 (w.alloc (.cells #[.int .i64 1,.int .i64 number,.string name] 236)):=x.trans (d.mono x.size)
 clear k d
 go_enter Tryz.func207,Tryz.ntmps207
 go_wp2_with fail
 refine(KN number f (by omega)).mono ?_
 rintro e w2 ⟨rfl,⟨G,h⟩,j⟩
 have F:=qG h (i.trans (j.below f))
 clear f h j i o x D y I
 go_wp2_with fail
 go_ret
 exact⟨rfl,⟨_,F.u.1⟩,F.u.2⟩
theorem wH (N:jz w0 M B ty tail S m X) (L:dL S m) (R:Below w0.heap.size w0 w) (Z:w0.heap.size<=K) (O:Qf w K st sv) (T:st.length<=1000) :
  Calls Tryz.prog 207 #[.pointer (some ⟨M,0,none⟩),.pointer (some ⟨K,0,none⟩),.agg #[.int .i64 2,.int .i64 number,.string name]] w (mT K (st++[Rt.ZL m (Rt.vx S m name)],0) w):=by
 have _u:=And.intro N (And.intro L Z)
 clear _u
 have U:=zQ O.block
 have h:=(zI w.heap.size w).alloc (zB _) (.cells #[.int .i64 2,.int .i64 number,.string name] 236)
 have bO:=zN w (.cells #[.int .i64 2,.int .i64 number,.string name] 236)
 have G:=O.zP h
 have H:Below K w (w.alloc (.cells #[.int .i64 2,.int .i64 number,.string name] 236)):=h.mono (by omega)
 have i:Below w0.heap.size w0 (w.alloc (.cells #[.int .i64 2,.int .i64 number,.string name] 236)):=R.trans (h.mono R.size)
 clear O h
 go_enter Tryz.func207,Tryz.ntmps207
 go_wp2_with fail
 refine(fy name (N.zP i) L).mono ?_
 rintro e w2 ⟨rfl,d⟩
 have z:=G.zP d
 have o:=H.trans (d.mono (B':=K) (by simp;omega))
 have D:=i.trans (d.mono (B':=w0.heap.size) i.size)
 clear G H i d bO
 generalize Rt.vx S m name=sp at *
 have f:=(zI w2.heap.size w2).alloc (zB _) (.cells #[.int .i64 sp.line,.int .i64 sp.cell] 160)
 have y:=z.zP f
 have k:=o.trans (f.mono (B':=K) (by have:=zQ z.block;omega))
 have J:=D.trans (f.mono (B':=w0.heap.size) D.size)
 clear z o D f
 go_wp2_with fail
 refine(nT sp (N.zP J) L).mono ?_
 rintro e w4 ⟨rfl,A⟩
 have x:=y.zP A
 have j:=k.trans (A.mono (B':=K) (by have:=zQ y.block;omega))
 clear y k J A
 generalize Rt.ZL m sp=gx at *
 go_wp2_with fail
 refine(KN gx x (by first | omega | (simp;omega))).mono ?_
 rintro e w9 ⟨rfl,⟨W,F⟩,I⟩
 have V:=qG F (j.trans (I.below x))
 clear x F I j R N L
 go_wp2_with fail
 go_ret
 exact⟨rfl,⟨_,V.u.1⟩,V.u.2⟩
theorem work_cell (W:jz w0 M B ty tail S m X) (O:dL S m) (hb:Below w0.heap.size w0 w) (hK:w0.heap.size<=K) (hs:Qf w K st sv) (a0:st.length<=1000) (x:List Int×Int) (hx:x=match Rt.kX S m name (st.getLastD 0)with | none=>(st.dropLast,3)| some s=>(st.dropLast++[Rt.ZL m s],0)) :
  Calls Tryz.prog 207 #[.pointer (some ⟨M,0,none⟩),.pointer (some ⟨K,0,none⟩),.agg #[.int .i64 3,.int .i64 number,.string name]] w (mT K x w):=by
 have _u:=And.intro W (And.intro O hK)
 clear _u
 have a1:=zQ hs.block
 have o:=(zI w.heap.size w).alloc (zB _) (.cells #[.int .i64 3,.int .i64 number,.string name] 236)
 have bO:=zN w (.cells #[.int .i64 3,.int .i64 number,.string name] 236)
 have j:=hs.zP o
 have R:Below K w (w.alloc (.cells #[.int .i64 3,.int .i64 number,.string name] 236)):=o.mono (by omega)
 have V:Below w0.heap.size w0 (w.alloc (.cells #[.int .i64 3,.int .i64 number,.string name] 236)):=hb.trans (o.mono hb.size)
 clear hs o
 have HX:=zD hx
 clear hx
 go_enter Tryz.func207,Tryz.ntmps207
 go_wp2_with fail
 refine(aM j (by first | omega | (simp <;> omega))).mono ?_
 rintro e w2 ⟨rfl,⟨a3,I⟩,i⟩
 have L:=i.below j
 have F:=R.trans L
 have z:=V.trans (L.mono (B':=w0.heap.size) hK)
 have Z:w2.heap[w.heap.size]?=some (.cells #[.int .i64 3,.int .i64 number,.string name] 236 (0,0)):=i.other j bO (by decide) (by decide)
 have k2:=zC Z 2 (by simp)
 simp at k2
 have a4:st.dropLast.length<=1000:=by simp;omega
 clear j R V L bO Z i
 generalize st.getLastD 0=idx at *
 generalize st.dropLast=st2 at *
 go_wp2_with fail
 refine(lU name idx (W.zP z) O).mono ?_
 rintro e w3 ⟨rfl,k⟩
 have h:=I.zP k
 have f:=F.trans (k.mono (B':=K) (by have:=zQ I.block;omega))
 have y:=z.trans (k.mono (B':=w0.heap.size) z.size)
 clear I F z k
 cases hc:Rt.kX S m name idx with
 | none=>
  have HY:=zD (show x=(st2,3) by rw[HX.u,hc])
  have d:=(zI w3.heap.size w3).alloc (zB _) (.cells #[.int .i64 0,.int .i64 0] 160)
  have HF:=qG (h.zP d) (f.trans (d.mono (B':=K) (by have:=zQ h.block;omega)))
  clear h f y hb W O hc d
  simp only[cellR]
  go_wp2_with fail
  go_ret
  rw[HY.u]
  exact⟨rfl,⟨_,HF.u.1⟩,HF.u.2⟩
 | some sp=>
  have HY:=zD (show x=(st2++[Rt.ZL m sp],0) by rw[HX.u,hc])
  clear hc
  simp only[cellR]
  have d:=(zI w3.heap.size w3).alloc (zB _) (.cells #[.int .i64 sp.line,.int .i64 sp.cell] 160)
  have H:=h.zP d
  have D:=f.trans (d.mono (B':=K) (by have:=zQ h.block;omega))
  have U:=y.trans (d.mono (B':=w0.heap.size) y.size)
  clear h f y d
  go_wp2_with fail
  refine(nT sp (W.zP U) O).mono ?_
  rintro e w5 ⟨rfl,J⟩
  have G:=H.zP J
  have A:=D.trans (J.mono (B':=K) (by have:=zQ H.block;omega))
  clear H D U J
  generalize Rt.ZL m sp=gx at *
  go_wp2_with fail
  refine(KN gx G (by first | omega | (simp;omega))).mono ?_
  rintro e w9 ⟨rfl,⟨a2,N⟩,T⟩
  have HF:=qG N (A.trans (T.below G))
  clear G N T A hb W O
  go_wp2_with fail
  go_ret
  rw[HY.u]
  exact⟨rfl,⟨_,HF.u.1⟩,HF.u.2⟩
theorem Bi (L:jz w0 M B ty tail S m X) (G:dL S m) (F:Below w0.heap.size w0 w) (J:w0.heap.size<=K) (A:Qf w K st sv) (H:st.length<=1000) :
  Calls Tryz.prog 207 #[.pointer (some ⟨M,0,none⟩),.pointer (some ⟨K,0,none⟩),.agg #[.int .i64 4,.int .i64 number,.string name]] w (mT K (st.dropLast++[wrap64 (-(st.getLastD 0))],0) w):=by
 have _u:=And.intro L (And.intro G J)
 clear _u
 have I:=zQ A.block
 have d:=(zI w.heap.size w).alloc (zB _) (.cells #[.int .i64 4,.int .i64 number,.string name] 236)
 have U:=zN w (.cells #[.int .i64 4,.int .i64 number,.string name] 236)
 have i:=A.zP d
 have x:Below K w (w.alloc (.cells #[.int .i64 4,.int .i64 number,.string name] 236)):=d.mono (by omega)
 have z:Below w0.heap.size w0 (w.alloc (.cells #[.int .i64 4,.int .i64 number,.string name] 236)):=F.trans (d.mono F.size)
 clear A d
 go_enter Tryz.func207,Tryz.ntmps207
 go_wp2_with fail
 refine(aM i (by first | omega | (simp <;> omega))).mono ?_
 rintro e w2 ⟨rfl,⟨R,h⟩,o⟩
 have j:=o.below i
 have f:=x.trans j
 have D:=z.trans (j.mono (B':=w0.heap.size) J)
 have T:st.dropLast.length<=1000:=by simp;omega
 clear i x z j U D
 generalize st.getLastD 0=idx at *
 generalize st.dropLast=st2 at *
 go_wp2_with fail
 refine(KN (wrap64 (-idx)) h (by omega)).mono ?_
 rintro e V ⟨rfl,⟨O,k⟩,y⟩
 have N:=qG k (f.trans (y.below h))
 clear h k y f F L G
 go_wp2_with fail
 go_ret
 exact⟨rfl,⟨_,N.u.1⟩,N.u.2⟩
theorem Bh (W:jz w0 M B ty tail S m X) (T:dL S m) (O:Below w0.heap.size w0 w) (V:w0.heap.size<=K) (R:Qf w K st sv) (a1:st.length<=1000) (h1:¬code=1) (h2:¬code=2) (h3:¬code=3) (h4:¬code=4) (x:List Int×Int) (hx:x=if (Rt.xF code (st.dropLast.getLastD 0) (st.getLastD 0)).2=0 then (st.dropLast.dropLast++[(Rt.xF code (st.dropLast.getLastD 0) (st.getLastD 0)).1],0)else (st.dropLast.dropLast,(Rt.xF code (st.dropLast.getLastD 0) (st.getLastD 0)).2)) :
  Calls Tryz.prog 207 #[.pointer (some ⟨M,0,none⟩),.pointer (some ⟨K,0,none⟩),.agg #[.int .i64 code,.int .i64 number,.string name]] w (mT K x w):=by
 have _u:=And.intro W (And.intro T V)
 clear _u
 have a2:=zQ R.block
 have o:=(zI w.heap.size w).alloc (zB _) (.cells #[.int .i64 code,.int .i64 number,.string name] 236)
 have bO:=zN w (.cells #[.int .i64 code,.int .i64 number,.string name] 236)
 have k:=R.zP o
 have F:Below K w (w.alloc (.cells #[.int .i64 code,.int .i64 number,.string name] 236)):=o.mono (by omega)
 have I:Below w0.heap.size w0 (w.alloc (.cells #[.int .i64 code,.int .i64 number,.string name] 236)):=O.trans (o.mono O.size)
 clear R o
 have HX:=zD hx
 clear hx
 have b1:(code==1)=false:=by rw[zV];exact h1
 have b2:(code==2)=false:=by rw[zV];exact h2
 have b3:(code==3)=false:=by rw[zV];exact h3
 have b4:(code==4)=false:=by rw[zV];exact h4
 clear h1 h2 h3 h4
 go_enter Tryz.func207,Tryz.ntmps207
 go_wp2_with fail
 refine(aM k (by first | omega | (simp <;> omega))).mono ?_
 rintro e w2 ⟨rfl,⟨a5,j⟩,i⟩
 have A:=i.below k
 have y:=F.trans A
 have H:=I.trans (A.mono (B':=w0.heap.size) V)
 have L:w2.heap[w.heap.size]?=some (.cells #[.int .i64 code,.int .i64 number,.string name] 236 (0,0)):=i.other k bO (by decide) (by decide)
 have a6:st.dropLast.length<=1000:=by simp;omega
 clear k F I A bO
 generalize st.getLastD 0=rx at *
 generalize st.dropLast=st2 at *
 go_wp2_with fail
 refine(aM j (by first | omega | (simp <;> omega))).mono ?_
 rintro e w3 ⟨rfl,⟨a4,f⟩,h⟩
 have z:=h.below j
 have d:=y.trans z
 have U:=H.trans (z.mono (B':=w0.heap.size) V)
 have J:w3.heap[w.heap.size]?=some (.cells #[.int .i64 code,.int .i64 number,.string name] 236 (0,0)):=h.other j L (by decide) (by decide)
 have k0:=zC J 0 (by simp)
 simp at k0
 have a0:st2.dropLast.length<=1000:=by simp;omega
 clear j y H z L J i h U
 generalize st2.getLastD 0=lx at *
 generalize st2.dropLast=st3 at *
 go_wp2_with fail
 refine(rA _ code lx rx).mono ?_
 rintro e w4 ⟨rfl,rfl⟩
 generalize (Rt.xF code lx rx).1=cv at *
 generalize (Rt.xF code lx rx).2=ct at *
 by_cases hct:ct=0
 ·subst hct
  have Z:=zD (show x=(st3++[cv],0) by rw[HX.u,zE rfl])
  go_wp2_with fail
  refine(KN cv f (by omega)).mono ?_
  rintro e w9 ⟨rfl,⟨a3,D⟩,G⟩
  have N:=qG D (d.trans (G.below f))
  clear f D G d O W T
  go_wp2_with fail
  go_ret
  rw[Z.u]
  exact⟨rfl,⟨_,N.u.1⟩,N.u.2⟩
 ·have Z:=zD (show x=(st3,ct) by rw[HX.u,zA hct])
  have bc:(ct==0)=false:=by rw[zV];exact hct
  have N:=qG f d
  clear f d O W T hct
  go_wp2_with fail
  go_ret
  rw[Z.u]
  exact⟨rfl,⟨_,N.u.1⟩,N.u.2⟩
end
theorem Bj {w0:World} {K:Nat} {st:List Int} {sv:Value} (o:qM) (y:jz w0 M B ty tail S m X) (j:dL S m) (k:Below w0.heap.size w0 w) (x:w0.heap.size<=K) (i:Qf w K st sv) (h:st.length<=1000) :
  Calls Tryz.prog 207 #[.pointer (some ⟨M,0,none⟩),.pointer (some ⟨K,0,none⟩),.agg #[.int .i64 o.code,.int .i64 o.number,.string o.name]] w (mT K (Rt.workI S m st o) w):=by
 obtain⟨code,d,f⟩:=o
 by_cases h1:code=1
 ·subst h1
  exact re w0 w M B ty tail S m X K st sv d f y j k x i h
 by_cases h2:code=2
 ·subst h2
  exact wH w0 w M B ty tail S m X K st sv d f y j k x i h
 by_cases h3:code=3
 ·subst h3
  exact work_cell w0 w M B ty tail S m X K st sv d f y j k x i h _ rfl
 by_cases h4:code=4
 ·subst h4
  exact Bi w0 w M B ty tail S m X K st sv d f y j k x i h
 refine Bh w0 w M B ty tail S m X K st sv code d f y j k x i h h1 h2 h3 h4 _ ?_
 unfold Rt.workI
 simp only
 rw[zA h1,zA h2,zA h3,zA h4]
theorem wI (S:Rt.Src) (m:Rt.Mc) (d:List Int) (o:qM):(Rt.workI S m d o).1.length<=d.length+1:=by
 unfold Rt.workI
 split
 ·simp
 ·split
  ·simp
  ·split
   ·split <;> simp <;> omega
   ·split
    ·simp <;> omega
    ·simp only
     split <;> simp <;> omega
theorem Ju {ad:Option Addr} {cap:Nat} {ops:List qM} (h:jz w M B ty tail S m X) (hm:dL S m) (R:w.ownsRow BB 236 3 (.slice ad ops.length cap) ops.length (xX ops)) (T:ops.length<=900) :
  Calls Tryz.prog 182 #[.pointer (some ⟨M,0,none⟩),.agg #[.slice ad ops.length cap]] w fun e w'=>e=.returned (.tuple #[.int .i64 (Rt.zr S m ops).1,.int .i64 (Rt.zr S m ops).2])/\Below w.heap.size w w':=by
 have hb0:=((zI w.heap.size w).alloc (zB _) (.cells #[.slice ad ops.length cap] 140)).alloc (by simp) (.cells #[.slice none 0 0] 232)
 have bE:=yR (zN w (.cells #[.slice ad ops.length cap] 140)) (.cells #[.slice none 0 0] 232)
 have W:=qD w (.cells #[.slice ad ops.length cap] 140) (.cells #[.slice none 0 0] 232)
 have hs0:Qf ((w.alloc (.cells #[.slice ad ops.length cap] 140)).alloc (.cells #[.slice none 0 0] 232)) (w.heap.size+1) [] (.slice none 0 0):=⟨W,zW _ _ _ _⟩
 have HH:=qG h R
 clear h R
 go_enter Tryz.func182,Tryz.ntmps182
 go_wp2_with fail
 go_loopw [7,8] (fun i _ wr=>∃(k:Nat) (st:List Int) (sv:Value),k<=ops.length/\i=.int .i64 k/\st.length<=k/\Rt.evalI S m (ops.drop k) st=Rt.zr S m ops/\Qf wr (w.heap.size+1) st sv/\wr.heap[w.heap.size]?=some (.cells #[.slice ad ops.length cap] 140 (0,0))/\Below w.heap.size w wr)
  (fun i _ _=>ops.length-(intOf i).toNat)
 case atStart=>exact⟨0,[],_,zo _,rfl,by simp,rfl,hs0,bE,hb0⟩
 case round=>
  clear hs0 bE hb0 W
  obtain⟨k,st,sv,hk,rfl,a1,U,f,x,d⟩:=hrel
  have cE:=zC x 0 (by simp)
  simp at cE
  have V:=zQ x
  have L:=zD U
  clear U
  by_cases hlt:k < ops.length
  ·obtain⟨g,hg,o0,o1,o2⟩:=lO (yG HH.u.2 d) hlt
   subst hg
   have G:(k:Int) < (ops.length:Int):=by omega
   have a2:(0:Int)<=(k:Int):=by omega
   have D:=zD (show Rt.zr S m ops=if (Rt.workI S m st ops[k]).2=0 then Rt.evalI S m (ops.drop (k+1)) (Rt.workI S m st ops[k]).1 else (0,(Rt.workI S m st ops[k]).2) by rw[<-L.u,zZ hlt,Rt.evalI])
   have O:=wI S m st ops[k]
   have HW:=zD (Bj ops[k] HH.u.1 hm d (by omega) f (by omega))
   have Z:=XX f x d
   clear f x d L
   generalize Rt.workI S m st ops[k]=y at *
   generalize ops[k]=o at *
   go_wp2_with fail
   refine HW.u.mono ?_
   rintro e w2 ⟨rfl,⟨a0,F⟩,z⟩
   obtain⟨f,x,d⟩:=Z.u
   have I:w2.heap[w.heap.size]?=some (.cells #[.slice (some ⟨g,0,none⟩) ops.length cap] 140 (0,0)):=by rw[z.block w.heap.size (by omega)];exact x
   have j:=d.trans (z.mono (B':=w.heap.size) (by omega))
   have J:=XX F I j
   clear F z f x d I j HW Z
   obtain⟨N,tr⟩:=y
   simp only at D O J ⊢
   by_cases htr:tr=0
   ·subst htr
    have A:=zD (D.u.trans (zE rfl))
    clear D
    go_wp2_with fail
    go_roundw
    case rel=>
     obtain⟨q1,q2,q3⟩:=J.u
     exact⟨k+1,N,_,by omega,by go_num,by omega,A.u.symm,q1,q2,q3⟩
    case measure=>simp[intOf];omega
   ·have A:=zD (D.u.trans (zA htr))
    have a3:(tr != 0)=true:=by simpa using htr
    clear D htr
    go_wp2_with fail
    go_ret2
    exact⟨by rw[A.u];rfl,J.u.2.2⟩
  ·have G:¬(k:Int) < (ops.length:Int):=by omega
   have D:=zD (show Rt.zr S m ops=(st.getLastD 0,0) by rw[<-L.u,zp (by omega),Rt.evalI])
   have HB:=zD d
   clear L x d
   go_wp2_with fail
   refine(aM f (by omega)).mono ?_
   rintro e w2 ⟨rfl,_,H⟩
   have J:=zD (HB.u.trans ((H.below f).mono (B':=w.heap.size) (by omega)))
   clear H f
   generalize st.getLastD 0=gv at *
   go_wp2_with fail
   go_ret2
   exact⟨by rw[D.u];rfl,J.u⟩
theorem Ks {fm:Rt.qS} {a1 a2 a3:Option Addr} {c1 c2 c3:Nat} (h:jz w M B ty tail S m X) (R:dL S m) (hf:qk w BB #[.int .i64 fm.kind,.string fm.name,.int .i64 fm.cells,.slice a1 fm.params.length c1,.slice a2 fm.index.length c2,.slice a3 fm.values.length c3] fm) (A:Rt.Small fm) (f:∀o∈fm.values,o.length<=900) :
  Calls Tryz.prog 180 #[.pointer (some ⟨M,0,none⟩),.agg #[.int .i64 fm.kind,.string fm.name,.int .i64 fm.cells,.slice a1 fm.params.length c1,.slice a2 fm.index.length c2,.slice a3 fm.values.length c3]] w fun e w'=>e=.returned (.tuple #[.int .i64 (Rt.kP S m fm).1,.int .i64 (Rt.kP S m fm).2])/\Below w.heap.size w w':=by
 have _u:=A
 clear _u
 have d:=(zI w.heap.size w).alloc (zB _) (.cells #[.int .i64 fm.kind,.string fm.name,.int .i64 fm.cells,.slice a1 fm.params.length c1,.slice a2 fm.index.length c2,.slice a3 fm.values.length c3] 143)
 have U:=h.zP d
 obtain⟨pv,iv,vv,vs,D,_,_,V,I⟩:=hf
 have N:vv=.slice a3 fm.values.length c3:=by simp at D;exact D.2.2.symm
 subst N
 have F:=yG V d
 have bF:=zN w (.cells #[.int .i64 fm.kind,.string fm.name,.int .i64 fm.cells,.slice a1 fm.params.length c1,.slice a2 fm.index.length c2,.slice a3 fm.values.length c3] 143)
 clear h D
 by_cases h0:fm.values.length=0
 ·have W:=zD (show Rt.kP S m fm=(0,0) by unfold Rt.kP;rw[yu h0])
  have hz:((fm.values.length:Int)==0)=true:=by simpa using h0
  have J:=zD d
  clear U V F I bF d R A f h0
  go_enter Tryz.func180,Tryz.ntmps180
  go_wp2_with fail
  go_ret2
  exact⟨by rw[W.u];rfl,J.u⟩
 ·have hz:((fm.values.length:Int)==0)=false:=by rw[zV];omega
  have Z:(0:Int) < (fm.values.length:Int):=by omega
  obtain⟨o,os,i⟩:∃o os,fm.values=o::os:=by
   cases hv:fm.values with
   | nil=>rw[hv]at h0;simp at h0
   | cons o os=>exact⟨o,os,rfl⟩
  have W:=zD (show Rt.kP S m fm=Rt.zr S m o by unfold Rt.kP;rw[i])
  have O:=f o (by rw[i];exact xB ..)
  obtain⟨x,xs,hx,z⟩:∃x xs,vs=x::xs/\w.ownsRow BB 236 3 x o.length (xX o):=by
   rw[i]at I
   cases vs with
   | nil=>exact I.elim
   | cons x xs=>exact⟨x,xs,rfl,I.1⟩
  obtain⟨L,G,rfl⟩:=zK z
  subst hx
  obtain⟨g,a0,T,_,_,ca⟩:=yD F (j:=0) (u:=.slice L o.length G) rfl
  injection T with e1 _ e2
  subst e1 e2
  have k:=yG z d
  have HV:=zD (Ju U R k O)
  have J:=zD d
  clear U V F I d R A f h0 z k i
  generalize fm.values.length=vl at *
  go_enter Tryz.func180,Tryz.ntmps180
  go_wp2_with fail
  refine HV.u.mono ?_
  rintro e w2 ⟨rfl,H⟩
  have HF:=zD (J.u.trans (H.mono (B':=w.heap.size) (by simp)))
  clear H HV J
  generalize Rt.zr S m o=y at *
  obtain⟨y1,y2⟩:=y
  go_wp2_with fail
  go_ret2
  exact⟨by rw[W.u];rfl,HF.u⟩
theorem ij (n:Int) (h:vu w P B zL lk lv cs) :
  Calls Tryz.prog 183 #[.pointer (some ⟨P,0,none⟩),.int .i64 n] w fun e w'=>e=.returned (.int .i64 (Rt.ky lk n))/\Below w.heap.size w w':=by
 go_enter Tryz.func183,Tryz.ntmps183
 go_wp2_with fail
 refine(Kp n h).mono ?_
 rintro e w1 ⟨G,F,D,A,z,y,x,o,rfl,_,_,i⟩
 have f:=zD (show Rt.ky lk n=if 0 < (Rt.jR lk n).1 then wrap64 ((Rt.jR lk n).1+1)else wrap64 ((Rt.jR lk n).2+1)from rfl)
 generalize (Rt.jR lk n).1=xe at *
 generalize (Rt.jR lk n).2=xf at *
 generalize Rt.yM zL n=pl at *
 have d:=i.alloc i.size (.cells #[.slice G pl.yY.length z,.int .i64 pl.form.kind,.string pl.form.name,.int .i64 pl.form.cells,.slice F pl.form.params.length y,.slice D pl.form.index.length x,.slice A pl.form.values.length o,.int .i64 pl.depth,.int .i64 pl.opener,.int .i64 xe,.int .i64 xf,.int .i64 pl.proc] 145)
 have k:=zD d
 clear h i d
 by_cases hx:0 < xe
 ·have j:=zD (f.u.trans (zE hx))
  clear f
  go_wp2_with fail
  go_ret
  exact⟨by rw[j.u];rfl,k.u⟩
 ·have j:=zD (f.u.trans (zA hx))
  clear f
  go_wp2_with fail
  go_ret
  exact⟨by rw[j.u];rfl,k.u⟩
def mX (zL:List Rt.PL) (lk:Rt.Qw):Prop:=∀(n:Nat) (p:Rt.PL),zL[n]?=some p->p.form.kind=6->(n:Int)<=(Rt.jR lk p.opener).2/\(Rt.jR lk p.opener).2<=200
namespace Rt
theorem mB (zL:List PL) (lk:Qw) (f:Nat) (n:Int):goOn zL lk (f+1) n=if 0 < n/\n < zL.length then (if xV zL (vU zL n)=true then n else if (vU zL n).form.kind=4/\(yA zL (vU zL n).opener).kind=7 then (vU zL n).opener else if (vU zL n).form.kind=6 then goOn zL lk f (wrap64 ((jR lk (vU zL n).opener).2+1))else goOn zL lk f (wrap64 (n+1)))else 0:=rfl
end Rt
theorem pW (n:Int) (h:vu w P B zL lk lv cs) (f4:zL.length<=101) (a6:mX zL lk) (hn:-9223372036854775808<=n/\n<=9223372036854775807) :
  Calls Tryz.prog 92 #[.pointer (some ⟨P,0,none⟩),.int .i64 n] w fun e w'=>e=.returned (.int .i64 (Rt.goOn zL lk 102 n))/\Below w.heap.size w w':=by
 obtain⟨ad,cap,a7,cP⟩:=h.Q3
 have HH:=zD h
 have b9:=zD a6
 clear h a6
 go_enter Tryz.func92,Tryz.ntmps92
 go_wp2_with fail
 go_loopw [1,5,6] (fun i _ _ wr=>∃(j:Int) (f:Nat),i=.int .i64 j/\-9223372036854775808<=j/\j<=9223372036854775807/\(zL.length:Int) < f+max j 0+1/\Rt.goOn zL lk f j=Rt.goOn zL lk 102 n/\Below w.heap.size w wr)
  (fun i _ _ _=>(zL.length+1-max (intOf i) 0).toNat)
 case atStart=>exact⟨n,102,rfl,hn.1,hn.2,by omega,rfl,zI _ _⟩
 case round=>
  obtain⟨j,f,rfl,g3,g2,hf,hT,y⟩:=hrel
  have J:=HH.u.zP y
  have g7:=cell_later y cP
  have HT:=zD hT
  have HF:=zD hf
  clear hT hf cP
  by_cases hin:0 < j/\j < zL.length
  ·obtain⟨k,rfl⟩:=yr (show 0<=j by omega)
   have L:k < zL.length:=by omega
   have c0:(k:Int) < (zL.length:Int):=by omega
   have g1:(0:Int) < (k:Int):=hin.1
   have f5:(0:Int)<=(k:Int):=by omega
   obtain⟨W,rfl⟩:∃W,f=W+1:=⟨f-1,by have:=HF.u;omega⟩
   obtain⟨g,cap',a0,a1,a2,a3,e0,e1,e2,e3,xe,xf,O,f6,⟨d0,d1,d2,d3,d4,d5,d6,d7,d8,d9,g6,g5⟩,_,_⟩:=J.at L
   have a4:=a7.symm.trans O
   injection a4 with e1 _ e2
   subst e1 e2
   have I:=zD (HT.u.symm.trans (Rt.mB zL lk W k))
   have a5:Rt.vU zL (k:Int)=zL[k]:=Rt.QQ L
   rw[a5,zE hin]at I
   have d:=b9.u k zL[k] (zJ L)

   clear O a5 hin HT
   have a9:Hd (Rt.yM zL (k:Int)=zL[k]):=zD (Rt.QQ L)
   generalize zL[k]=p at *
   have T:=(zI wr.heap.size wr).alloc (zB _) (.cells #[.slice a0 p.yY.length e0,.int .i64 p.form.kind,.string p.form.name,.int .i64 p.form.cells,.slice a1 p.form.params.length e1,.slice a2 p.form.index.length e2,.slice a3 p.form.values.length e3,.int .i64 p.depth,.int .i64 p.opener,.int .i64 xe,.int .i64 xf,.int .i64 p.proc] 145)
   have bA:=zN wr (.cells #[.slice a0 p.yY.length e0,.int .i64 p.form.kind,.string p.form.name,.int .i64 p.form.cells,.slice a1 p.form.params.length e1,.slice a2 p.form.index.length e2,.slice a3 p.form.values.length e3,.int .i64 p.depth,.int .i64 p.opener,.int .i64 xe,.int .i64 xf,.int .i64 p.proc] 145)
   have D:=J.zP T
   have G:=y.trans (T.mono (B':=w.heap.size) y.size)
   clear J y T
   go_wp2_with fail
   refine(pQ (k:Int) D).mono ?_
   rintro e w2 ⟨rfl,M⟩
   rw[a9.u]
   have F:=D.zP M
   have o:=G.trans (M.mono (B':=w.heap.size) G.size)
   have z:=zU bA M
   clear D G M bA
   cases hst:Rt.xV zL p with
   | true=>
    have A:=zD (I.u.trans (zE hst))
    have N:=zD o
    clear I hst F o z d
    go_wp2_with fail
    go_ret
    exact⟨by rw[A.u];rfl,N.u⟩
   | false=>
    have x:=zD (I.u.trans (zA (by rw[hst];simp)))
    clear I hst
    have q1:=zC z 1 (by simp)
    have q8:=zC z 8 (by simp)
    simp only[yQ,yH,zv]at q1 q8
    go_wp2_with fail
    refine(Kp p.opener F).mono ?_
    rintro e w3 ⟨b0,b1,b2,b3,f0,f1,f2,f3,rfl,_,_,H⟩
    have b8:=zD (Rt.Zk zL p.opener)
    generalize Rt.yM zL p.opener=po at *
    generalize g0:(Rt.jR lk p.opener).1=ye at *
    generalize f9:(Rt.jR lk p.opener).2=yf at *
    have U:=(zI w3.heap.size w3).alloc (zB _) (.cells #[.slice b0 po.yY.length f0,.int .i64 po.form.kind,.string po.form.name,.int .i64 po.form.cells,.slice b1 po.form.params.length f1,.slice b2 po.form.index.length f2,.slice b3 po.form.values.length f3,.int .i64 po.depth,.int .i64 po.opener,.int .i64 ye,.int .i64 yf,.int .i64 po.proc] 145)
    have a8:=zN w3 (.cells #[.slice b0 po.yY.length f0,.int .i64 po.form.kind,.string po.form.name,.int .i64 po.form.cells,.slice b1 po.form.params.length f1,.slice b2 po.form.index.length f2,.slice b3 po.form.values.length f3,.int .i64 po.depth,.int .i64 po.opener,.int .i64 ye,.int .i64 yf,.int .i64 po.proc] 145)
    have V:=zU (zU z H) U
    have r1:=zC V 1 (by simp)
    have r8:=zC V 8 (by simp)
    simp only[yQ,yH,zv]at r1 r8
    have R:=(o.trans (H.mono (B':=w.heap.size) o.size)).trans (U.mono (B':=w.heap.size) (by have:=o.size;have:=H.size;omega))
    have N:=zD R
    have f8:¬wr.heap.size=w3.heap.size:=by have:=zQ (zU z H);omega
    clear F o z H U a8 V R q1 q8
    generalize p.opener=op at *
    generalize p.form.kind=kx at *
    have b5:=zD (show (Rt.yA zL op).kind=po.form.kind by rw[b8.u])
    rw[b5.u]at x
    generalize po.form.kind=ko at *
    by_cases h4:kx=4
    ·subst h4
     by_cases h7:ko=7
     ·subst h7
      have A:=zD (x.u.trans (zE ⟨rfl,rfl⟩))
      clear x d
      go_wp2_with fail
      go_ret
      exact⟨by rw[A.u];rfl,N.u⟩
     ·have b7:(ko==7)=false:=by rw[zV];exact h7
      have A:=zD ((x.u.trans (zA (fun e=>h7 e.2))).trans (zA (by omega)))
      have Z:IntKind.i64.wrap ((k:Int)+1)=(k:Int)+1:=by rw[yv,yC _ (by omega)]
      clear x d h7
      go_wp2_with fail
      go_roundw
      case rel=>
       have hf:=HF.u
       refine⟨(k:Int)+1,W,by go_num,by omega,by omega,by omega,?_,N.u⟩
       have:=A.u
       rw[yC _ (by omega)]at this
       exact this.symm
      case measure=>simp[intOf];omega
    ·have b4:(kx==4)=false:=by rw[zV];exact h4
     by_cases h6:kx=6
     ·subst h6
      have f7:=d rfl
      have A:=zD ((x.u.trans (zA (fun e=>h4 e.1))).trans (zE rfl))
      have Z:IntKind.i64.wrap (yf+1)=yf+1:=by rw[yv,yC _ (by omega)]
      clear x d
      go_wp2_with fail
      go_roundw
      case rel=>
       have hf:=HF.u
       refine⟨yf+1,W,by go_num,by omega,by omega,by omega,?_,N.u⟩
       have:=A.u
       rw[yC _ (by omega)]at this
       exact this.symm
      case measure=>simp[intOf];omega
     ·have b6:(kx==6)=false:=by rw[zV];exact h6
      have A:=zD ((x.u.trans (zA (fun e=>h4 e.1))).trans (zA h6))
      have Z:IntKind.i64.wrap ((k:Int)+1)=(k:Int)+1:=by rw[yv,yC _ (by omega)]
      clear x d h4 h6
      go_wp2_with fail
      go_roundw
      case rel=>
       have hf:=HF.u
       refine⟨(k:Int)+1,W,by go_num,by omega,by omega,by omega,?_,N.u⟩
       have:=A.u
       rw[yC _ (by omega)]at this
       exact this.symm
      case measure=>simp[intOf];omega
  ·have A:Hd (Rt.goOn zL lk 102 n=0):=by
    refine zD ?_
    rw[<-HT.u]
    cases f with
    | zero=>rfl
    | succ f=>rw[Rt.mB,zA hin]
   have N:=zD y
   clear J y HT HF
   by_cases hj:0 < j
   ·have g4:¬j < (zL.length:Int):=fun e=>hin ⟨hj,e⟩
    clear hin
    go_wp2_with fail
    go_ret
    exact⟨by rw[A.u];rfl,N.u⟩
   ·clear hin
    go_wp2_with fail
    go_ret
    exact⟨by rw[A.u];rfl,N.u⟩
end Go.Proofs.YthleadfkfnnadaaGreat
