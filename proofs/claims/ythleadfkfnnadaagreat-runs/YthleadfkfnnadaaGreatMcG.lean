/- The program within a machine: Otherwise, GoOn, First. -/
import Derived.Test.YthleadfkfnnadaaGreatMcD
set_option maxHeartbeats 4000000
set_option maxRecDepth 100000
namespace Go.Proofs.YthleadfkfnnadaaGreat
open Go.RowKit
attribute [local go_sem ↓] Go.wp_at_zero Go.wp_at_succ
def zLv (K:Nat) (x:List Int×Int) (w:World) (e:Ending) (w':World):Prop:=e=.returned (.int .i64 x.2)∧(∃sv,zEJ w' K x.1 sv)∧Below K w w'
section
variable (w0 w : World) (M B : Nat) (ty : TypeId) (tail : List Value) (S : Rt.Src) (m : Rt.Mc) (X : McX) (K : Nat) (st : List Int) (sv : Value) (code number : Int) (name : ByteArray)
theorem zOA (h0:McS w0 M B ty tail S m X) (hm:Mok S m) (hb:Below w0.heap.size w0 w) (hK:w0.heap.size≤K) (hs:zEJ w K st sv) (hlen:st.length≤1000) :
  Calls Tryz.prog 207 #[.pointer (some ⟨M,0,none⟩),.pointer (some ⟨K,0,none⟩),.agg #[.int .i64 1,.int .i64 number,.string name]] w (zLv K (st++[number],0) w):=by
 have _u:=And.intro h0 (And.intro hm hK)
 clear _u
 have hKlt:=zJ hs.block
 have hbA:=(Below.refl w.heap.size w).alloc (Nat.le_refl _) (.cells #[.int .i64 1,.int .i64 number,.string name] 236)
 have bO:=heap_alloc_new w (.cells #[.int .i64 1,.int .i64 number,.string name] 236)
 have hs1:=hs.zH hbA
 have hbK:Below K w (w.alloc (.cells #[.int .i64 1,.int .i64 number,.string name] 236)):=hbA.mono (by omega)
 have hb1:Below w0.heap.size w0 (w.alloc (.cells #[.int .i64 1,.int .i64 number,.string name] 236)):=hb.trans (hbA.mono hb.size)
 clear hs hbA
 go_enter Tryz.func207,Tryz.ntmps207
 go_wp2_with fail
 refine(zFW _ K st sv number hs1 (by omega)).mono ?_
 rintro e w2 ⟨rfl,⟨sv2,hs2⟩,hb2⟩
 have HF:=zB (And.intro hs2 (hbK.trans (hb2.below hs1)))
 clear hs1 hs2 hb2 hbK hb1 hb h0 hm bO
 go_wp2_with fail
 go_ret
 exact⟨rfl,⟨_,(zA HF).1⟩,(zA HF).2⟩
theorem zPj (h0:McS w0 M B ty tail S m X) (hm:Mok S m) (hb:Below w0.heap.size w0 w) (hK:w0.heap.size≤K) (hs:zEJ w K st sv) (hlen:st.length≤1000) :
  Calls Tryz.prog 207 #[.pointer (some ⟨M,0,none⟩),.pointer (some ⟨K,0,none⟩),.agg #[.int .i64 2,.int .i64 number,.string name]] w (zLv K (st++[Rt.zCF m (Rt.zB6 S m name)],0) w):=by
 have _u:=And.intro h0 (And.intro hm hK)
 clear _u
 have hKlt:=zJ hs.block
 have hbA:=(Below.refl w.heap.size w).alloc (Nat.le_refl _) (.cells #[.int .i64 2,.int .i64 number,.string name] 236)
 have bO:=heap_alloc_new w (.cells #[.int .i64 2,.int .i64 number,.string name] 236)
 have hs1:=hs.zH hbA
 have hbK:Below K w (w.alloc (.cells #[.int .i64 2,.int .i64 number,.string name] 236)):=hbA.mono (by omega)
 have hb1:Below w0.heap.size w0 (w.alloc (.cells #[.int .i64 2,.int .i64 number,.string name] 236)):=hb.trans (hbA.mono hb.size)
 clear hs hbA
 go_enter Tryz.func207,Tryz.ntmps207
 go_wp2_with fail
 refine(zJ3 _ M B ty tail S m X name (h0.zH hb1) hm).mono ?_
 rintro e w2 ⟨rfl,hq2⟩
 have hs2:=hs1.zH hq2
 have hbK2:=hbK.trans (hq2.mono (B':=K) (by simp;omega))
 have hb2:=hb1.trans (hq2.mono (B':=w0.heap.size) hb1.size)
 clear hs1 hbK hb1 hq2 bO
 generalize Rt.zB6 S m name=sp at *
 have hbF:=(Below.refl w2.heap.size w2).alloc (Nat.le_refl _) (.cells #[.int .i64 sp.line,.int .i64 sp.cell] 160)
 have hs3:=hs2.zH hbF
 have hbK3:=hbK2.trans (hbF.mono (B':=K) (by have:=zJ hs2.block;omega))
 have hb3:=hb2.trans (hbF.mono (B':=w0.heap.size) hb2.size)
 clear hs2 hbK2 hb2 hbF
 go_wp2_with fail
 refine(zMZ _ M B ty tail S m X sp (h0.zH hb3) hm).mono ?_
 rintro e w4 ⟨rfl,hq4⟩
 have hs4:=hs3.zH hq4
 have hbK4:=hbK3.trans (hq4.mono (B':=K) (by have:=zJ hs3.block;omega))
 clear hs3 hbK3 hb3 hq4
 generalize Rt.zCF m sp=gx at *
 go_wp2_with fail
 refine(zFW _ K _ _ gx hs4 (by first | omega | (simp;omega))).mono ?_
 rintro e w9 ⟨rfl,⟨sv9,hs9⟩,hb9⟩
 have HF:=zB (And.intro hs9 (hbK4.trans (hb9.below hs4)))
 clear hs4 hs9 hb9 hbK4 hb h0 hm
 go_wp2_with fail
 go_ret
 exact⟨rfl,⟨_,(zA HF).1⟩,(zA HF).2⟩
theorem work_cell (h0:McS w0 M B ty tail S m X) (hm:Mok S m) (hb:Below w0.heap.size w0 w) (hK:w0.heap.size≤K) (hs:zEJ w K st sv) (hlen:st.length≤1000) (x:List Int×Int) (hx:x=match Rt.zBW S m name (st.getLastD 0)with | none=>(st.dropLast,3)| some s=>(st.dropLast++[Rt.zCF m s],0)) :
  Calls Tryz.prog 207 #[.pointer (some ⟨M,0,none⟩),.pointer (some ⟨K,0,none⟩),.agg #[.int .i64 3,.int .i64 number,.string name]] w (zLv K x w):=by
 have _u:=And.intro h0 (And.intro hm hK)
 clear _u
 have hKlt:=zJ hs.block
 have hbA:=(Below.refl w.heap.size w).alloc (Nat.le_refl _) (.cells #[.int .i64 3,.int .i64 number,.string name] 236)
 have bO:=heap_alloc_new w (.cells #[.int .i64 3,.int .i64 number,.string name] 236)
 have hs1:=hs.zH hbA
 have hbK:Below K w (w.alloc (.cells #[.int .i64 3,.int .i64 number,.string name] 236)):=hbA.mono (by omega)
 have hb1:Below w0.heap.size w0 (w.alloc (.cells #[.int .i64 3,.int .i64 number,.string name] 236)):=hb.trans (hbA.mono hb.size)
 clear hs hbA
 have HX:=zB hx
 clear hx
 go_enter Tryz.func207,Tryz.ntmps207
 go_wp2_with fail
 refine(zHG _ K st _ hs1 (by first | omega | (simp <;> omega))).mono ?_
 rintro e w2 ⟨rfl,⟨sv2,hs2⟩,hqf2⟩
 have hq2:=hqf2.below hs1
 have hbK2:=hbK.trans hq2
 have hb2:=hb1.trans (hq2.mono (B':=w0.heap.size) hK)
 have bO2:w2.heap[w.heap.size]?=some (.cells #[.int .i64 3,.int .i64 number,.string name] 236 (0,0)):=hqf2.other hs1 bO (by decide) (by decide)
 have k2:=zC bO2 2 (by simp)
 simp at k2
 have hsl:st.dropLast.length≤1000:=by simp;omega
 clear hs1 hbK hb1 hq2 bO bO2 hqf2
 generalize st.getLastD 0=idx at *
 generalize st.dropLast=st2 at *
 go_wp2_with fail
 refine(zLU _ M B ty tail S m X name idx (h0.zH hb2) hm).mono ?_
 rintro e w3 ⟨rfl,hq3⟩
 have hs3:=hs2.zH hq3
 have hbK3:=hbK2.trans (hq3.mono (B':=K) (by have:=zJ hs2.block;omega))
 have hb3:=hb2.trans (hq3.mono (B':=w0.heap.size) hb2.size)
 clear hs2 hbK2 hb2 hq3
 cases hc:Rt.zBW S m name idx with
 | none=>
  have HY:=zB (show x=(st2,3) by rw[zA HX,hc])
  have hbF:=(Below.refl w3.heap.size w3).alloc (Nat.le_refl _) (.cells #[.int .i64 0,.int .i64 0] 160)
  have HF:=zB (And.intro (hs3.zH hbF) (hbK3.trans (hbF.mono (B':=K) (by have:=zJ hs3.block;omega))))
  clear hs3 hbK3 hb3 hb h0 hm hc hbF
  simp only[cellR]
  go_wp2_with fail
  go_ret
  rw[zA HY]
  exact⟨rfl,⟨_,(zA HF).1⟩,(zA HF).2⟩
 | some sp=>
  have HY:=zB (show x=(st2++[Rt.zCF m sp],0) by rw[zA HX,hc])
  clear hc
  simp only[cellR]
  have hbF:=(Below.refl w3.heap.size w3).alloc (Nat.le_refl _) (.cells #[.int .i64 sp.line,.int .i64 sp.cell] 160)
  have hs4:=hs3.zH hbF
  have hbK4:=hbK3.trans (hbF.mono (B':=K) (by have:=zJ hs3.block;omega))
  have hb4:=hb3.trans (hbF.mono (B':=w0.heap.size) hb3.size)
  clear hs3 hbK3 hb3 hbF
  go_wp2_with fail
  refine(zMZ _ M B ty tail S m X sp (h0.zH hb4) hm).mono ?_
  rintro e w5 ⟨rfl,hq5⟩
  have hs5:=hs4.zH hq5
  have hbK5:=hbK4.trans (hq5.mono (B':=K) (by have:=zJ hs4.block;omega))
  clear hs4 hbK4 hb4 hq5
  generalize Rt.zCF m sp=gx at *
  go_wp2_with fail
  refine(zFW _ K _ _ gx hs5 (by first | omega | (simp;omega))).mono ?_
  rintro e w9 ⟨rfl,⟨sv9,hs9⟩,hb9⟩
  have HF:=zB (And.intro hs9 (hbK5.trans (hb9.below hs5)))
  clear hs5 hs9 hb9 hbK5 hb h0 hm
  go_wp2_with fail
  go_ret
  rw[zA HY]
  exact⟨rfl,⟨_,(zA HF).1⟩,(zA HF).2⟩
theorem work_neg (h0:McS w0 M B ty tail S m X) (hm:Mok S m) (hb:Below w0.heap.size w0 w) (hK:w0.heap.size≤K) (hs:zEJ w K st sv) (hlen:st.length≤1000) :
  Calls Tryz.prog 207 #[.pointer (some ⟨M,0,none⟩),.pointer (some ⟨K,0,none⟩),.agg #[.int .i64 4,.int .i64 number,.string name]] w (zLv K (st.dropLast++[wrap64 (-(st.getLastD 0))],0) w):=by
 have _u:=And.intro h0 (And.intro hm hK)
 clear _u
 have hKlt:=zJ hs.block
 have hbA:=(Below.refl w.heap.size w).alloc (Nat.le_refl _) (.cells #[.int .i64 4,.int .i64 number,.string name] 236)
 have bO:=heap_alloc_new w (.cells #[.int .i64 4,.int .i64 number,.string name] 236)
 have hs1:=hs.zH hbA
 have hbK:Below K w (w.alloc (.cells #[.int .i64 4,.int .i64 number,.string name] 236)):=hbA.mono (by omega)
 have hb1:Below w0.heap.size w0 (w.alloc (.cells #[.int .i64 4,.int .i64 number,.string name] 236)):=hb.trans (hbA.mono hb.size)
 clear hs hbA
 go_enter Tryz.func207,Tryz.ntmps207
 go_wp2_with fail
 refine(zHG _ K st _ hs1 (by first | omega | (simp <;> omega))).mono ?_
 rintro e w2 ⟨rfl,⟨sv2,hs2⟩,hqf2⟩
 have hq2:=hqf2.below hs1
 have hbK2:=hbK.trans hq2
 have hb2:=hb1.trans (hq2.mono (B':=w0.heap.size) hK)
 have hsl:st.dropLast.length≤1000:=by simp;omega
 clear hs1 hbK hb1 hq2 bO hb2
 generalize st.getLastD 0=idx at *
 generalize st.dropLast=st2 at *
 go_wp2_with fail
 refine(zFW _ K _ _ (wrap64 (-idx)) hs2 (by omega)).mono ?_
 rintro e w9 ⟨rfl,⟨sv9,hs9⟩,hb9⟩
 have HF:=zB (And.intro hs9 (hbK2.trans (hb9.below hs2)))
 clear hs2 hs9 hb9 hbK2 hb h0 hm
 go_wp2_with fail
 go_ret
 exact⟨rfl,⟨_,(zA HF).1⟩,(zA HF).2⟩
theorem work_two (h0:McS w0 M B ty tail S m X) (hm:Mok S m) (hb:Below w0.heap.size w0 w) (hK:w0.heap.size≤K) (hs:zEJ w K st sv) (hlen:st.length≤1000) (h1:¬code=1) (h2:¬code=2) (h3:¬code=3) (h4:¬code=4) (x:List Int×Int) (hx:x=if (Rt.zw code (st.dropLast.getLastD 0) (st.getLastD 0)).2=0 then (st.dropLast.dropLast++[(Rt.zw code (st.dropLast.getLastD 0) (st.getLastD 0)).1],0)else (st.dropLast.dropLast,(Rt.zw code (st.dropLast.getLastD 0) (st.getLastD 0)).2)) :
  Calls Tryz.prog 207 #[.pointer (some ⟨M,0,none⟩),.pointer (some ⟨K,0,none⟩),.agg #[.int .i64 code,.int .i64 number,.string name]] w (zLv K x w):=by
 have _u:=And.intro h0 (And.intro hm hK)
 clear _u
 have hKlt:=zJ hs.block
 have hbA:=(Below.refl w.heap.size w).alloc (Nat.le_refl _) (.cells #[.int .i64 code,.int .i64 number,.string name] 236)
 have bO:=heap_alloc_new w (.cells #[.int .i64 code,.int .i64 number,.string name] 236)
 have hs1:=hs.zH hbA
 have hbK:Below K w (w.alloc (.cells #[.int .i64 code,.int .i64 number,.string name] 236)):=hbA.mono (by omega)
 have hb1:Below w0.heap.size w0 (w.alloc (.cells #[.int .i64 code,.int .i64 number,.string name] 236)):=hb.trans (hbA.mono hb.size)
 clear hs hbA
 have HX:=zB hx
 clear hx
 have b1:(code==1)=false:=by rw[beq_eq_false_iff_ne];exact h1
 have b2:(code==2)=false:=by rw[beq_eq_false_iff_ne];exact h2
 have b3:(code==3)=false:=by rw[beq_eq_false_iff_ne];exact h3
 have b4:(code==4)=false:=by rw[beq_eq_false_iff_ne];exact h4
 clear h1 h2 h3 h4
 go_enter Tryz.func207,Tryz.ntmps207
 go_wp2_with fail
 refine(zHG _ K st _ hs1 (by first | omega | (simp <;> omega))).mono ?_
 rintro e w2 ⟨rfl,⟨sv2,hs2⟩,hqf2⟩
 have hq2:=hqf2.below hs1
 have hbK2:=hbK.trans hq2
 have hb2:=hb1.trans (hq2.mono (B':=w0.heap.size) hK)
 have bO2:w2.heap[w.heap.size]?=some (.cells #[.int .i64 code,.int .i64 number,.string name] 236 (0,0)):=hqf2.other hs1 bO (by decide) (by decide)
 have hsl:st.dropLast.length≤1000:=by simp;omega
 clear hs1 hbK hb1 hq2 bO
 generalize st.getLastD 0=rx at *
 generalize st.dropLast=st2 at *
 go_wp2_with fail
 refine(zHG _ K st2 _ hs2 (by first | omega | (simp <;> omega))).mono ?_
 rintro e w3 ⟨rfl,⟨sv3,hs3⟩,hqf3⟩
 have hq3:=hqf3.below hs2
 have hbK3:=hbK2.trans hq3
 have hb3:=hb2.trans (hq3.mono (B':=w0.heap.size) hK)
 have bO3:w3.heap[w.heap.size]?=some (.cells #[.int .i64 code,.int .i64 number,.string name] 236 (0,0)):=hqf3.other hs2 bO2 (by decide) (by decide)
 have k0:=zC bO3 0 (by simp)
 simp at k0
 have hsl2:st2.dropLast.length≤1000:=by simp;omega
 clear hs2 hbK2 hb2 hq3 bO2 bO3 hqf2 hqf3 hb3
 generalize st2.getLastD 0=lx at *
 generalize st2.dropLast=st3 at *
 go_wp2_with fail
 refine(zNr _ code lx rx).mono ?_
 rintro e w4 ⟨rfl,rfl⟩
 generalize (Rt.zw code lx rx).1=cv at *
 generalize (Rt.zw code lx rx).2=ct at *
 by_cases hct:ct=0
 ·subst hct
  have HY:=zB (show x=(st3++[cv],0) by rw[zA HX,if_pos rfl])
  go_wp2_with fail
  refine(zFW _ K _ _ cv hs3 (by omega)).mono ?_
  rintro e w9 ⟨rfl,⟨sv9,hs9⟩,hb9⟩
  have HF:=zB (And.intro hs9 (hbK3.trans (hb9.below hs3)))
  clear hs3 hs9 hb9 hbK3 hb h0 hm
  go_wp2_with fail
  go_ret
  rw[zA HY]
  exact⟨rfl,⟨_,(zA HF).1⟩,(zA HF).2⟩
 ·have HY:=zB (show x=(st3,ct) by rw[zA HX,if_neg hct])
  have bc:(ct==0)=false:=by rw[beq_eq_false_iff_ne];exact hct
  have HF:=zB (And.intro hs3 hbK3)
  clear hs3 hbK3 hb h0 hm hct
  go_wp2_with fail
  go_ret
  rw[zA HY]
  exact⟨rfl,⟨_,(zA HF).1⟩,(zA HF).2⟩
end
theorem work_any (w0 w:World) (M B:Nat) (ty:TypeId) (tail:List Value) (S:Rt.Src) (m:Rt.Mc) (X:McX) (K:Nat) (st:List Int) (sv:Value) (o:Pop) (h0:McS w0 M B ty tail S m X) (hm:Mok S m) (hb:Below w0.heap.size w0 w) (hK:w0.heap.size≤K) (hs:zEJ w K st sv) (hlen:st.length≤1000) :
  Calls Tryz.prog 207 #[.pointer (some ⟨M,0,none⟩),.pointer (some ⟨K,0,none⟩),.agg #[.int .i64 o.code,.int .i64 o.number,.string o.name]] w (zLv K (Rt.workI S m st o) w):=by
 obtain⟨code,number,name⟩:=o
 by_cases h1:code=1
 ·subst h1
  exact zOA w0 w M B ty tail S m X K st sv number name h0 hm hb hK hs hlen
 by_cases h2:code=2
 ·subst h2
  exact zPj w0 w M B ty tail S m X K st sv number name h0 hm hb hK hs hlen
 by_cases h3:code=3
 ·subst h3
  exact work_cell w0 w M B ty tail S m X K st sv number name h0 hm hb hK hs hlen _ rfl
 by_cases h4:code=4
 ·subst h4
  exact work_neg w0 w M B ty tail S m X K st sv number name h0 hm hb hK hs hlen
 refine work_two w0 w M B ty tail S m X K st sv code number name h0 hm hb hK hs hlen h1 h2 h3 h4 _ ?_
 unfold Rt.workI
 simp only
 rw[if_neg h1,if_neg h2,if_neg h3,if_neg h4]
theorem zPk (S:Rt.Src) (m:Rt.Mc) (st:List Int) (o:Pop):(Rt.workI S m st o).1.length≤st.length+1:=by
 unfold Rt.workI
 split
 ·simp
 ·split
  ·simp
  ·split
   ·split <;> simp <;> omega
   ·split
    ·simp <;> omega
    ·simp only
     split <;> simp <;> omega
theorem zFD (w:World) (M B:Nat) (ty:TypeId) (tail:List Value) (S:Rt.Src) (m:Rt.Mc) (X:McX) (BB:Nat) (ad:Option Addr) (cap:Nat) (ops:List Pop) (h:McS w M B ty tail S m X) (hm:Mok S m) (hx:w.ownsRow BB 236 3 (.slice ad ops.length cap) ops.length (zAB ops)) (hops:ops.length≤900) :
  Calls Tryz.prog 182 #[.pointer (some ⟨M,0,none⟩),.agg #[.slice ad ops.length cap]] w fun e w'=>e=.returned (.tuple #[.int .i64 (Rt.zN S m ops).1,.int .i64 (Rt.zN S m ops).2])∧Below w.heap.size w w':=by
 have hb0:=((Below.refl w.heap.size w).alloc (Nat.le_refl _) (.cells #[.slice ad ops.length cap] 140)).alloc (by simp) (.cells #[.slice none 0 0] 232)
 have bE:=zV (heap_alloc_new w (.cells #[.slice ad ops.length cap] 140)) (.cells #[.slice none 0 0] 232)
 have bK:=zAG w (.cells #[.slice ad ops.length cap] 140) (.cells #[.slice none 0 0] 232)
 have hs0:zEJ ((w.alloc (.cells #[.slice ad ops.length cap] 140)).alloc (.cells #[.slice none 0 0] 232)) (w.heap.size+1) [] (.slice none 0 0):=⟨bK,World.ownsRow_nil _ _ _ _⟩
 have HH:=zB (And.intro h hx)
 clear h hx
 go_enter Tryz.func182,Tryz.ntmps182
 go_wp2_with fail
 go_loopw [7,8] (fun i _ wr=>∃(k:Nat) (st:List Int) (sv:Value),k≤ops.length∧i=.int .i64 k∧st.length≤k∧Rt.evalI S m (ops.drop k) st=Rt.zN S m ops∧zEJ wr (w.heap.size+1) st sv∧wr.heap[w.heap.size]?=some (.cells #[.slice ad ops.length cap] 140 (0,0))∧Below w.heap.size w wr)
  (fun i _ _=>ops.length-(intOf i).toNat)
 case atStart=>exact⟨0,[],_,Nat.zero_le _,rfl,by simp,rfl,hs0,bE,hb0⟩
 case round=>
  clear hs0 bE hb0 bK
  obtain⟨k,st,sv,hk,rfl,hst,hT,hs,hE,hbe⟩:=hrel
  have cE:=zC hE 0 (by simp)
  simp at cE
  have hElt:=zJ hE
  have HT:=zB hT
  clear hT
  by_cases hlt:k < ops.length
  ·obtain⟨g,hg,o0,o1,o2⟩:=zLO (zZ (zA HH).2 hbe) hlt
   subst hg
   have hlt':(k:Int) < (ops.length:Int):=by omega
   have hk0:(0:Int)≤(k:Int):=by omega
   have HN:=zB (show Rt.zN S m ops=if (Rt.workI S m st ops[k]).2=0 then Rt.evalI S m (ops.drop (k+1)) (Rt.workI S m st ops[k]).1 else (0,(Rt.workI S m st ops[k]).2) by rw[←zA HT,List.drop_eq_getElem_cons hlt,Rt.evalI])
   have hwl:=zPk S m st ops[k]
   have HW:=zB (work_any w wr M B ty tail S m X (w.heap.size+1) st sv ops[k] (zA HH).1 hm hbe (by omega) hs (by omega))
   have HX:=zB (And.intro hs (And.intro hE hbe))
   clear hs hE hbe HT
   generalize Rt.workI S m st ops[k]=y at *
   generalize ops[k]=o at *
   go_wp2_with fail
   refine(zA HW).mono ?_
   rintro e w2 ⟨rfl,⟨sv2,hs2⟩,hb2⟩
   obtain⟨hs,hE,hbe⟩:=zA HX
   have hE2:w2.heap[w.heap.size]?=some (.cells #[.slice (some ⟨g,0,none⟩) ops.length cap] 140 (0,0)):=by rw[hb2.block w.heap.size (by omega)];exact hE
   have hbe2:=hbe.trans (hb2.mono (B':=w.heap.size) (by omega))
   have HF:=zB (And.intro hs2 (And.intro hE2 hbe2))
   clear hs2 hb2 hs hE hbe hE2 hbe2 HW HX
   obtain⟨st2,tr⟩:=y
   simp only at HN hwl HF ⊢
   by_cases htr:tr=0
   ·subst htr
    have HN2:=zB ((zA HN).trans (if_pos rfl))
    clear HN
    go_wp2_with fail
    go_roundw
    case rel=>
     obtain⟨q1,q2,q3⟩:=zA HF
     exact⟨k+1,st2,_,by omega,by go_num,by omega,(zA HN2).symm,q1,q2,q3⟩
    case measure=>simp[intOf];omega
   ·have HN2:=zB ((zA HN).trans (if_neg htr))
    have btr:(tr != 0)=true:=by simpa using htr
    clear HN htr
    go_wp2_with fail
    go_ret2
    exact⟨by rw[zA HN2];rfl,(zA HF).2.2⟩
  ·have hlt':¬(k:Int) < (ops.length:Int):=by omega
   have HN:=zB (show Rt.zN S m ops=(st.getLastD 0,0) by rw[←zA HT,List.drop_eq_nil_of_le (by omega),Rt.evalI])
   have HB:=zB hbe
   clear HT hE hbe
   go_wp2_with fail
   refine(zHG _ _ st sv hs (by omega)).mono ?_
   rintro e w2 ⟨rfl,_,hf2⟩
   have HF:=zB ((zA HB).trans ((hf2.below hs).mono (B':=w.heap.size) (by omega)))
   clear hf2 hs
   generalize st.getLastD 0=gv at *
   go_wp2_with fail
   go_ret2
   exact⟨by rw[zA HN];rfl,zA HF⟩
theorem zF3 (w:World) (M B:Nat) (ty:TypeId) (tail:List Value) (S:Rt.Src) (m:Rt.Mc) (X:McX) (BB:Nat) (fm:Rt.zAU) (a1 a2 a3:Option Addr) (c1 c2 c3:Nat) (h:McS w M B ty tail S m X) (hm:Mok S m) (hf:zAd w BB #[.int .i64 fm.kind,.string fm.name,.int .i64 fm.cells,.slice a1 fm.params.length c1,.slice a2 fm.index.length c2,.slice a3 fm.values.length c3] fm) (hsm:Rt.Small fm) (hops:∀o∈fm.values,o.length≤900) :
  Calls Tryz.prog 180 #[.pointer (some ⟨M,0,none⟩),.agg #[.int .i64 fm.kind,.string fm.name,.int .i64 fm.cells,.slice a1 fm.params.length c1,.slice a2 fm.index.length c2,.slice a3 fm.values.length c3]] w fun e w'=>e=.returned (.tuple #[.int .i64 (Rt.zBR S m fm).1,.int .i64 (Rt.zBR S m fm).2])∧Below w.heap.size w w':=by
 have _u:=hsm
 clear _u
 have hb0:=(Below.refl w.heap.size w).alloc (Nat.le_refl _) (.cells #[.int .i64 fm.kind,.string fm.name,.int .i64 fm.cells,.slice a1 fm.params.length c1,.slice a2 fm.index.length c2,.slice a3 fm.values.length c3] 143)
 have hA:=h.zH hb0
 obtain⟨pv,iv,vv,vs,hfe,_,_,b3,b4⟩:=hf
 have hvv:vv=.slice a3 fm.values.length c3:=by simp at hfe;exact hfe.2.2.symm
 subst hvv
 have b3':=zZ b3 hb0
 have bF:=heap_alloc_new w (.cells #[.int .i64 fm.kind,.string fm.name,.int .i64 fm.cells,.slice a1 fm.params.length c1,.slice a2 fm.index.length c2,.slice a3 fm.values.length c3] 143)
 clear h hfe
 by_cases h0:fm.values.length=0
 ·have HE:=zB (show Rt.zBR S m fm=(0,0) by unfold Rt.zBR;rw[List.eq_nil_of_length_eq_zero h0])
  have hz:((fm.values.length:Int)==0)=true:=by simpa using h0
  have HB:=zB hb0
  clear hA b3 b3' b4 bF hb0 hm hsm hops h0
  go_enter Tryz.func180,Tryz.ntmps180
  go_wp2_with fail
  go_ret2
  exact⟨by rw[zA HE];rfl,zA HB⟩
 ·have hz:((fm.values.length:Int)==0)=false:=by rw[beq_eq_false_iff_ne];omega
  have hpos:(0:Int) < (fm.values.length:Int):=by omega
  obtain⟨o,os,hvs⟩:∃o os,fm.values=o::os:=by
   cases hv:fm.values with
   | nil=>rw[hv]at h0;simp at h0
   | cons o os=>exact⟨o,os,rfl⟩
  have HE:=zB (show Rt.zBR S m fm=Rt.zN S m o by unfold Rt.zBR;rw[hvs])
  have hol:=hops o (by rw[hvs];exact List.mem_cons_self ..)
  obtain⟨x,xs,hx,hxo⟩:∃x xs,vs=x::xs∧w.ownsRow BB 236 3 x o.length (zAB o):=by
   rw[hvs]at b4
   cases vs with
   | nil=>exact b4.elim
   | cons x xs=>exact⟨x,xs,rfl,b4.1⟩
  obtain⟨xad,xcap,rfl⟩:=zE hxo
  subst hx
  obtain⟨g,gcap,hgv,_,_,ca⟩:=zW b3' (j:=0) (u:=.slice xad o.length xcap) rfl
  injection hgv with e1 _ e2
  subst e1 e2
  have hxo':=zZ hxo hb0
  have HV:=zB (zFD _ M B ty tail S m X BB xad xcap o hA hm hxo' hol)
  have HB:=zB hb0
  clear hA b3 b3' b4 hb0 hm hsm hops h0 hxo hxo' hvs
  generalize fm.values.length=vl at *
  go_enter Tryz.func180,Tryz.ntmps180
  go_wp2_with fail
  refine(zA HV).mono ?_
  rintro e w2 ⟨rfl,hb2⟩
  have HF:=zB ((zA HB).trans (hb2.mono (B':=w.heap.size) (by simp)))
  clear hb2 HV HB
  generalize Rt.zN S m o=y at *
  obtain⟨y1,y2⟩:=y
  go_wp2_with fail
  go_ret2
  exact⟨by rw[zA HE];rfl,zA HF⟩
theorem zK3 (w:World) (P B:Nat) (pls:List Rt.PL) (lk:Rt.Lks) (lv:Value) (cs:List (List Value)) (n:Int) (h:zB5 w P B pls lk lv cs) :
  Calls Tryz.prog 183 #[.pointer (some ⟨P,0,none⟩),.int .i64 n] w fun e w'=>e=.returned (.int .i64 (Rt.zBj lk n))∧Below w.heap.size w w':=by
 go_enter Tryz.func183,Tryz.ntmps183
 go_wp2_with fail
 refine(zF0 _ _ _ _ _ _ _ n h).mono ?_
 rintro e w1 ⟨a0,a1,a2,a3,k0,k1,k2,k3,rfl,_,_,hb⟩
 have HO:=zB (show Rt.zBj lk n=if 0 < (Rt.zAy lk n).1 then wrap64 ((Rt.zAy lk n).1+1)else wrap64 ((Rt.zAy lk n).2+1)from rfl)
 generalize (Rt.zAy lk n).1=xe at *
 generalize (Rt.zAy lk n).2=xf at *
 generalize Rt.zd pls n=pl at *
 have hbF:=hb.alloc hb.size (.cells #[.slice a0 pl.zf.length k0,.int .i64 pl.form.kind,.string pl.form.name,.int .i64 pl.form.cells,.slice a1 pl.form.params.length k1,.slice a2 pl.form.index.length k2,.slice a3 pl.form.values.length k3,.int .i64 pl.depth,.int .i64 pl.opener,.int .i64 xe,.int .i64 xf,.int .i64 pl.proc] 145)
 have HB:=zB hbF
 clear h hb hbF
 by_cases hx:0 < xe
 ·have HE:=zB ((zA HO).trans (if_pos hx))
  clear HO
  go_wp2_with fail
  go_ret
  exact⟨by rw[zA HE];rfl,zA HB⟩
 ·have HE:=zB ((zA HO).trans (if_neg hx))
  clear HO
  go_wp2_with fail
  go_ret
  exact⟨by rw[zA HE];rfl,zA HB⟩
def zLy (pls:List Rt.PL) (lk:Rt.Lks):Prop:=∀(n:Nat) (p:Rt.PL),pls[n]?=some p→p.form.kind=6→(n:Int)≤(Rt.zAy lk p.opener).2∧(Rt.zAy lk p.opener).2≤200
namespace Rt
theorem zLf (pls:List PL) (lk:Lks) (f:Nat) (n:Int):goOn pls lk (f+1) n=if 0 < n∧n < pls.length then (if zAK pls (zB7 pls n)=true then n else if (zB7 pls n).form.kind=4∧(zT pls (zB7 pls n).opener).kind=7 then (zB7 pls n).opener else if (zB7 pls n).form.kind=6 then goOn pls lk f (wrap64 ((zAy lk (zB7 pls n).opener).2+1))else goOn pls lk f (wrap64 (n+1)))else 0:=rfl
end Rt
theorem zNe (w:World) (P B:Nat) (pls:List Rt.PL) (lk:Rt.Lks) (lv:Value) (cs:List (List Value)) (n:Int) (h:zB5 w P B pls lk lv cs) (hlen:pls.length≤101) (hfw:zLy pls lk) (hn:-9223372036854775808≤n∧n≤9223372036854775807) :
  Calls Tryz.prog 92 #[.pointer (some ⟨P,0,none⟩),.int .i64 n] w fun e w'=>e=.returned (.int .i64 (Rt.goOn pls lk 102 n))∧Below w.heap.size w w':=by
 obtain⟨ad,cap,hlv,cP⟩:=h.zEV
 have HH:=zB h
 have HFW:=zB hfw
 clear h hfw
 go_enter Tryz.func92,Tryz.ntmps92
 go_wp2_with fail
 go_loopw [1,5,6] (fun i _ _ wr=>∃(j:Int) (f:Nat),i=.int .i64 j∧-9223372036854775808≤j∧j≤9223372036854775807∧(pls.length:Int) < f+max j 0+1∧Rt.goOn pls lk f j=Rt.goOn pls lk 102 n∧Below w.heap.size w wr)
  (fun i _ _ _=>(pls.length+1-max (intOf i) 0).toNat)
 case atStart=>exact⟨n,102,rfl,hn.1,hn.2,by omega,rfl,Below.refl _ _⟩
 case round=>
  obtain⟨j,f,rfl,hj1,hj2,hf,hT,hbe⟩:=hrel
  have hpr:=(zA HH).zH hbe
  have cP':=cell_later hbe cP
  have HT:=zB hT
  have HF:=zB hf
  clear hT hf cP
  by_cases hin:0 < j∧j < pls.length
  ·obtain⟨k,rfl⟩:=Int.eq_ofNat_of_zero_le (show 0≤j by omega)
   have hlt:k < pls.length:=by omega
   have hlt':(k:Int) < (pls.length:Int):=by omega
   have hk0:(0:Int) < (k:Int):=hin.1
   have hk0':(0:Int)≤(k:Int):=by omega
   obtain⟨f',rfl⟩:∃f',f=f'+1:=⟨f-1,by have:=zA HF;omega⟩
   obtain⟨g,cap',a0,a1,a2,a3,e0,e1,e2,e3,xe,xf,hlv',hglt,⟨d0,d1,d2,d3,d4,d5,d6,d7,d8,d9,d10,d11⟩,_,_⟩:=hpr.at hlt
   have hlv2:=hlv.symm.trans hlv'
   injection hlv2 with e1 _ e2
   subst e1 e2
   have HST:=zB ((zA HT).symm.trans (Rt.zLf pls lk f' k))
   have hln:Rt.zB7 pls (k:Int)=pls[k]:=Rt.zD6 hlt
   rw[hln,if_pos hin]at HST
   have hfwk:=zA HFW k pls[k] (List.getElem?_eq_getElem hlt)

   clear hlv' hln hin HT
   have HPI:Hid (Rt.zd pls (k:Int)=pls[k]):=zB (Rt.zD6 hlt)
   generalize pls[k]=p at *
   have hbA:=(Below.refl wr.heap.size wr).alloc (Nat.le_refl _) (.cells #[.slice a0 p.zf.length e0,.int .i64 p.form.kind,.string p.form.name,.int .i64 p.form.cells,.slice a1 p.form.params.length e1,.slice a2 p.form.index.length e2,.slice a3 p.form.values.length e3,.int .i64 p.depth,.int .i64 p.opener,.int .i64 xe,.int .i64 xf,.int .i64 p.proc] 145)
   have bA:=heap_alloc_new wr (.cells #[.slice a0 p.zf.length e0,.int .i64 p.form.kind,.string p.form.name,.int .i64 p.form.cells,.slice a1 p.form.params.length e1,.slice a2 p.form.index.length e2,.slice a3 p.form.values.length e3,.int .i64 p.depth,.int .i64 p.opener,.int .i64 xe,.int .i64 xf,.int .i64 p.proc] 145)
   have hprA:=hpr.zH hbA
   have hbeA:=hbe.trans (hbA.mono (B':=w.heap.size) hbe.size)
   clear hpr hbe hbA
   go_wp2_with fail
   refine(isStop_m _ _ _ _ _ _ _ (k:Int) hprA).mono ?_
   rintro e w2 ⟨rfl,hb2⟩
   rw[zA HPI]
   have hpr2:=hprA.zH hb2
   have hbe2:=hbeA.trans (hb2.mono (B':=w.heap.size) hbeA.size)
   have bA2:=zK bA hb2
   clear hprA hbeA hb2 bA
   cases hst:Rt.zAK pls p with
   | true=>
    have HE:=zB ((zA HST).trans (if_pos hst))
    have HB:=zB hbe2
    clear HST hst hpr2 hbe2 bA2 hfwk
    go_wp2_with fail
    go_ret
    exact⟨by rw[zA HE];rfl,zA HB⟩
   | false=>
    have HS2:=zB ((zA HST).trans (if_neg (by rw[hst];simp)))
    clear HST hst
    have q1:=zC bA2 1 (by simp)
    have q8:=zC bA2 8 (by simp)
    simp only[List.getElem_toArray,List.getElem_cons_succ,List.getElem_cons_zero]at q1 q8
    go_wp2_with fail
    refine(zF0 _ _ _ _ _ _ _ p.opener hpr2).mono ?_
    rintro e w3 ⟨b0,b1,b2,b3,f0,f1,f2,f3,rfl,_,_,hb3⟩
    have HFo:=zB (Rt.zCX pls p.opener)
    generalize Rt.zd pls p.opener=po at *
    generalize HLK1:(Rt.zAy lk p.opener).1=ye at *
    generalize HLK2:(Rt.zAy lk p.opener).2=yf at *
    have hb4:=(Below.refl w3.heap.size w3).alloc (Nat.le_refl _) (.cells #[.slice b0 po.zf.length f0,.int .i64 po.form.kind,.string po.form.name,.int .i64 po.form.cells,.slice b1 po.form.params.length f1,.slice b2 po.form.index.length f2,.slice b3 po.form.values.length f3,.int .i64 po.depth,.int .i64 po.opener,.int .i64 ye,.int .i64 yf,.int .i64 po.proc] 145)
    have bB4:=heap_alloc_new w3 (.cells #[.slice b0 po.zf.length f0,.int .i64 po.form.kind,.string po.form.name,.int .i64 po.form.cells,.slice b1 po.form.params.length f1,.slice b2 po.form.index.length f2,.slice b3 po.form.values.length f3,.int .i64 po.depth,.int .i64 po.opener,.int .i64 ye,.int .i64 yf,.int .i64 po.proc] 145)
    have bA4:=zK (zK bA2 hb3) hb4
    have r1:=zC bA4 1 (by simp)
    have r8:=zC bA4 8 (by simp)
    simp only[List.getElem_toArray,List.getElem_cons_succ,List.getElem_cons_zero]at r1 r8
    have hbe4:=(hbe2.trans (hb3.mono (B':=w.heap.size) hbe2.size)).trans (hb4.mono (B':=w.heap.size) (by have:=hbe2.size;have:=hb3.size;omega))
    have HB:=zB hbe4
    have hLne:¬wr.heap.size=w3.heap.size:=by have:=zJ (zK bA2 hb3);omega
    clear hpr2 hbe2 bA2 hb3 hb4 bB4 bA4 hbe4 q1 q8
    generalize p.opener=op at *
    generalize p.form.kind=kx at *
    have HKO:=zB (show (Rt.zT pls op).kind=po.form.kind by rw[zA HFo])
    rw[zA HKO]at HS2
    generalize po.form.kind=ko at *
    by_cases h4:kx=4
    ·subst h4
     by_cases h7:ko=7
     ·subst h7
      have HE:=zB ((zA HS2).trans (if_pos ⟨rfl,rfl⟩))
      clear HS2 hfwk
      go_wp2_with fail
      go_ret
      exact⟨by rw[zA HE];rfl,zA HB⟩
     ·have b7:(ko==7)=false:=by rw[beq_eq_false_iff_ne];exact h7
      have HE:=zB (((zA HS2).trans (if_neg (fun e=>h7 e.2))).trans (if_neg (by omega)))
      have hwk:IntKind.i64.wrap ((k:Int)+1)=(k:Int)+1:=by rw[IntWalk.i64_left,IntWalk.wrap64_in _ (by omega)]
      clear HS2 hfwk h7
      go_wp2_with fail
      go_roundw
      case rel=>
       have hf:=zA HF
       refine⟨(k:Int)+1,f',by go_num,by omega,by omega,by omega,?_,zA HB⟩
       have:=zA HE
       rw[IntWalk.wrap64_in _ (by omega)]at this
       exact this.symm
      case measure=>simp[intOf];omega
    ·have b4:(kx==4)=false:=by rw[beq_eq_false_iff_ne];exact h4
     by_cases h6:kx=6
     ·subst h6
      have hfw2:=hfwk rfl
      have HE:=zB (((zA HS2).trans (if_neg (fun e=>h4 e.1))).trans (if_pos rfl))
      have hwk:IntKind.i64.wrap (yf+1)=yf+1:=by rw[IntWalk.i64_left,IntWalk.wrap64_in _ (by omega)]
      clear HS2 hfwk
      go_wp2_with fail
      go_roundw
      case rel=>
       have hf:=zA HF
       refine⟨yf+1,f',by go_num,by omega,by omega,by omega,?_,zA HB⟩
       have:=zA HE
       rw[IntWalk.wrap64_in _ (by omega)]at this
       exact this.symm
      case measure=>simp[intOf];omega
     ·have b6:(kx==6)=false:=by rw[beq_eq_false_iff_ne];exact h6
      have HE:=zB (((zA HS2).trans (if_neg (fun e=>h4 e.1))).trans (if_neg h6))
      have hwk:IntKind.i64.wrap ((k:Int)+1)=(k:Int)+1:=by rw[IntWalk.i64_left,IntWalk.wrap64_in _ (by omega)]
      clear HS2 hfwk h4 h6
      go_wp2_with fail
      go_roundw
      case rel=>
       have hf:=zA HF
       refine⟨(k:Int)+1,f',by go_num,by omega,by omega,by omega,?_,zA HB⟩
       have:=zA HE
       rw[IntWalk.wrap64_in _ (by omega)]at this
       exact this.symm
      case measure=>simp[intOf];omega
  ·have HE:Hid (Rt.goOn pls lk 102 n=0):=by
    refine zB ?_
    rw[←zA HT]
    cases f with
    | zero=>rfl
    | succ f=>rw[Rt.zLf,if_neg hin]
   have HB:=zB hbe
   clear hpr hbe HT HF
   by_cases hj:0 < j
   ·have hj':¬j < (pls.length:Int):=fun e=>hin ⟨hj,e⟩
    clear hin
    go_wp2_with fail
    go_ret
    exact⟨by rw[zA HE];rfl,zA HB⟩
   ·clear hin
    go_wp2_with fail
    go_ret
    exact⟨by rw[zA HE];rfl,zA HB⟩
end Go.Proofs.YthleadfkfnnadaaGreat
