/- The names of a program: calls, parameters. -/
import Derived.Test.YthleadfkfnnadaaGreatNames0
set_option maxHeartbeats 4000000
set_option maxRecDepth 100000
namespace Go.Proofs.YthleadfkfnnadaaGreat
open Go.RowKit
def FormP (P:Nat) (fm:Rt.zAU) (w:World) (e:Ending) (w':World):Prop:=∃fv,e=.returned (.agg fv)∧zAd w' (P+1) fv fm∧Below w.heap.size w w'
theorem zGd {w:World} {B N:Nat} {v:Array Value} {fm:Rt.zAU} {cs:Array Value} (h:zAd w B v fm) (hN:w.heap[N]?=some (.cells cs 143 (0,0))) (a b c d e f:Value):zAd (W6 w N a b c d e f) B v fm:=by
 have hx:∀(t:TypeId) (size n:Nat) (v:Value) (xs:List Value),t≠143→w.ownsRow B t size v n xs→(W6 w N a b c d e f).ownsRow B t size v n xs:=by
  intro t size n v xs ht hv
  refine zCL hv ?_ _ _ _ _ _ _
  intro g hg e
  subst e
  rcases hv.2 with⟨h',_⟩| ⟨g',_,cur,h',_,hh,_⟩
  ·rw[h']at hg;cases hg
  ·rw[h']at hg
   simp[Value.ownBlock]at hg
   subst hg
   rw[hN]at hh
   simp at hh
   exact ht hh.2.symm
 obtain⟨pv,iv,vv,vs,rfl,h1,h2,h3,h4⟩:=h
 exact⟨pv,iv,vv,vs,rfl,hx _ _ _ _ _ (by decide) h1,hx _ _ _ _ _ (by decide) h2,hx _ _ _ _ _ (by decide) h3,zAc.map (fun x o hh=>hx _ _ _ _ _ (by decide) hh) _ _ h4⟩
theorem Tryz.zGI (a0:Option Addr) (n0 k0:Nat) (kd:Int) (nm:ByteArray) (cl:Int) (a1:Option Addr) (n1 k1:Nat) (a2:Option Addr) (n2 k2:Nat) (a3:Option Addr) (n3 k3:Nat) (d o x y p:Int) (w:World) :
  (Instr.field 145 (.agg #[.slice a0 n0 k0,.int .i64 kd,.string nm,.int .i64 cl,.slice a1 n1 k1,.slice a2 n2 k2,.slice a3 n3 k3,.int .i64 d,.int .i64 o,.int .i64 x,.int .i64 y,.int .i64 p]) 1).run Tryz.prog w=.ok (.agg #[.int .i64 kd,.string nm,.int .i64 cl,.slice a1 n1 k1,.slice a2 n2 k2,.slice a3 n3 k3]) w:=by kernel_rfl
theorem zDe (w:World) (P:Nat) (pls:List Rt.PL) (lv:Value) (cs:List (List Value)) (x:ByteArray) (h:zAP w P pls lv cs) (hlen:pls.length≤101) :
  Calls Tryz.prog 128 #[.pointer (some ⟨P,0,none⟩),.string x] w (FormP P (Rt.zX pls x) w):=by
 have hb0:=(Below.refl w.heap.size w).alloc (Nat.le_refl _) (.cells zp 143)
 have h0:=h.zH hb0
 have hN0:=heap_alloc_new w (.cells zp 143)
 clear h
 go_enter Tryz.func128,Tryz.ntmps128
 go_wp2_with fail
 refine(zB4 _ _ _ _ _ x h0 hlen).mono ?_
 rintro e w1 ⟨rfl,rfl⟩
 go_wp2_with fail
 refine(zKs _ _ _ _ _ _ h0).mono ?_
 rintro e w2 ⟨ad0,ad1,ad2,ad3,cap0,cap1,cap2,cap3,xe,xf,rfl,_,hfv,hb2⟩
 rw[Rt.zCX]at hfv ⊢
 generalize (Rt.zd pls (Rt.zAE pls x)).depth=dp at *
 generalize (Rt.zd pls (Rt.zAE pls x)).opener=opn at *
 generalize (Rt.zd pls (Rt.zAE pls x)).proc=pr at *
 generalize (Rt.zd pls (Rt.zAE pls x)).zf.length=tl at *
 obtain⟨c0,c1,c2,c3,c4,c5,f0,f1,f2,f3,f4,f5⟩:=six (zK hN0 hb2)
 have hz:=zJ (zK hN0 hb2)
 have HV:=zB (zGd hfv (zK hN0 hb2))
 have HB:=zB (hb0.trans (hb2.mono (B':=w.heap.size) (by simp)))
 have hfl:=Tryz.zGI ad0 tl cap0 (Rt.zT pls (Rt.zAE pls x)).kind (Rt.zT pls (Rt.zAE pls x)).name (Rt.zT pls (Rt.zAE pls x)).cells ad1 (Rt.zT pls (Rt.zAE pls x)).params.length cap1 ad2 (Rt.zT pls (Rt.zAE pls x)).index.length cap2 ad3 (Rt.zT pls (Rt.zAE pls x)).values.length cap3 dp opn xe xf pr
 clear h0 hb0 hN0 hb2 hfv
 go_wp2_with fail
 refine bodyPost_ret (v:=.agg #[.int .i64 (Rt.zT pls (Rt.zAE pls x)).kind,.string (Rt.zT pls (Rt.zAE pls x)).name,.int .i64 (Rt.zT pls (Rt.zAE pls x)).cells,.slice ad1 (Rt.zT pls (Rt.zAE pls x)).params.length cap1,.slice ad2 (Rt.zT pls (Rt.zAE pls x)).index.length cap2,.slice ad3 (Rt.zT pls (Rt.zAE pls x)).values.length cap3]) ?_ rfl ⟨_,rfl,zA HV _ _ _ _ _ _,zEH (zA HB) (Nat.le_refl _) _ _ _ _ _ _⟩
 simp[results,Tryz.results128,go_sem,c0,c1,c2,c3,c4,c5]
theorem Tryz.zPb (a b c:Value) (ad:Option Addr) (n k:Nat) (e f:Value) (w:World):(Instr.field 143 (.agg #[a,b,c,.slice ad n k,e,f]) 3).run Tryz.prog w=.ok (.slice ad n k) w:=by kernel_rfl
theorem Tryz.zJG (x:Int) (b c d e f:Value) (w:World):(Instr.field 143 (.agg #[.int .i64 x,b,c,d,e,f]) 0).run Tryz.prog w=.ok (.int .i64 x) w:=by kernel_rfl
namespace Rt
def parFrom:Nat→List ByteArray→ByteArray→Int
 | _,[],_=>-1
 | i,y::r,x=>if y=x then (i:Int)else parFrom (i+1) r x
def zCq (pls:List PL) (proc:Int) (x:ByteArray):Int:=parFrom 0 (zT pls proc).params x
theorem zIg:∀(l:List ByteArray) (i:Nat) (x:ByteArray),(l.any (fun y=>decide (y=x))=true∧0≤parFrom i l x)∨(l.any (fun y=>decide (y=x))=false∧parFrom i l x=-1)
 | [],i,x=>Or.inr ⟨rfl,rfl⟩
 | y::r,i,x=>by
  rw[parFrom,List.any_cons]
  by_cases h:y=x
  ·rw[if_pos h];exact Or.inl ⟨by simp[h],by omega⟩
  ·rw[if_neg h]
   rcases zIg r (i+1) x with⟨h1,h2⟩| ⟨h1,h2⟩
   ·exact Or.inl ⟨by simp[h1],h2⟩
   ·exact Or.inr ⟨by simp[h1,h],h2⟩
theorem zLN (pls:List PL) (proc:Int) (x:ByteArray):(zGU pls proc x=true∧0≤zCq pls proc x)∨(zGU pls proc x=false∧zCq pls proc x=-1):=zIg _ _ _
theorem zIe {l:List ByteArray} {k:Nat} {x:ByteArray} {r:Int} (h:parFrom k (l.drop k) x=r) (hk:k < l.length) (hx:l[k]=x):r=k:=by
 rw[List.drop_eq_getElem_cons hk,parFrom,if_pos hx]at h;exact h.symm
theorem zHO {l:List ByteArray} {k:Nat} {x:ByteArray} {r:Int} (h:parFrom k (l.drop k) x=r) (hk:k < l.length) (hx:¬l[k]=x):parFrom (k+1) (l.drop (k+1)) x=r:=by
 rw[List.drop_eq_getElem_cons hk,parFrom,if_neg hx]at h;exact h
theorem zIf {l:List ByteArray} {k:Nat} {x:ByteArray} {r:Int} (h:parFrom k (l.drop k) x=r) (hk:¬k < l.length):r=-1:=by
 rw[List.drop_eq_nil_of_le (by omega),parFrom]at h;exact h.symm
end Rt
theorem zLx (w:World) (P:Nat) (pls:List Rt.PL) (lv:Value) (cs:List (List Value)) (n:Int) (x:ByteArray) (h:zAP w P pls lv cs) (hpar:(Rt.zT pls n).params.length≤1000) :
  Calls Tryz.prog 191 #[.pointer (some ⟨P,0,none⟩),.int .i64 n,.string x] w fun e w'=>e=.returned (.int .i64 (Rt.zCq pls n x))∧Below w.heap.size w w':=by
 go_enter Tryz.func191,Tryz.ntmps191
 go_wp2_with fail
 refine(zKs _ _ _ _ _ _ h).mono ?_
 rintro e w2 ⟨ad0,ad1,ad2,ad3,cap0,cap1,cap2,cap3,xe,xf,rfl,_,hfv,hb2⟩
 rw[Rt.zCX]at hfv ⊢
 generalize (Rt.zd pls n).depth=dp at *
 generalize (Rt.zd pls n).opener=opn at *
 generalize (Rt.zd pls n).proc=pr at *
 generalize (Rt.zd pls n).zf.length=tl at *
 obtain⟨pv,iv,vv,vs,hfe,b1,b2,b3,_⟩:=hfv
 have hpv:pv=.slice ad1 (Rt.zT pls n).params.length cap1:=by simp at hfe;exact hfe.1.symm
 subst hpv
 have HB:=zB hb2
 have HO:=zB b1
 have HI:=zB (show Rt.zCq pls n x=Rt.parFrom 0 (Rt.zT pls n).params x from rfl)
 clear h hb2 b1 b2 b3 hfe
 generalize (Rt.zT pls n)=fm at *
 have hf1:=Tryz.zGI ad0 tl cap0 fm.kind fm.name fm.cells ad1 fm.params.length cap1 ad2 fm.index.length cap2 ad3 fm.values.length cap3 dp opn xe xf pr
 have hfl:=Tryz.zPb (.int .i64 fm.kind) (.string fm.name) (.int .i64 fm.cells) ad1 fm.params.length cap1 (.slice ad2 fm.index.length cap2) (.slice ad3 fm.values.length cap3)
 go_wp2
 go_loop [8] (fun i=>∃k:Nat,k≤fm.params.length∧i=.int .i64 k∧Rt.parFrom k (fm.params.drop k) x=Rt.zCq pls n x) (fun i=>fm.params.length-(intOf i).toNat)
 case atStart=>exact⟨0,Nat.zero_le _,rfl,(zA HI).symm⟩
 case round=>
  obtain⟨k,hk,rfl,hT⟩:=hrel
  have HT:=zB hT
  clear hT
  by_cases hlt:k < fm.params.length
  ·obtain⟨g,cap',hv,_,_,cx⟩:=zW (zA HO) (j:=k) (u:=.string fm.params[k]) (by simp[hlt])
   simp at hv
   obtain⟨rfl,rfl⟩:=hv
   have hlt':(k:Int) < (fm.params.length:Int):=by omega
   by_cases hx:fm.params[k]=x
   ·have HE:=zB (Rt.zIe (zA HT) hlt hx)
    have hx':=Rt.zDv hx
    clear hx
    go_wp2
    go_ret
    exact⟨by rw[zA HE];rfl,zA HB⟩
   ·have HE:=zB (Rt.zHO (zA HT) hlt hx)
    have hx':=Rt.zFR hx
    clear hx
    go_wp2
    go_round
    case rel=>exact⟨k+1,by omega,by go_num,zA HE⟩
    case measure=>simp[intOf];omega
  ·have HE:=zB (Rt.zIf (zA HT) hlt)
   have hlt':¬(k:Int) < (fm.params.length:Int):=by omega
   go_wp2
   go_ret
   exact⟨by rw[zA HE];rfl,zA HB⟩
theorem zD7 (w:World) (P:Nat) (pls:List Rt.PL) (lv:Value) (cs:List (List Value)) (n:Int) (x:ByteArray) (h:zAP w P pls lv cs) (hlen:pls.length≤101) (hpar:(Rt.zT pls n).params.length≤1000) :
  Calls Tryz.prog 163 #[.pointer (some ⟨P,0,none⟩),.int .i64 n,.string x] w fun e w'=>e=.returned (.bool (Rt.isVar pls n x))∧Below w.heap.size w w':=by
 go_enter Tryz.func163,Tryz.ntmps163
 go_wp2_with fail
 refine(zLx _ _ _ _ _ _ x h hpar).mono ?_
 rintro e w1 ⟨rfl,hb1⟩
 have hpi:=Rt.zLN pls n x
 generalize Rt.zCq pls n x=R at *
 cases hp:Rt.zGU pls n x with
 | true=>
  have hR:0≤R:=by rcases hpi with h | h;exact h.2;rw[hp]at h;cases h.1
  clear hpi
  have HE:=zB (show Rt.isVar pls n x=true by simp[Rt.isVar,hp])
  have HB:=zB hb1
  clear h hp hb1
  go_wp2_with fail
  go_ret
  exact⟨by rw[zA HE];rfl,zA HB⟩
 | false=>
  have hR:¬0≤R:=by rcases hpi with h | h;rw[hp]at h;cases h.1;omega
  clear hpi
  have HE:=zB (show Rt.isVar pls n x=decide ((Rt.zX pls x).kind=1) by simp[Rt.isVar,hp])
  have h1:=h.zH hb1
  have hsz:=hb1.size
  clear h hp
  go_wp2_with fail
  refine(zDe _ _ _ _ _ x h1 hlen).mono ?_
  rintro e w2 ⟨fv,rfl,⟨pv,iv,vv,vs,rfl,b1,b2,b3,_⟩,hb2⟩
  obtain⟨ad1,cap1,rfl⟩:=zE b1
  obtain⟨ad2,cap2,rfl⟩:=zE b2
  obtain⟨ad3,cap3,rfl⟩:=zE b3
  clear b1 b2 b3
  have hfl:=Tryz.zJG (Rt.zX pls x).kind (.string (Rt.zX pls x).name) (.int .i64 (Rt.zX pls x).cells) (.slice ad1 (Rt.zX pls x).params.length cap1) (.slice ad2 (Rt.zX pls x).index.length cap2) (.slice ad3 (Rt.zX pls x).values.length cap3)
  have HB:=zB (hb1.trans (hb2.mono (B':=w.heap.size) hsz))
  clear h1 hb1 hb2
  go_wp2_with fail
  go_ret
  exact⟨by rw[zA HE];exact zj (by rw[beq_eq_decide]),zA HB⟩
theorem zIq (w:World) (P:Nat) (pls:List Rt.PL) (lv:Value) (cs:List (List Value)) (n:Int) (x:ByteArray) (h:zAP w P pls lv cs) (hlen:pls.length≤101) (hpar:(Rt.zT pls n).params.length≤1000) :
  Calls Tryz.prog 166 #[.pointer (some ⟨P,0,none⟩),.int .i64 n,.string x] w fun e w'=>e=.returned (.bool (Rt.zCN pls n x))∧Below w.heap.size w w':=by
 go_enter Tryz.func166,Tryz.ntmps166
 go_wp2_with fail
 refine(zLx _ _ _ _ _ _ x h hpar).mono ?_
 rintro e w1 ⟨rfl,hb1⟩
 have hpi:=Rt.zLN pls n x
 generalize Rt.zCq pls n x=R at *
 cases hp:Rt.zGU pls n x with
 | true=>
  have hR:0≤R:=by rcases hpi with h | h;exact h.2;rw[hp]at h;cases h.1
  clear hpi
  have HE:=zB (show Rt.zCN pls n x=false by simp[Rt.zCN,hp])
  have HB:=zB hb1
  clear h hp hb1
  go_wp2_with fail
  go_ret
  exact⟨by rw[zA HE];rfl,zA HB⟩
 | false=>
  have hR:¬0≤R:=by rcases hpi with h | h;rw[hp]at h;cases h.1;omega
  clear hpi
  have HE:=zB (show Rt.zCN pls n x=decide ((Rt.zX pls x).kind=2) by simp[Rt.zCN,hp])
  have h1:=h.zH hb1
  have hsz:=hb1.size
  clear h hp
  go_wp2_with fail
  refine(zDe _ _ _ _ _ x h1 hlen).mono ?_
  rintro e w2 ⟨fv,rfl,⟨pv,iv,vv,vs,rfl,b1,b2,b3,_⟩,hb2⟩
  obtain⟨ad1,cap1,rfl⟩:=zE b1
  obtain⟨ad2,cap2,rfl⟩:=zE b2
  obtain⟨ad3,cap3,rfl⟩:=zE b3
  clear b1 b2 b3
  have hfl:=Tryz.zJG (Rt.zX pls x).kind (.string (Rt.zX pls x).name) (.int .i64 (Rt.zX pls x).cells) (.slice ad1 (Rt.zX pls x).params.length cap1) (.slice ad2 (Rt.zX pls x).index.length cap2) (.slice ad3 (Rt.zX pls x).values.length cap3)
  have HB:=zB (hb1.trans (hb2.mono (B':=w.heap.size) hsz))
  clear h1 hb1 hb2
  go_wp2_with fail
  go_ret
  exact⟨by rw[zA HE];exact zj (by rw[beq_eq_decide]),zA HB⟩
theorem zGS:∀(ts:List Pop) (i:Nat) (h:i < ts.length),(zAB ts)[i*3]?=some (.int .i64 ts[i].code)∧(zAB ts)[i*3+1]?=some (.int .i64 ts[i].number)∧(zAB ts)[i*3+2]?=some (.string ts[i].name)
 | [],i,h=>by simp at h
 | t::r,0,_=>by simp[zAB,zHH]
 | t::r,i+1,h=>by
  have ih:=zGS r i (by simpa using h)
  have e:zAB (t::r)=[Value.int .i64 t.code,Value.int .i64 t.number,Value.string t.name]++zAB r:=by simp[zAB,zHH]
  have e2:(i+1)*3=i*3+3:=by omega
  rw[e,e2]
  simpa using ih
theorem zLO {w:World} {B:Nat} {ad:Option Addr} {cap:Nat} {ops:List Pop} (h:w.ownsRow B 236 3 (.slice ad ops.length cap) ops.length (zAB ops)) {k:Nat} (hk:k < ops.length) :
  ∃g,ad=some ⟨g,0,none⟩∧w.cell? ⟨g,k*3,none⟩=some (.int .i64 ops[k].code)∧w.cell? ⟨g,k*3+1,none⟩=some (.int .i64 ops[k].number)∧w.cell? ⟨g,k*3+2,none⟩=some (.string ops[k].name):=by
 obtain⟨e0,e1,e2⟩:=zGS ops k hk
 obtain⟨g,c,hv,_,_,x0⟩:=zW h e0
 obtain⟨g1,c1,hv1,_,_,x1⟩:=zW h e1
 obtain⟨g2,c2,hv2,_,_,x2⟩:=zW h e2
 simp at hv hv1 hv2
 rw[hv.1]at hv1 hv2
 simp at hv1 hv2
 refine⟨g,hv.1,x0,?_,?_⟩
 ·rw[hv1.1];exact x1
 ·rw[hv2.1];exact x2
theorem all_end {ops:List Pop} {f:Pop→Bool} {k:Nat} {b:Bool} (h:(ops.drop k).all f=b) (hk:¬k < ops.length):b=true:=by
 rw[List.drop_eq_nil_of_le (by omega)]at h
 exact h.symm
theorem all_no {ops:List Pop} {f:Pop→Bool} {k:Nat} {b:Bool} (h:(ops.drop k).all f=b) (hk:k < ops.length) (hd:f ops[k]=false):b=false:=by
 rw[List.drop_eq_getElem_cons hk,List.all_cons,hd]at h
 exact h.symm
theorem all_yes {ops:List Pop} {f:Pop→Bool} {k:Nat} {b:Bool} (h:(ops.drop k).all f=b) (hk:k < ops.length) (hd:f ops[k]=true):(ops.drop (k+1)).all f=b:=by
 rw[List.drop_eq_getElem_cons hk,List.all_cons,hd]at h
 exact h
theorem zEE (w:World) (P:Nat) (pls:List Rt.PL) (lv:Value) (cs:List (List Value)) (n:Int) (ad:Option Addr) (cap:Nat) (ops:List Pop) (h:zAP w P pls lv cs) (hlen:pls.length≤101) (hpar:(Rt.zT pls n).params.length≤1000)
  (hx:w.ownsRow (P+1) 236 3 (.slice ad ops.length cap) ops.length (zAB ops)) (hops:ops.length≤1000) :
  Calls Tryz.prog 202 #[.pointer (some ⟨P,0,none⟩),.int .i64 n,.agg #[.slice ad ops.length cap]] w fun e w'=>e=.returned (.bool (Rt.zDO pls n ops))∧Below w.heap.size w w':=by
 have hb0:=(Below.refl w.heap.size w).alloc (Nat.le_refl _) (.cells #[.slice ad ops.length cap] 140)
 have hE0:=heap_alloc_new w (.cells #[.slice ad ops.length cap] 140)
 have h0:=h.zH hb0
 have hx0:=zZ hx hb0
 clear h hx
 go_enter Tryz.func202,Tryz.ntmps202
 go_wp2_with fail
 go_loopw [7,8] (fun i _ wr=>∃k:Nat,k≤ops.length∧i=.int .i64 k∧(ops.drop k).all (Rt.opFit pls n)=Rt.zDO pls n ops∧zAP wr P pls lv cs∧wr.heap[w.heap.size]?=some (.cells #[.slice ad ops.length cap] 140 (0,0))∧
   wr.ownsRow (P+1) 236 3 (.slice ad ops.length cap) ops.length (zAB ops)∧Below w.heap.size w wr)
  (fun i _ _=>ops.length-(intOf i).toNat)
 case atStart=>exact⟨0,Nat.zero_le _,rfl,rfl,h0,hE0,hx0,hb0⟩
 case round=>
  clear h0 hE0 hx0 hb0
  obtain⟨k,hk,rfl,hT,hpr,hE,hx,hbe⟩:=hrel
  have HT:=zB hT
  clear hT
  have cE:=zC hE 0 (by simp)
  simp at cE
  have hsz:=hbe.size
  have hElt:=zJ hE
  by_cases hlt:k < ops.length
  ·obtain⟨g,rfl,o0,o1,o2⟩:=zLO hx hlt
   have hlt':(k:Int) < (ops.length:Int):=by omega
   have hbA:=(Below.refl wr.heap.size wr).alloc (Nat.le_refl _) (.cells #[.int .i64 ops[k].code,.int .i64 ops[k].number,.string ops[k].name] 236)
   have hprA:=hpr.zH hbA
   have hEA:=zK hE hbA
   have hxA:=zZ hx hbA
   have hbeA:=hbe.trans (hbA.mono (B':=w.heap.size) hsz)
   have hLA:=heap_alloc_new wr (.cells #[.int .i64 ops[k].code,.int .i64 ops[k].number,.string ops[k].name] 236)
   have HN:=zB (all_no (zA HT) hlt)
   have HY:=zB (all_yes (zA HT) hlt)
   have HF:=zB (show Rt.opFit pls n ops[k]=(if ops[k].code=2 then Rt.isVar pls n ops[k].name else if ops[k].code=3 then Rt.zCN pls n ops[k].name else true)from rfl)
   clear hpr hE hx hbe
   generalize ops[k]=o at *
   by_cases h2:o.code=2
   ·have h2':(o.code==2)=true:=by simpa using h2
    have h3':(o.code==3)=false:=by rw[h2];rfl
    have HF2:=zB ((zA HF).trans (if_pos h2))
    clear h2
    go_wp2_with fail
    refine(zD7 _ _ _ _ _ _ o.name hprA hlen hpar).mono ?_
    rintro e w2 ⟨rfl,hb2⟩
    have hL2:=zK hLA hb2
    have c0:=zC hL2 0 (by simp)
    simp at c0
    cases hv:Rt.isVar pls n o.name with
    | true=>
     have HG:=zB (And.intro (zA HY ((zA HF2).trans hv)) (And.intro (hprA.zH hb2) (And.intro (zK hEA hb2) (And.intro (zZ hxA hb2) (hbeA.trans (hb2.mono (B':=w.heap.size) (by have:=hbA.size;omega)))))))
     clear hprA hEA hxA hbeA hLA hL2 hb2 hv
     go_wp2_with fail
     go_roundw
     case rel=>
      obtain⟨q1,q2,q3,q4,q5⟩:=zA HG
      exact⟨k+1,by omega,by go_num,q1,q2,q3,q4,q5⟩
     case measure=>simp[intOf];omega
    | false=>
     have HG:=zB (And.intro (zA HN ((zA HF2).trans hv)) (hbeA.trans (hb2.mono (B':=w.heap.size) (by have:=hbA.size;omega))))
     clear hprA hEA hxA hbeA hLA hL2 hb2 hv
     go_wp2_with fail
     go_ret
     exact⟨by rw[(zA HG).1];rfl,(zA HG).2⟩
   have h2':(o.code==2)=false:=by simpa using h2
   by_cases h3:o.code=3
   ·have h3':(o.code==3)=true:=by simpa using h3
    have HF2:=zB ((zA HF).trans ((if_neg h2).trans (if_pos h3)))
    clear h2 h3
    go_wp2_with fail
    refine(zIq _ _ _ _ _ _ o.name hprA hlen hpar).mono ?_
    rintro e w2 ⟨rfl,hb2⟩
    cases hv:Rt.zCN pls n o.name with
    | true=>
     have HG:=zB (And.intro (zA HY ((zA HF2).trans hv)) (And.intro (hprA.zH hb2) (And.intro (zK hEA hb2) (And.intro (zZ hxA hb2) (hbeA.trans (hb2.mono (B':=w.heap.size) (by have:=hbA.size;omega)))))))
     clear hprA hEA hxA hbeA hLA hb2 hv
     go_wp2_with fail
     go_roundw
     case rel=>
      obtain⟨q1,q2,q3,q4,q5⟩:=zA HG
      exact⟨k+1,by omega,by go_num,q1,q2,q3,q4,q5⟩
     case measure=>simp[intOf];omega
    | false=>
     have HG:=zB (And.intro (zA HN ((zA HF2).trans hv)) (hbeA.trans (hb2.mono (B':=w.heap.size) (by have:=hbA.size;omega))))
     clear hprA hEA hxA hbeA hLA hb2 hv
     go_wp2_with fail
     go_ret
     exact⟨by rw[(zA HG).1];rfl,(zA HG).2⟩
   ·have h3':(o.code==3)=false:=by simpa using h3
    have HF2:=zB ((zA HF).trans ((if_neg h2).trans (if_neg h3)))
    clear h2 h3
    have HG:=zB (And.intro (zA HY (zA HF2)) (And.intro hprA (And.intro hEA (And.intro hxA hbeA))))
    clear hprA hEA hxA hbeA hLA
    go_wp2_with fail
    go_roundw
    case rel=>
     obtain⟨q1,q2,q3,q4,q5⟩:=zA HG
     exact⟨k+1,by omega,by go_num,q1,q2,q3,q4,q5⟩
    case measure=>simp[intOf];omega
  ·have HE:=zB (all_end (zA HT) hlt)
   have hlt':¬(k:Int) < (ops.length:Int):=by omega
   have HB:=zB hbe
   clear hpr hE hx hbe
   go_wp2_with fail
   go_ret
   exact⟨by rw[zA HE];rfl,zA HB⟩
end Go.Proofs.YthleadfkfnnadaaGreat
namespace Go.Proofs.YthleadfkfnnadaaGreat
open Go.RowKit
attribute [local go_sem ↓] Go.wp_at_zero Go.wp_at_succ
theorem zAc.get {w:World} {B:Nat}:∀(vs:List Value) (os:List (List Pop)) (i:Nat) (h:i < os.length),zAc w B vs os→∃x,vs[i]?=some x∧w.ownsRow B 236 3 x os[i].length (zAB os[i])
 | x::_,o::_,0,_,⟨h1,_⟩=>⟨x,rfl,h1⟩
 | _::xs,_::os,i+1,h,⟨_,h2⟩=>by
  obtain⟨y,hy,hr⟩:=zAc.get xs os i (by simpa using h) h2
  exact⟨y,by simpa using hy,hr⟩
 | [],_::_,_,_,h=>h.elim
 | _,[],_,h,_=>by simp at h
theorem vall_end {os:List (List Pop)} {f:List Pop→Bool} {k:Nat} {b:Bool} (h:(os.drop k).all f=b) (hk:¬k < os.length):b=true:=by
 rw[List.drop_eq_nil_of_le (by omega)]at h
 exact h.symm
theorem vall_no {os:List (List Pop)} {f:List Pop→Bool} {k:Nat} {b:Bool} (h:(os.drop k).all f=b) (hk:k < os.length) (hd:f os[k]=false):b=false:=by
 rw[List.drop_eq_getElem_cons hk,List.all_cons,hd]at h
 exact h.symm
theorem vall_yes {os:List (List Pop)} {f:List Pop→Bool} {k:Nat} {b:Bool} (h:(os.drop k).all f=b) (hk:k < os.length) (hd:f os[k]=true):(os.drop (k+1)).all f=b:=by
 rw[List.drop_eq_getElem_cons hk,List.all_cons,hd]at h
 exact h
theorem zBb (w:World) (P:Nat) (pls:List Rt.PL) (lv:Value) (cs:List (List Value)) (pl:Rt.PL) (a0 a1 a2 a3:Option Addr) (c0 c1 c2 c3:Nat) (xe xf:Int) (h:zAP w P pls lv cs) (hlen:pls.length≤101) (hpar:(Rt.zT pls pl.proc).params.length≤1000) (hsm:Rt.Small pl.form)
  (hf:zAd w (P+1) #[.int .i64 pl.form.kind,.string pl.form.name,.int .i64 pl.form.cells,.slice a1 pl.form.params.length c1,.slice a2 pl.form.index.length c2,.slice a3 pl.form.values.length c3] pl.form) :
  Calls Tryz.prog 173 #[.pointer (some ⟨P,0,none⟩),.agg #[.slice a0 pl.zf.length c0,.int .i64 pl.form.kind,.string pl.form.name,.int .i64 pl.form.cells,.slice a1 pl.form.params.length c1,.slice a2 pl.form.index.length c2,.slice a3 pl.form.values.length c3,.int .i64 pl.depth,.int .i64 pl.opener,.int .i64 xe,.int .i64 xf,.int .i64 pl.proc]] w fun e w'=>
   e=.returned (.bool (Rt.zAr pls pl))∧Below w.heap.size w w':=by
 have hb0:=(Below.refl w.heap.size w).alloc (Nat.le_refl _) (.cells #[.slice a0 pl.zf.length c0,.int .i64 pl.form.kind,.string pl.form.name,.int .i64 pl.form.cells,.slice a1 pl.form.params.length c1,.slice a2 pl.form.index.length c2,.slice a3 pl.form.values.length c3,.int .i64 pl.depth,.int .i64 pl.opener,.int .i64 xe,.int .i64 xf,.int .i64 pl.proc] 145)
 have hL0:=heap_alloc_new w (.cells #[.slice a0 pl.zf.length c0,.int .i64 pl.form.kind,.string pl.form.name,.int .i64 pl.form.cells,.slice a1 pl.form.params.length c1,.slice a2 pl.form.index.length c2,.slice a3 pl.form.values.length c3,.int .i64 pl.depth,.int .i64 pl.opener,.int .i64 xe,.int .i64 xf,.int .i64 pl.proc] 145)
 have h0:=h.zH hb0
 have hf0:=(zAD (B:=P+1) hb0).form hf
 obtain⟨pv,iv,vv,vs,hfv,b1,b2,b3,b4⟩:=hf0
 simp at hfv
 obtain⟨rfl,rfl,rfl⟩:=hfv
 clear h hf
 go_enter Tryz.func173,Tryz.ntmps173
 go_wp2_with fail
 refine(zEE _ _ _ _ _ pl.proc a2 c2 pl.form.index h0 hlen hpar b2 (Nat.le_trans hsm.index (by omega))).mono ?_
 rintro e w1 ⟨rfl,hb1⟩
 cases hv:Rt.zDO pls pl.proc pl.form.index with
 | false=>
  have HE:=zB (show Rt.zAr pls pl=false by simp[Rt.zAr,hv])
  have HB:=zB (hb0.trans (hb1.mono (B':=w.heap.size) (by simp)))
  clear h0 hL0 hb0 hb1 b1 b2 b3 b4 hv
  go_wp2_with fail
  go_ret
  exact⟨by rw[zA HE];rfl,zA HB⟩
 | true=>
  have hI:pl.form.values.all (Rt.zDO pls pl.proc)=Rt.zAr pls pl:=by simp[Rt.zAr,hv]
  have h1:=h0.zH hb1
  have hL1:=zK hL0 hb1
  have b31:=zZ b3 hb1
  have b41:=(zAD (B:=P+1) hb1).exprs _ _ b4
  have hbe1:=hb0.trans (hb1.mono (B':=w.heap.size) (by simp))
  clear h0 hL0 hb0 hb1 b1 b2 b3 b4 hv
  go_wp2_with fail
  go_loopw [5] (fun i wr=>∃k:Nat,k≤pl.form.values.length∧i=.int .i64 k∧(pl.form.values.drop k).all (Rt.zDO pls pl.proc)=Rt.zAr pls pl∧zAP wr P pls lv cs∧
    wr.heap[w.heap.size]?=some (.cells #[.slice a0 pl.zf.length c0,.int .i64 pl.form.kind,.string pl.form.name,.int .i64 pl.form.cells,.slice a1 pl.form.params.length c1,.slice a2 pl.form.index.length c2,.slice a3 pl.form.values.length c3,.int .i64 pl.depth,.int .i64 pl.opener,.int .i64 xe,.int .i64 xf,.int .i64 pl.proc] 145 (0,0))∧
    wr.ownsRow (P+1) 140 1 (.slice a3 pl.form.values.length c3) pl.form.values.length vs∧zAc wr (P+1) vs pl.form.values∧Below w.heap.size w wr)
   (fun i _=>pl.form.values.length-(intOf i).toNat)
  case atStart=>exact⟨0,Nat.zero_le _,rfl,hI,h1,hL1,b31,b41,hbe1⟩
  case round=>
   clear h1 hL1 b31 b41 hbe1 hI
   obtain⟨k,hk,rfl,hT,hpr,hL,hvv,hvs,hbe⟩:=hrel
   have HT:=zB hT
   clear hT
   have hsz:=hbe.size
   obtain⟨l0,l1,l2,l3,l4,l5,l6,l7,l8,l9,l10,l11⟩:=zC0 hL
   have hval:=hsm.values
   by_cases hlt:k < pl.form.values.length
   ·have hlt':(k:Int) < (pl.form.values.length:Int):=by omega
    have hk0:(0:Int)≤(k:Int):=by omega
    obtain⟨xv,hx1,hx2⟩:=zAc.get _ _ k hlt hvs
    obtain⟨adx,capx,rfl⟩:=zE hx2
    obtain⟨g,cap',hg,_,hglt,cx⟩:=zW hvv hx1
    simp at hg
    obtain⟨rfl,rfl⟩:=hg
    have hLlt:=zJ hL
    have hob:pl.form.values[k].length≤1000:=Nat.le_trans (hsm.each _ (List.getElem_mem hlt)) (by omega)
    have HN:=zB (vall_no (zA HT) hlt)
    have HY:=zB (vall_yes (zA HT) hlt)
    have HX:=zB (And.intro hpr (And.intro hL (And.intro hvv (And.intro hvs (And.intro hbe hx2)))))
    clear hpr hL hvv hvs hbe hx2 hx1
    generalize pl.form.values[k]=ov at *
    go_wp2_with fail
    go_region_with
     ((go_at_call 202;refine(zEE _ _ _ _ _ pl.proc adx capx ov (by exact(zA HX).1.zH (zS _)) hlen hpar (by exact zZ (zA HX).2.2.2.2.2 (zS _)) hob).mono ?_;rintro e w2 ⟨rfl,hb2⟩))
    all_goals
     obtain⟨q1,q2,q3,q4,q5,_⟩:=zA HX
     have hb2':=zm hb2
     cases hv:Rt.zDO pls pl.proc ov with
     | true=>
      have HG:=zB (And.intro (zA HY hv) (And.intro (q1.zH hb2') (And.intro (zK q2 hb2') (And.intro (zZ q3 hb2') (And.intro ((zAD (B:=P+1) hb2').exprs _ _ q4) (q5.trans (hb2'.mono (B':=w.heap.size) hsz)))))))
      clear q1 q2 q3 q4 q5 hb2 hb2' hv HX
      go_wp2_with fail
      go_roundw
      case rel=>
       obtain⟨r1,r2,r3,r4,r5,r6⟩:=zA HG
       exact⟨k+1,by omega,by go_num,r1,r2,r3,r4,r5,r6⟩
      case measure=>simp[intOf];omega
     | false=>
      have HG:=zB (And.intro (zA HN hv) (q5.trans (hb2'.mono (B':=w.heap.size) hsz)))
      clear q1 q2 q3 q4 q5 hb2 hb2' hv HX
      go_wp2_with fail
      go_ret
      exact⟨by rw[(zA HG).1];rfl,(zA HG).2⟩
   ·have HE:=zB (vall_end (zA HT) hlt)
    have hlt':¬(k:Int) < (pl.form.values.length:Int):=by omega
    have HB:=zB hbe
    clear hpr hL hvv hvs hbe
    go_wp2_with fail
    go_ret
    exact⟨by rw[zA HE];rfl,zA HB⟩
end Go.Proofs.YthleadfkfnnadaaGreat
namespace Go.Proofs.YthleadfkfnnadaaGreat
open Go.RowKit
theorem zMf (w:World) (P:Nat) (pls:List Rt.PL) (lv:Value) (cs:List (List Value)) (fm:Rt.zAU) (a1 a2 a3:Option Addr) (c1 c2 c3:Nat) (h:zAP w P pls lv cs) (hlen:pls.length≤101) :
  Calls Tryz.prog 172 #[.pointer (some ⟨P,0,none⟩),.agg #[.int .i64 fm.kind,.string fm.name,.int .i64 fm.cells,.slice a1 fm.params.length c1,.slice a2 fm.index.length c2,.slice a3 fm.values.length c3]] w fun e w'=>e=.returned (.bool (Rt.zDg pls fm))∧Below w.heap.size w w':=by
 have hb0:=(Below.refl w.heap.size w).alloc (Nat.le_refl _) (.cells #[.int .i64 fm.kind,.string fm.name,.int .i64 fm.cells,.slice a1 fm.params.length c1,.slice a2 fm.index.length c2,.slice a3 fm.values.length c3] 143)
 have hN0:=heap_alloc_new w (.cells #[.int .i64 fm.kind,.string fm.name,.int .i64 fm.cells,.slice a1 fm.params.length c1,.slice a2 fm.index.length c2,.slice a3 fm.values.length c3] 143)
 have h0:=h.zH hb0
 clear h
 go_enter Tryz.func172,Tryz.ntmps172
 go_wp2_with fail
 refine(zDe _ _ _ _ _ fm.name h0 hlen).mono ?_
 rintro e w2 ⟨fv,rfl,⟨pv,iv,vv,vs,rfl,b1,b2,b3,_⟩,hb2⟩
 obtain⟨ad1,cap1,rfl⟩:=zE b1
 obtain⟨ad2,cap2,rfl⟩:=zE b2
 obtain⟨ad3,cap3,rfl⟩:=zE b3
 obtain⟨_,_,_,_,_,x5,_,_,_,_,_,_⟩:=six (zK hN0 hb2)
 have hz:=zJ (zK hN0 hb2)
 have HB:=zB ((hb0.trans (hb2.mono (B':=w.heap.size) (by simp))).alloc (by omega) (.cells #[.int .i64 (Rt.zX pls fm.name).kind,.string (Rt.zX pls fm.name).name,.int .i64 (Rt.zX pls fm.name).cells,.slice ad1 (Rt.zX pls fm.name).params.length cap1,.slice ad2 (Rt.zX pls fm.name).index.length cap2,.slice ad3 (Rt.zX pls fm.name).values.length cap3] 143))
 have HE:=zB (show Rt.zDg pls fm=(decide ((Rt.zX pls fm.name).kind=3) && decide ((Rt.zX pls fm.name).params.length=fm.values.length))from rfl)
 clear h0 hb0 hN0 hb2 b1 b2 b3
 generalize (Rt.zX pls fm.name)=df at *
 by_cases hk:df.kind=3
 ·have hk':(df.kind==3)=true:=by simpa using hk
  rw[hk]at HB
  have HE2:=zB ((zA HE).trans (by rw[hk];rfl:_=decide (df.params.length=fm.values.length)))
  clear HE
  go_wp2_with fail
  go_ret
  refine⟨?_,?_⟩
  ·rw[zA HE2]
   refine zj ?_
   rw[Bool.eq_iff_iff]
   simp
   omega
  ·have:=zA HB
   first | exact this | (rw[hk];exact this)
 ·have hk':(df.kind==3)=false:=by simpa using hk
  have HE2:=zB ((zA HE).trans (by simp[hk]:_=false))
  clear HE hk
  go_wp2_with fail
  go_ret
  exact⟨by rw[zA HE2];rfl,zA HB⟩
theorem zHu {B:Nat} (w:World) (q:Nat):Below B w (w.drewN q):=⟨rfl,rfl,rfl,Nat.le_refl _,fun _ _=>rfl⟩
theorem zK2 (w:World) (B:Nat) (fm:Rt.zAU) (a1 a2 a3:Option Addr) (c1 c2 c3:Nat) (hp:w.ownsRow B 9 1 (.slice a1 fm.params.length c1) fm.params.length (fm.params.map Value.string)) (hsm:fm.params.length≤1000) :
  Calls Tryz.prog 171 #[.agg #[.int .i64 fm.kind,.string fm.name,.int .i64 fm.cells,.slice a1 fm.params.length c1,.slice a2 fm.index.length c2,.slice a3 fm.values.length c3]] w fun e w'=>e=.returned (.bool (Rt.zDz fm))∧Below w.heap.size w w':=by
 have hb0:=(Below.refl w.heap.size w).alloc (Nat.le_refl _) (.cells #[.int .i64 fm.kind,.string fm.name,.int .i64 fm.cells,.slice a1 fm.params.length c1,.slice a2 fm.index.length c2,.slice a3 fm.values.length c3] 143)
 have hN0:=heap_alloc_new w (.cells #[.int .i64 fm.kind,.string fm.name,.int .i64 fm.cells,.slice a1 fm.params.length c1,.slice a2 fm.index.length c2,.slice a3 fm.values.length c3] 143)
 have hp0:=zZ hp hb0
 by_cases hm:(fm.name.toList==Rt.zD4)=true∧0 < fm.params.length
 ·obtain⟨hm1,hm2⟩:=hm
  have HE:Hid (Rt.zDz fm=false):=zB (by simp[Rt.zDz,hm1,hm2])
  unfold Rt.zD4 at hm1
  have hm2':(0:Int) < (fm.params.length:Int):=by omega
  have HB:=zB hb0
  clear hb0 hN0 hp0 hp
  go_enter Tryz.func171,Tryz.ntmps171
  go_wp2_with fail
  go_ret
  exact⟨by rw[zA HE];rfl,zA HB⟩
 ·have HE:Hid (∀b:Prop,(Rt.zHx fm.params fm.params.length↔b)→[Decidable b]→Rt.zDz fm=decide b):=by
   refine zB ?_
   intro b hb _
   have h1:((fm.name.toList==Rt.zD4) && decide (0 < fm.params.length))=false:=by
    rw[Bool.eq_false_iff]
    intro e
    simp at e
    exact hm ⟨by simpa using e.1,by omega⟩
   rw[Rt.zDz,h1]
   simp[hb]
  have HE1:=zB ((zA HE) True)
  have HE0:=zB ((zA HE) False)
  clear HE
  have hcase:(fm.name.toList==[109,97,105,110])=true∧¬(0:Int) < (fm.params.length:Int)∨(fm.name.toList==[109,97,105,110])=false:=by
   cases e:(fm.name.toList==[109,97,105,110])with
   | true=>exact Or.inl ⟨rfl,by have:¬0 < fm.params.length:=fun x=>hm ⟨e,x⟩;omega⟩
   | false=>exact Or.inr rfl
  clear hm hp
  have hNlt:=zJ hN0
  rcases hcase with⟨hm1,hm2⟩| hm1
  all_goals
   go_enter Tryz.func171,Tryz.ntmps171
   go_wp2_with fail
   go_loopw [3,4] (fun i _ wr=>∃k:Nat,k≤fm.params.length∧i=.int .i64 k∧Rt.zHx fm.params k∧wr.heap[w.heap.size]?=some (.cells #[.int .i64 fm.kind,.string fm.name,.int .i64 fm.cells,.slice a1 fm.params.length c1,.slice a2 fm.index.length c2,.slice a3 fm.values.length c3] 143 (0,0))∧
     wr.ownsRow B 9 1 (.slice a1 fm.params.length c1) fm.params.length (fm.params.map Value.string)∧Below w.heap.size w wr)
    (fun i _ _=>fm.params.length-(intOf i).toNat)
   case atStart=>exact⟨0,Nat.zero_le _,rfl,fun i j h1 h2=>by omega,hN0,hp0,hb0⟩
   case round=>
    clear hN0 hp0 hb0
    obtain⟨k,hk,rfl,hT,hN,hp,hbe⟩:=hrel
    have HT:=zB hT
    clear hT
    obtain⟨_,_,_,x3,_,_,_,_,_,_,_,_⟩:=six hN
    by_cases hlt:k < fm.params.length
    ·try (exfalso;omega)
     all_goals
      have hlt':(k:Int) < (fm.params.length:Int):=by omega
      have HH:=zB (And.intro hN (And.intro hp hbe))
      clear hN hp hbe
      go_wp2_with fail
      go_loopw [4] (fun j wr2=>∃m:Nat,m≤k∧j=.int .i64 m∧(∀j,j < m→¬fm.params[k]?=fm.params[j]?)∧wr2.heap[w.heap.size]?=some (.cells #[.int .i64 fm.kind,.string fm.name,.int .i64 fm.cells,.slice a1 fm.params.length c1,.slice a2 fm.index.length c2,.slice a3 fm.values.length c3] 143 (0,0))∧
        wr2.ownsRow B 9 1 (.slice a1 fm.params.length c1) fm.params.length (fm.params.map Value.string)∧Below w.heap.size w wr2)
       (fun j _=>k-(intOf j).toNat)
      case atStart=>exact⟨0,Nat.zero_le _,rfl,fun j h=>by omega,(zA HH).1,(zA HH).2.1,(zA HH).2.2⟩
      case round=>
       clear HH
       obtain⟨m,hm,rfl,hT2,hN2,hp2,hbe2⟩:=hrel
       have HT2:=zB hT2
       clear hT2
       obtain⟨_,_,_,y3,_,_,_,_,_,_,_,_⟩:=six hN2
       by_cases hlt2:m < k
       ·have hlt2':(m:Int) < (k:Int):=by omega
        obtain⟨g,cap',hg,_,_,ck⟩:=zW hp2 (j:=k) (u:=.string fm.params[k]) (by simp[hlt])
        obtain⟨g',cap'',hg',_,_,cm⟩:=zW hp2 (j:=m) (u:=.string (fm.params[m]'(by omega))) (by rw[List.getElem?_map,List.getElem?_eq_getElem (by omega)];rfl)
        simp at hg hg'
        obtain⟨rfl,rfl⟩:=hg
        simp at hg'
        obtain⟨rfl,rfl⟩:=hg'
        have hm3:(m:Int) < (fm.params.length:Int):=by omega
        have hm0:(0:Int)≤(m:Int):=by omega
        have hk0:(0:Int)≤(k:Int):=by omega
        have HH:=zB (And.intro hN2 (And.intro hp2 hbe2))
        clear hN2 hp2 hbe2
        by_cases heq:fm.params[k]=fm.params[m]'(by omega)
        ·have heq':=Rt.zDv heq
         have HR:Hid (Rt.zDz fm=false):=by
          refine zB ?_
          have:=(zA HE0) ⟨fun h=>(h k m hlt2 hlt hlt (by rw[List.getElem?_eq_getElem hlt,List.getElem?_eq_getElem (by omega),heq])).elim,fun h=>h.elim⟩
          simpa using this
         clear heq
         go_wp2_with fail
         go_quiet (fail)
         go_wp2_with fail
         go_ret
         exact⟨by rw[zA HR];rfl,(zA HH).2.2.trans (zHu _ _)⟩
        ·have heq':=Rt.zFR heq
         have HT3:Hid (∀j,j < m+1→¬fm.params[k]?=fm.params[j]?):=by
          refine zB ?_
          intro j hj
          by_cases e:j=m
          ·subst e
           rw[List.getElem?_eq_getElem hlt,List.getElem?_eq_getElem (by omega)]
           simpa using heq
          ·exact zA HT2 j (by omega)
         clear heq
         go_wp2_with fail
         go_quiet (fail)
         go_wp2_with fail
         go_roundw
         case rel=>exact⟨m+1,by omega,by go_num,zA HT3,(zA HH).1,(zA HH).2.1,(zA HH).2.2.trans (zHu _ _)⟩
         case measure=>simp[intOf];omega
       ·have hlt2':¬(m:Int) < (k:Int):=by omega
        have hmk:m=k:=by omega
        have HT3:Hid (Rt.zHx fm.params (k+1)):=by
         refine zB ?_
         intro i j h1 h2 h3
         by_cases e:i=k
         ·subst e;exact zA HT2 j (by omega)
         ·exact zA HT i j h1 (by omega) h3
        have HH:=zB (And.intro hN2 (And.intro hp2 hbe2))
        clear hN2 hp2 hbe2
        go_wp2_with fail
        go_roundw
        case rel=>exact⟨k+1,by omega,by go_num,zA HT3,(zA HH).1,(zA HH).2.1,(zA HH).2.2⟩
        case measure=>simp[intOf];omega
    ·have hlt':¬(k:Int) < (fm.params.length:Int):=by omega
     have hkk:k=fm.params.length:=by omega
     have HR:Hid (Rt.zDz fm=true):=by
      refine zB ?_
      have:=(zA HE1) ⟨fun _=>trivial,fun _=>by rw[←hkk];exact zA HT⟩
      simpa using this
     have HH:=zB hbe
     clear hN hp hbe
     go_wp2_with fail
     go_ret
     exact⟨by rw[zA HR];rfl,zA HH⟩
end Go.Proofs.YthleadfkfnnadaaGreat
