/- The names of a program: checkNames. -/
import Derived.Test.YthleadfkfnnadaaGreatNames4
set_option maxHeartbeats 4000000
set_option maxRecDepth 100000
namespace Go.Proofs.YthleadfkfnnadaaGreat
open Go.RowKit
theorem zJL (a b:Nat):(((a:Int)==(b:Int)))=decide (a=b):=by rw[Bool.eq_iff_iff];simp;omega
theorem zOj (w:World) (P:Nat) (pls:List Rt.PL) (lv:Value) (cs:List (List Value)) (n:Nat) (pl:Rt.PL) (a0 a1 a2 a3:Option Addr) (c0 c1 c2 c3:Nat) (xe xf:Int) (h:zAP w P pls lv cs) (hlen:pls.length≤101)
  (hf:zAd w (P+1) #[.int .i64 pl.form.kind,.string pl.form.name,.int .i64 pl.form.cells,.slice a1 pl.form.params.length c1,.slice a2 pl.form.index.length c2,.slice a3 pl.form.values.length c3] pl.form) (h1:pl.form.kind=1) :
  Calls Tryz.prog 127 #[.pointer (some ⟨P,0,none⟩),.int .i64 n,.agg #[.slice a0 pl.zf.length c0,.int .i64 pl.form.kind,.string pl.form.name,.int .i64 pl.form.cells,.slice a1 pl.form.params.length c1,.slice a2 pl.form.index.length c2,.slice a3 pl.form.values.length c3,.int .i64 pl.depth,.int .i64 pl.opener,.int .i64 xe,.int .i64 xf,.int .i64 pl.proc]] w fun e w'=>e=.returned (.bool (Rt.zAk pls n pl))∧Below w.heap.size w w':=by
 have hb0:=(Below.refl w.heap.size w).alloc (Nat.le_refl _) (.cells #[.slice a0 pl.zf.length c0,.int .i64 pl.form.kind,.string pl.form.name,.int .i64 pl.form.cells,.slice a1 pl.form.params.length c1,.slice a2 pl.form.index.length c2,.slice a3 pl.form.values.length c3,.int .i64 pl.depth,.int .i64 pl.opener,.int .i64 xe,.int .i64 xf,.int .i64 pl.proc] 145)
 have hL0:=heap_alloc_new w (.cells #[.slice a0 pl.zf.length c0,.int .i64 pl.form.kind,.string pl.form.name,.int .i64 pl.form.cells,.slice a1 pl.form.params.length c1,.slice a2 pl.form.index.length c2,.slice a3 pl.form.values.length c3,.int .i64 pl.depth,.int .i64 pl.opener,.int .i64 xe,.int .i64 xf,.int .i64 pl.proc] 145)
 have h0:=h.zH hb0
 have hf0:=(zAD (B:=P+1) hb0).form hf
 clear h hf
 have HE:=zB (show Rt.zAk pls n pl=decide (Rt.zAE pls pl.form.name=n) by unfold Rt.zAk;rw[if_pos (by omega)])
 have b1:(pl.form.kind==1)=true:=by simpa using h1
 clear h1
 go_enter Tryz.func127,Tryz.ntmps127
 go_wp2_with fail
 refine(zB4 _ _ _ _ _ pl.form.name h0 hlen).mono ?_
 rintro e w1 ⟨rfl,rfl⟩
 have HB:=zB hb0
 clear h0 hf0 hL0 hb0
 go_wp2_with fail
 go_ret
 exact⟨by rw[zA HE];exact zj (zJL _ _),zA HB⟩
theorem zOi (w:World) (P:Nat) (pls:List Rt.PL) (lv:Value) (cs:List (List Value)) (n:Nat) (pl:Rt.PL) (a0 a1 a2 a3:Option Addr) (c0 c1 c2 c3:Nat) (xe xf:Int) (h:zAP w P pls lv cs) (hlen:pls.length≤101)
  (hf:zAd w (P+1) #[.int .i64 pl.form.kind,.string pl.form.name,.int .i64 pl.form.cells,.slice a1 pl.form.params.length c1,.slice a2 pl.form.index.length c2,.slice a3 pl.form.values.length c3] pl.form) (h1:¬pl.form.kind=1) (h2:pl.form.kind=2) :
  Calls Tryz.prog 127 #[.pointer (some ⟨P,0,none⟩),.int .i64 n,.agg #[.slice a0 pl.zf.length c0,.int .i64 pl.form.kind,.string pl.form.name,.int .i64 pl.form.cells,.slice a1 pl.form.params.length c1,.slice a2 pl.form.index.length c2,.slice a3 pl.form.values.length c3,.int .i64 pl.depth,.int .i64 pl.opener,.int .i64 xe,.int .i64 xf,.int .i64 pl.proc]] w fun e w'=>e=.returned (.bool (Rt.zAk pls n pl))∧Below w.heap.size w w':=by
 have hb0:=(Below.refl w.heap.size w).alloc (Nat.le_refl _) (.cells #[.slice a0 pl.zf.length c0,.int .i64 pl.form.kind,.string pl.form.name,.int .i64 pl.form.cells,.slice a1 pl.form.params.length c1,.slice a2 pl.form.index.length c2,.slice a3 pl.form.values.length c3,.int .i64 pl.depth,.int .i64 pl.opener,.int .i64 xe,.int .i64 xf,.int .i64 pl.proc] 145)
 have hL0:=heap_alloc_new w (.cells #[.slice a0 pl.zf.length c0,.int .i64 pl.form.kind,.string pl.form.name,.int .i64 pl.form.cells,.slice a1 pl.form.params.length c1,.slice a2 pl.form.index.length c2,.slice a3 pl.form.values.length c3,.int .i64 pl.depth,.int .i64 pl.opener,.int .i64 xe,.int .i64 xf,.int .i64 pl.proc] 145)
 have h0:=h.zH hb0
 have hf0:=(zAD (B:=P+1) hb0).form hf
 clear h hf
 have HE:=zB (show Rt.zAk pls n pl=decide (Rt.zAE pls pl.form.name=n) by unfold Rt.zAk;rw[if_pos (by omega)])
 have b1:(pl.form.kind==1)=false:=by simpa using h1
 have b2:(pl.form.kind==2)=true:=by simpa using h2
 clear h1 h2
 go_enter Tryz.func127,Tryz.ntmps127
 go_wp2_with fail
 refine(zB4 _ _ _ _ _ pl.form.name h0 hlen).mono ?_
 rintro e w1 ⟨rfl,rfl⟩
 have HB:=zB hb0
 clear h0 hf0 hL0 hb0
 go_wp2_with fail
 go_ret
 exact⟨by rw[zA HE];exact zj (zJL _ _),zA HB⟩
theorem zOh (w:World) (P:Nat) (pls:List Rt.PL) (lv:Value) (cs:List (List Value)) (n:Nat) (pl:Rt.PL) (a0 a1 a2 a3:Option Addr) (c0 c1 c2 c3:Nat) (xe xf:Int) (h:zAP w P pls lv cs) (hlen:pls.length≤101) (hsm:Rt.Small pl.form)
  (hf:zAd w (P+1) #[.int .i64 pl.form.kind,.string pl.form.name,.int .i64 pl.form.cells,.slice a1 pl.form.params.length c1,.slice a2 pl.form.index.length c2,.slice a3 pl.form.values.length c3] pl.form) (h1:¬pl.form.kind=1) (h2:¬pl.form.kind=2) (h3:pl.form.kind=3) :
  Calls Tryz.prog 127 #[.pointer (some ⟨P,0,none⟩),.int .i64 n,.agg #[.slice a0 pl.zf.length c0,.int .i64 pl.form.kind,.string pl.form.name,.int .i64 pl.form.cells,.slice a1 pl.form.params.length c1,.slice a2 pl.form.index.length c2,.slice a3 pl.form.values.length c3,.int .i64 pl.depth,.int .i64 pl.opener,.int .i64 xe,.int .i64 xf,.int .i64 pl.proc]] w fun e w'=>e=.returned (.bool (Rt.zAk pls n pl))∧Below w.heap.size w w':=by
 have hb0:=(Below.refl w.heap.size w).alloc (Nat.le_refl _) (.cells #[.slice a0 pl.zf.length c0,.int .i64 pl.form.kind,.string pl.form.name,.int .i64 pl.form.cells,.slice a1 pl.form.params.length c1,.slice a2 pl.form.index.length c2,.slice a3 pl.form.values.length c3,.int .i64 pl.depth,.int .i64 pl.opener,.int .i64 xe,.int .i64 xf,.int .i64 pl.proc] 145)
 have hL0:=heap_alloc_new w (.cells #[.slice a0 pl.zf.length c0,.int .i64 pl.form.kind,.string pl.form.name,.int .i64 pl.form.cells,.slice a1 pl.form.params.length c1,.slice a2 pl.form.index.length c2,.slice a3 pl.form.values.length c3,.int .i64 pl.depth,.int .i64 pl.opener,.int .i64 xe,.int .i64 xf,.int .i64 pl.proc] 145)
 have h0:=h.zH hb0
 have hf0:=(zAD (B:=P+1) hb0).form hf
 clear h hf
 have HE:=zB (show Rt.zAk pls n pl=(decide (Rt.zAE pls pl.form.name=n) && Rt.zDz pl.form) by unfold Rt.zAk;rw[if_neg (by omega),if_pos (by omega)])
 have b1:(pl.form.kind==1)=false:=by simpa using h1
 have b2:(pl.form.kind==2)=false:=by simpa using h2
 have b3:(pl.form.kind==3)=true:=by simpa using h3
 clear h1 h2 h3
 obtain⟨pv,iv,vv,vs,hfv,p1,p2,p3,p4⟩:=hf0
 simp at hfv
 obtain⟨rfl,rfl,rfl⟩:=hfv
 by_cases hd:Rt.zAE pls pl.form.name=n
 ·have hd':(((Rt.zAE pls pl.form.name:Nat):Int)==(n:Int))=true:=by rw[zJL];simpa using hd
  have HE2:=zB ((zA HE).trans (by rw[hd];simp:_=Rt.zDz pl.form))
  clear hd HE
  go_enter Tryz.func127,Tryz.ntmps127
  go_wp2_with fail
  refine(zB4 _ _ _ _ _ pl.form.name h0 hlen).mono ?_
  rintro e w1 ⟨rfl,rfl⟩
  go_wp2_with fail
  refine(zK2 _ _ pl.form a1 a2 a3 c1 c2 c3 p1 (Nat.le_trans hsm.params (by omega))).mono ?_
  rintro e w2 ⟨rfl,hb2⟩
  have HB:=zB (hb0.trans (hb2.mono (B':=w.heap.size) (by simp)))
  clear h0 hL0 hb0 hb2 p1 p2 p3 p4
  go_wp2_with fail
  go_ret
  exact⟨by rw[zA HE2];first | rfl | simp,zA HB⟩
 ·have hd':(((Rt.zAE pls pl.form.name:Nat):Int)==(n:Int))=false:=by rw[zJL];simpa using hd
  have HE2:=zB ((zA HE).trans (by simp[hd]:_=false))
  clear hd HE
  go_enter Tryz.func127,Tryz.ntmps127
  go_wp2_with fail
  refine(zB4 _ _ _ _ _ pl.form.name h0 hlen).mono ?_
  rintro e w1 ⟨rfl,rfl⟩
  have HB:=zB hb0
  clear h0 hL0 hb0 p1 p2 p3 p4
  go_wp2_with fail
  go_ret
  exact⟨by rw[zA HE2];first | rfl | simp,zA HB⟩
theorem zOg (w:World) (P:Nat) (pls:List Rt.PL) (lv:Value) (cs:List (List Value)) (n:Nat) (pl:Rt.PL) (a0 a1 a2 a3:Option Addr) (c0 c1 c2 c3:Nat) (xe xf:Int) (h:zAP w P pls lv cs) (hlen:pls.length≤101) (hpar:(Rt.zT pls pl.proc).params.length≤1000) (hsm:Rt.Small pl.form)
  (hf:zAd w (P+1) #[.int .i64 pl.form.kind,.string pl.form.name,.int .i64 pl.form.cells,.slice a1 pl.form.params.length c1,.slice a2 pl.form.index.length c2,.slice a3 pl.form.values.length c3] pl.form) (h1:¬pl.form.kind=1) (h2:¬pl.form.kind=2) (h3:¬pl.form.kind=3) (h8:pl.form.kind=8) :
  Calls Tryz.prog 127 #[.pointer (some ⟨P,0,none⟩),.int .i64 n,.agg #[.slice a0 pl.zf.length c0,.int .i64 pl.form.kind,.string pl.form.name,.int .i64 pl.form.cells,.slice a1 pl.form.params.length c1,.slice a2 pl.form.index.length c2,.slice a3 pl.form.values.length c3,.int .i64 pl.depth,.int .i64 pl.opener,.int .i64 xe,.int .i64 xf,.int .i64 pl.proc]] w fun e w'=>e=.returned (.bool (Rt.zAk pls n pl))∧Below w.heap.size w w':=by
 have hb0:=(Below.refl w.heap.size w).alloc (Nat.le_refl _) (.cells #[.slice a0 pl.zf.length c0,.int .i64 pl.form.kind,.string pl.form.name,.int .i64 pl.form.cells,.slice a1 pl.form.params.length c1,.slice a2 pl.form.index.length c2,.slice a3 pl.form.values.length c3,.int .i64 pl.depth,.int .i64 pl.opener,.int .i64 xe,.int .i64 xf,.int .i64 pl.proc] 145)
 have hL0:=heap_alloc_new w (.cells #[.slice a0 pl.zf.length c0,.int .i64 pl.form.kind,.string pl.form.name,.int .i64 pl.form.cells,.slice a1 pl.form.params.length c1,.slice a2 pl.form.index.length c2,.slice a3 pl.form.values.length c3,.int .i64 pl.depth,.int .i64 pl.opener,.int .i64 xe,.int .i64 xf,.int .i64 pl.proc] 145)
 have h0:=h.zH hb0
 have hf0:=(zAD (B:=P+1) hb0).form hf
 clear h hf
 have HE0:=zB (show Rt.zAk pls n pl=(Rt.isVar pls pl.proc pl.form.name && Rt.zAr pls pl) by unfold Rt.zAk;rw[if_neg (by omega),if_neg (by omega),if_pos (by omega)])
 have b1:(pl.form.kind==1)=false:=by simpa using h1
 have b2:(pl.form.kind==2)=false:=by simpa using h2
 have b3:(pl.form.kind==3)=false:=by simpa using h3
 have b8:(pl.form.kind==8)=true:=by simpa using h8
 clear h1 h2 h3 h8
 go_enter Tryz.func127,Tryz.ntmps127
 go_wp2_with fail
 refine(zD7 _ _ _ _ _ pl.proc pl.form.name h0 hlen hpar).mono ?_
 rintro e w1 ⟨rfl,hb1⟩
 have hbe1:=hb0.trans (hb1.mono (B':=w.heap.size) (by simp))
 have h1:=h0.zH hb1
 have hf1:=(zAD (B:=P+1) hb1).form hf0
 have hL1:=zK hL0 hb1
 clear h0 hf0 hL0 hb0 hb1
 cases hv:Rt.isVar pls pl.proc pl.form.name with
 | false=>
  have HE:=zB ((zA HE0).trans (by rw[hv];rfl:_=false))
  have HB:=zB hbe1
  clear HE0 hv h1 hf1 hL1 hbe1
  go_wp2_with fail
  go_ret
  exact⟨by rw[zA HE];rfl,zA HB⟩
 | true=>
  have HE:=zB ((zA HE0).trans (by rw[hv];rfl:_=Rt.zAr pls pl))
  clear HE0 hv
  obtain⟨l0,l1,l2,l3,l4,l5,l6,l7,l8,l9,l10,l11⟩:=zC0 hL1
  go_wp2_with fail
  refine(zBb _ _ _ _ _ pl a0 a1 a2 a3 c0 c1 c2 c3 xe xf h1 hlen hpar hsm hf1).mono ?_
  rintro e w9 ⟨rfl,hb9⟩
  have HB:=zB (hbe1.trans (hb9.mono (B':=w.heap.size) (by have:=(hbe1).size;omega)))
  clear hb9
  go_wp2_with fail
  go_ret
  exact⟨by rw[zA HE];rfl,zA HB⟩
theorem zNF (w:World) (P:Nat) (pls:List Rt.PL) (lv:Value) (cs:List (List Value)) (n:Nat) (pl:Rt.PL) (a0 a1 a2 a3:Option Addr) (c0 c1 c2 c3:Nat) (xe xf:Int) (h:zAP w P pls lv cs) (hlen:pls.length≤101) (hpar:(Rt.zT pls pl.proc).params.length≤1000) (hsm:Rt.Small pl.form)
  (hf:zAd w (P+1) #[.int .i64 pl.form.kind,.string pl.form.name,.int .i64 pl.form.cells,.slice a1 pl.form.params.length c1,.slice a2 pl.form.index.length c2,.slice a3 pl.form.values.length c3] pl.form) (h1:¬pl.form.kind=1) (h2:¬pl.form.kind=2) (h3:¬pl.form.kind=3) (h8:¬pl.form.kind=8) (h11:pl.form.kind=11) :
  Calls Tryz.prog 127 #[.pointer (some ⟨P,0,none⟩),.int .i64 n,.agg #[.slice a0 pl.zf.length c0,.int .i64 pl.form.kind,.string pl.form.name,.int .i64 pl.form.cells,.slice a1 pl.form.params.length c1,.slice a2 pl.form.index.length c2,.slice a3 pl.form.values.length c3,.int .i64 pl.depth,.int .i64 pl.opener,.int .i64 xe,.int .i64 xf,.int .i64 pl.proc]] w fun e w'=>e=.returned (.bool (Rt.zAk pls n pl))∧Below w.heap.size w w':=by
 have hb0:=(Below.refl w.heap.size w).alloc (Nat.le_refl _) (.cells #[.slice a0 pl.zf.length c0,.int .i64 pl.form.kind,.string pl.form.name,.int .i64 pl.form.cells,.slice a1 pl.form.params.length c1,.slice a2 pl.form.index.length c2,.slice a3 pl.form.values.length c3,.int .i64 pl.depth,.int .i64 pl.opener,.int .i64 xe,.int .i64 xf,.int .i64 pl.proc] 145)
 have hL0:=heap_alloc_new w (.cells #[.slice a0 pl.zf.length c0,.int .i64 pl.form.kind,.string pl.form.name,.int .i64 pl.form.cells,.slice a1 pl.form.params.length c1,.slice a2 pl.form.index.length c2,.slice a3 pl.form.values.length c3,.int .i64 pl.depth,.int .i64 pl.opener,.int .i64 xe,.int .i64 xf,.int .i64 pl.proc] 145)
 have h0:=h.zH hb0
 have hf0:=(zAD (B:=P+1) hb0).form hf
 clear h hf
 have HE0:=zB (show Rt.zAk pls n pl=(Rt.isVar pls pl.proc pl.form.name && Rt.zAr pls pl) by unfold Rt.zAk;rw[if_neg (by omega),if_neg (by omega),if_pos (by omega)])
 have b1:(pl.form.kind==1)=false:=by simpa using h1
 have b2:(pl.form.kind==2)=false:=by simpa using h2
 have b3:(pl.form.kind==3)=false:=by simpa using h3
 have b8:(pl.form.kind==8)=false:=by simpa using h8
 have b11:(pl.form.kind==11)=true:=by simpa using h11
 clear h1 h2 h3 h8 h11
 go_enter Tryz.func127,Tryz.ntmps127
 go_wp2_with fail
 refine(zD7 _ _ _ _ _ pl.proc pl.form.name h0 hlen hpar).mono ?_
 rintro e w1 ⟨rfl,hb1⟩
 have hbe1:=hb0.trans (hb1.mono (B':=w.heap.size) (by simp))
 have h1:=h0.zH hb1
 have hf1:=(zAD (B:=P+1) hb1).form hf0
 have hL1:=zK hL0 hb1
 clear h0 hf0 hL0 hb0 hb1
 cases hv:Rt.isVar pls pl.proc pl.form.name with
 | false=>
  have HE:=zB ((zA HE0).trans (by rw[hv];rfl:_=false))
  have HB:=zB hbe1
  clear HE0 hv h1 hf1 hL1 hbe1
  go_wp2_with fail
  go_ret
  exact⟨by rw[zA HE];rfl,zA HB⟩
 | true=>
  have HE:=zB ((zA HE0).trans (by rw[hv];rfl:_=Rt.zAr pls pl))
  clear HE0 hv
  obtain⟨l0,l1,l2,l3,l4,l5,l6,l7,l8,l9,l10,l11⟩:=zC0 hL1
  go_wp2_with fail
  refine(zBb _ _ _ _ _ pl a0 a1 a2 a3 c0 c1 c2 c3 xe xf h1 hlen hpar hsm hf1).mono ?_
  rintro e w9 ⟨rfl,hb9⟩
  have HB:=zB (hbe1.trans (hb9.mono (B':=w.heap.size) (by have:=(hbe1).size;omega)))
  clear hb9
  go_wp2_with fail
  go_ret
  exact⟨by rw[zA HE];rfl,zA HB⟩
theorem zOf (w:World) (P:Nat) (pls:List Rt.PL) (lv:Value) (cs:List (List Value)) (n:Nat) (pl:Rt.PL) (a0 a1 a2 a3:Option Addr) (c0 c1 c2 c3:Nat) (xe xf:Int) (h:zAP w P pls lv cs) (hlen:pls.length≤101) (hpar:(Rt.zT pls pl.proc).params.length≤1000) (hsm:Rt.Small pl.form)
  (hf:zAd w (P+1) #[.int .i64 pl.form.kind,.string pl.form.name,.int .i64 pl.form.cells,.slice a1 pl.form.params.length c1,.slice a2 pl.form.index.length c2,.slice a3 pl.form.values.length c3] pl.form) (h1:¬pl.form.kind=1) (h2:¬pl.form.kind=2) (h3:¬pl.form.kind=3) (h8:¬pl.form.kind=8) (h11:¬pl.form.kind=11) (h9:pl.form.kind=9) :
  Calls Tryz.prog 127 #[.pointer (some ⟨P,0,none⟩),.int .i64 n,.agg #[.slice a0 pl.zf.length c0,.int .i64 pl.form.kind,.string pl.form.name,.int .i64 pl.form.cells,.slice a1 pl.form.params.length c1,.slice a2 pl.form.index.length c2,.slice a3 pl.form.values.length c3,.int .i64 pl.depth,.int .i64 pl.opener,.int .i64 xe,.int .i64 xf,.int .i64 pl.proc]] w fun e w'=>e=.returned (.bool (Rt.zAk pls n pl))∧Below w.heap.size w w':=by
 have hb0:=(Below.refl w.heap.size w).alloc (Nat.le_refl _) (.cells #[.slice a0 pl.zf.length c0,.int .i64 pl.form.kind,.string pl.form.name,.int .i64 pl.form.cells,.slice a1 pl.form.params.length c1,.slice a2 pl.form.index.length c2,.slice a3 pl.form.values.length c3,.int .i64 pl.depth,.int .i64 pl.opener,.int .i64 xe,.int .i64 xf,.int .i64 pl.proc] 145)
 have hL0:=heap_alloc_new w (.cells #[.slice a0 pl.zf.length c0,.int .i64 pl.form.kind,.string pl.form.name,.int .i64 pl.form.cells,.slice a1 pl.form.params.length c1,.slice a2 pl.form.index.length c2,.slice a3 pl.form.values.length c3,.int .i64 pl.depth,.int .i64 pl.opener,.int .i64 xe,.int .i64 xf,.int .i64 pl.proc] 145)
 have h0:=h.zH hb0
 have hf0:=(zAD (B:=P+1) hb0).form hf
 clear h hf
 have HE0:=zB (show Rt.zAk pls n pl=(Rt.zCN pls pl.proc pl.form.name && Rt.zAr pls pl) by unfold Rt.zAk;rw[if_neg (by omega),if_neg (by omega),if_neg (by omega),if_pos (by omega)])
 have b1:(pl.form.kind==1)=false:=by simpa using h1
 have b2:(pl.form.kind==2)=false:=by simpa using h2
 have b3:(pl.form.kind==3)=false:=by simpa using h3
 have b8:(pl.form.kind==8)=false:=by simpa using h8
 have b11:(pl.form.kind==11)=false:=by simpa using h11
 have b9:(pl.form.kind==9)=true:=by simpa using h9
 clear h1 h2 h3 h8 h11 h9
 go_enter Tryz.func127,Tryz.ntmps127
 go_wp2_with fail
 refine(zIq _ _ _ _ _ pl.proc pl.form.name h0 hlen hpar).mono ?_
 rintro e w1 ⟨rfl,hb1⟩
 have hbe1:=hb0.trans (hb1.mono (B':=w.heap.size) (by simp))
 have h1:=h0.zH hb1
 have hf1:=(zAD (B:=P+1) hb1).form hf0
 have hL1:=zK hL0 hb1
 clear h0 hf0 hL0 hb0 hb1
 cases hv:Rt.zCN pls pl.proc pl.form.name with
 | false=>
  have HE:=zB ((zA HE0).trans (by rw[hv];rfl:_=false))
  have HB:=zB hbe1
  clear HE0 hv h1 hf1 hL1 hbe1
  go_wp2_with fail
  go_ret
  exact⟨by rw[zA HE];rfl,zA HB⟩
 | true=>
  have HE:=zB ((zA HE0).trans (by rw[hv];rfl:_=Rt.zAr pls pl))
  clear HE0 hv
  obtain⟨l0,l1,l2,l3,l4,l5,l6,l7,l8,l9,l10,l11⟩:=zC0 hL1
  go_wp2_with fail
  refine(zBb _ _ _ _ _ pl a0 a1 a2 a3 c0 c1 c2 c3 xe xf h1 hlen hpar hsm hf1).mono ?_
  rintro e w9 ⟨rfl,hb9⟩
  have HB:=zB (hbe1.trans (hb9.mono (B':=w.heap.size) (by have:=(hbe1).size;omega)))
  clear hb9
  go_wp2_with fail
  go_ret
  exact⟨by rw[zA HE];rfl,zA HB⟩
theorem zNE (w:World) (P:Nat) (pls:List Rt.PL) (lv:Value) (cs:List (List Value)) (n:Nat) (pl:Rt.PL) (a0 a1 a2 a3:Option Addr) (c0 c1 c2 c3:Nat) (xe xf:Int) (h:zAP w P pls lv cs) (hlen:pls.length≤101) (hpar:(Rt.zT pls pl.proc).params.length≤1000) (hsm:Rt.Small pl.form)
  (hf:zAd w (P+1) #[.int .i64 pl.form.kind,.string pl.form.name,.int .i64 pl.form.cells,.slice a1 pl.form.params.length c1,.slice a2 pl.form.index.length c2,.slice a3 pl.form.values.length c3] pl.form) (h1:¬pl.form.kind=1) (h2:¬pl.form.kind=2) (h3:¬pl.form.kind=3) (h8:¬pl.form.kind=8) (h11:¬pl.form.kind=11) (h9:¬pl.form.kind=9) (h12:pl.form.kind=12) :
  Calls Tryz.prog 127 #[.pointer (some ⟨P,0,none⟩),.int .i64 n,.agg #[.slice a0 pl.zf.length c0,.int .i64 pl.form.kind,.string pl.form.name,.int .i64 pl.form.cells,.slice a1 pl.form.params.length c1,.slice a2 pl.form.index.length c2,.slice a3 pl.form.values.length c3,.int .i64 pl.depth,.int .i64 pl.opener,.int .i64 xe,.int .i64 xf,.int .i64 pl.proc]] w fun e w'=>e=.returned (.bool (Rt.zAk pls n pl))∧Below w.heap.size w w':=by
 have hb0:=(Below.refl w.heap.size w).alloc (Nat.le_refl _) (.cells #[.slice a0 pl.zf.length c0,.int .i64 pl.form.kind,.string pl.form.name,.int .i64 pl.form.cells,.slice a1 pl.form.params.length c1,.slice a2 pl.form.index.length c2,.slice a3 pl.form.values.length c3,.int .i64 pl.depth,.int .i64 pl.opener,.int .i64 xe,.int .i64 xf,.int .i64 pl.proc] 145)
 have hL0:=heap_alloc_new w (.cells #[.slice a0 pl.zf.length c0,.int .i64 pl.form.kind,.string pl.form.name,.int .i64 pl.form.cells,.slice a1 pl.form.params.length c1,.slice a2 pl.form.index.length c2,.slice a3 pl.form.values.length c3,.int .i64 pl.depth,.int .i64 pl.opener,.int .i64 xe,.int .i64 xf,.int .i64 pl.proc] 145)
 have h0:=h.zH hb0
 have hf0:=(zAD (B:=P+1) hb0).form hf
 clear h hf
 have HE0:=zB (show Rt.zAk pls n pl=(Rt.zDg pls pl.form && Rt.zAr pls pl) by unfold Rt.zAk;rw[if_neg (by omega),if_neg (by omega),if_neg (by omega),if_neg (by omega),if_pos (by omega)])
 have b1:(pl.form.kind==1)=false:=by simpa using h1
 have b2:(pl.form.kind==2)=false:=by simpa using h2
 have b3:(pl.form.kind==3)=false:=by simpa using h3
 have b8:(pl.form.kind==8)=false:=by simpa using h8
 have b11:(pl.form.kind==11)=false:=by simpa using h11
 have b9:(pl.form.kind==9)=false:=by simpa using h9
 have b12:(pl.form.kind==12)=true:=by simpa using h12
 clear h1 h2 h3 h8 h11 h9 h12
 go_enter Tryz.func127,Tryz.ntmps127
 go_wp2_with fail
 refine(zMf _ _ _ _ _ pl.form a1 a2 a3 c1 c2 c3 h0 hlen).mono ?_
 rintro e w1 ⟨rfl,hb1⟩
 have hbe1:=hb0.trans (hb1.mono (B':=w.heap.size) (by simp))
 have h1:=h0.zH hb1
 have hf1:=(zAD (B:=P+1) hb1).form hf0
 have hL1:=zK hL0 hb1
 clear h0 hf0 hL0 hb0 hb1
 cases hv:Rt.zDg pls pl.form with
 | false=>
  have HE:=zB ((zA HE0).trans (by rw[hv];rfl:_=false))
  have HB:=zB hbe1
  clear HE0 hv h1 hf1 hL1 hbe1
  go_wp2_with fail
  go_ret
  exact⟨by rw[zA HE];rfl,zA HB⟩
 | true=>
  have HE:=zB ((zA HE0).trans (by rw[hv];rfl:_=Rt.zAr pls pl))
  clear HE0 hv
  obtain⟨l0,l1,l2,l3,l4,l5,l6,l7,l8,l9,l10,l11⟩:=zC0 hL1
  go_wp2_with fail
  refine(zBb _ _ _ _ _ pl a0 a1 a2 a3 c0 c1 c2 c3 xe xf h1 hlen hpar hsm hf1).mono ?_
  rintro e w9 ⟨rfl,hb9⟩
  have HB:=zB (hbe1.trans (hb9.mono (B':=w.heap.size) (by have:=(hbe1).size;omega)))
  clear hb9
  go_wp2_with fail
  go_ret
  exact⟨by rw[zA HE];rfl,zA HB⟩
theorem zJ0 (w:World) (P:Nat) (pls:List Rt.PL) (lv:Value) (cs:List (List Value)) (n:Nat) (pl:Rt.PL) (a0 a1 a2 a3:Option Addr) (c0 c1 c2 c3:Nat) (xe xf:Int) (h:zAP w P pls lv cs) (hlen:pls.length≤101) (hpar:(Rt.zT pls pl.proc).params.length≤1000) (hsm:Rt.Small pl.form)
  (hf:zAd w (P+1) #[.int .i64 pl.form.kind,.string pl.form.name,.int .i64 pl.form.cells,.slice a1 pl.form.params.length c1,.slice a2 pl.form.index.length c2,.slice a3 pl.form.values.length c3] pl.form) (h1:¬pl.form.kind=1) (h2:¬pl.form.kind=2) (h3:¬pl.form.kind=3) (h8:¬pl.form.kind=8) (h11:¬pl.form.kind=11) (h9:¬pl.form.kind=9) (h12:¬pl.form.kind=12) :
  Calls Tryz.prog 127 #[.pointer (some ⟨P,0,none⟩),.int .i64 n,.agg #[.slice a0 pl.zf.length c0,.int .i64 pl.form.kind,.string pl.form.name,.int .i64 pl.form.cells,.slice a1 pl.form.params.length c1,.slice a2 pl.form.index.length c2,.slice a3 pl.form.values.length c3,.int .i64 pl.depth,.int .i64 pl.opener,.int .i64 xe,.int .i64 xf,.int .i64 pl.proc]] w fun e w'=>e=.returned (.bool (Rt.zAk pls n pl))∧Below w.heap.size w w':=by
 have hb0:=(Below.refl w.heap.size w).alloc (Nat.le_refl _) (.cells #[.slice a0 pl.zf.length c0,.int .i64 pl.form.kind,.string pl.form.name,.int .i64 pl.form.cells,.slice a1 pl.form.params.length c1,.slice a2 pl.form.index.length c2,.slice a3 pl.form.values.length c3,.int .i64 pl.depth,.int .i64 pl.opener,.int .i64 xe,.int .i64 xf,.int .i64 pl.proc] 145)
 have hL0:=heap_alloc_new w (.cells #[.slice a0 pl.zf.length c0,.int .i64 pl.form.kind,.string pl.form.name,.int .i64 pl.form.cells,.slice a1 pl.form.params.length c1,.slice a2 pl.form.index.length c2,.slice a3 pl.form.values.length c3,.int .i64 pl.depth,.int .i64 pl.opener,.int .i64 xe,.int .i64 xf,.int .i64 pl.proc] 145)
 have h0:=h.zH hb0
 have hf0:=(zAD (B:=P+1) hb0).form hf
 clear h hf
 have HE:=zB (show Rt.zAk pls n pl=Rt.zAr pls pl by unfold Rt.zAk;rw[if_neg (by omega),if_neg (by omega),if_neg (by omega),if_neg (by omega),if_neg (by omega)])
 have b1:(pl.form.kind==1)=false:=by simpa using h1
 have b2:(pl.form.kind==2)=false:=by simpa using h2
 have b3:(pl.form.kind==3)=false:=by simpa using h3
 have b8:(pl.form.kind==8)=false:=by simpa using h8
 have b11:(pl.form.kind==11)=false:=by simpa using h11
 have b9:(pl.form.kind==9)=false:=by simpa using h9
 have b12:(pl.form.kind==12)=false:=by simpa using h12
 clear h1 h2 h3 h8 h11 h9 h12
 go_enter Tryz.func127,Tryz.ntmps127
 go_wp2_with fail
 refine(zBb _ _ _ _ _ pl a0 a1 a2 a3 c0 c1 c2 c3 xe xf h0 hlen hpar hsm hf0).mono ?_
 rintro e w9 ⟨rfl,hb9⟩
 have HB:=zB (hb0.trans (hb9.mono (B':=w.heap.size) (by simp)))
 clear h0 hf0 hL0 hb0 hb9
 go_wp2_with fail
 go_ret
 exact⟨by rw[zA HE];rfl,zA HB⟩
theorem zMJ (w:World) (P:Nat) (pls:List Rt.PL) (lv:Value) (cs:List (List Value)) (n:Nat) (pl:Rt.PL) (a0 a1 a2 a3:Option Addr) (c0 c1 c2 c3:Nat) (xe xf:Int) (h:zAP w P pls lv cs) (hlen:pls.length≤101) (hpar:(Rt.zT pls pl.proc).params.length≤1000) (hsm:Rt.Small pl.form)
  (hf:zAd w (P+1) #[.int .i64 pl.form.kind,.string pl.form.name,.int .i64 pl.form.cells,.slice a1 pl.form.params.length c1,.slice a2 pl.form.index.length c2,.slice a3 pl.form.values.length c3] pl.form) :
  Calls Tryz.prog 127 #[.pointer (some ⟨P,0,none⟩),.int .i64 n,.agg #[.slice a0 pl.zf.length c0,.int .i64 pl.form.kind,.string pl.form.name,.int .i64 pl.form.cells,.slice a1 pl.form.params.length c1,.slice a2 pl.form.index.length c2,.slice a3 pl.form.values.length c3,.int .i64 pl.depth,.int .i64 pl.opener,.int .i64 xe,.int .i64 xf,.int .i64 pl.proc]] w fun e w'=>e=.returned (.bool (Rt.zAk pls n pl))∧Below w.heap.size w w':=by
 by_cases h1:pl.form.kind=1
 ·exact zOj w P pls lv cs n pl a0 a1 a2 a3 c0 c1 c2 c3 xe xf h hlen hf  h1
 by_cases h2:pl.form.kind=2
 ·exact zOi w P pls lv cs n pl a0 a1 a2 a3 c0 c1 c2 c3 xe xf h hlen hf h1 h2
 by_cases h3:pl.form.kind=3
 ·exact zOh w P pls lv cs n pl a0 a1 a2 a3 c0 c1 c2 c3 xe xf h hlen hsm hf h1 h2 h3
 by_cases h8:pl.form.kind=8
 ·exact zOg w P pls lv cs n pl a0 a1 a2 a3 c0 c1 c2 c3 xe xf h hlen hpar hsm hf h1 h2 h3 h8
 by_cases h11:pl.form.kind=11
 ·exact zNF w P pls lv cs n pl a0 a1 a2 a3 c0 c1 c2 c3 xe xf h hlen hpar hsm hf h1 h2 h3 h8 h11
 by_cases h9:pl.form.kind=9
 ·exact zOf w P pls lv cs n pl a0 a1 a2 a3 c0 c1 c2 c3 xe xf h hlen hpar hsm hf h1 h2 h3 h8 h11 h9
 by_cases h12:pl.form.kind=12
 ·exact zNE w P pls lv cs n pl a0 a1 a2 a3 c0 c1 c2 c3 xe xf h hlen hpar hsm hf h1 h2 h3 h8 h11 h9 h12
 exact zJ0 w P pls lv cs n pl a0 a1 a2 a3 c0 c1 c2 c3 xe xf h hlen hpar hsm hf h1 h2 h3 h8 h11 h9 h12
theorem zKd (w:World) (P:Nat) (pls:List Rt.PL) (lv:Value) (cs:List (List Value)) (h:zAP w P pls lv cs) (hlen:pls.length≤101) (hall:∀p∈pls,Rt.Small p.form) :
    Calls Tryz.prog 77 #[.pointer (some ⟨P,0,none⟩)] w fun e w'=>Below w.heap.size w w'∧
      ((¬Rt.nameErr pls 1 (pls.drop 1)=0∧e=.returned (.tuple #[.int .i64 4,.int .i64 (Rt.nameErr pls 1 (pls.drop 1))]))∨
       (Rt.nameErr pls 1 (pls.drop 1)=0∧¬(Rt.zX pls Rt.zy).kind=3∧e=.returned (.tuple #[.int .i64 4,.int .i64 0]))∨
       (Rt.nameErr pls 1 (pls.drop 1)=0∧(Rt.zX pls Rt.zy).kind=3∧e=.returned (.tuple #[.int .i64 0,.int .i64 0]))):=by
  have HALL:=zB hall
  clear hall
  go_enter Tryz.func77,Tryz.ntmps77
  go_wp2_with fail
  go_loopw [4] (fun i wr=>∃k:Nat,1≤k∧k≤pls.length+1∧i=.int .i64 k∧Rt.nameErr pls k (pls.drop k)=Rt.nameErr pls 1 (pls.drop 1)∧zAP wr P pls lv cs∧Below w.heap.size w wr)
    (fun i _=>pls.length+1-(intOf i).toNat)
  case atStart=>exact⟨1,Nat.le_refl _,by omega,rfl,rfl,h,Below.refl _ _⟩
  case round=>
    clear h
    obtain⟨k,hk1,hk,rfl,hT,hpr,hbe⟩:=hrel
    have HT:=zB hT
    clear hT
    have hsz:=hbe.size
    obtain⟨ad,cap,hlv,cP⟩:=hpr.zEV
    by_cases hlt:k < pls.length
    · have hlt':(k:Int) < (pls.length:Int):=by omega
      have hk0:(0:Int)≤(k:Int):=by omega
      obtain⟨g,cap',a0,a1,a2,a3,e0,e1,e2,e3,xe,xf,hlv',_,hglt,⟨d0,d1,d2,d3,d4,d5,d6,d7,d8,d9,d10,d11⟩,htk,hfv⟩:=hpr.at hlt
      have hlv2:=hlv.symm.trans hlv'
      simp at hlv2
      obtain⟨rfl,rfl⟩:=hlv2
      have hpar:=Rt.zHC (zA HALL) pls[k].proc
      have hsm:=(zA HALL) pls[k] (List.getElem_mem hlt)
      have hdrop:pls.drop k=pls[k]::pls.drop (k+1):=List.drop_eq_getElem_cons hlt
      have HN:Hid (∀b,Rt.zAk pls k pls[k]=b→Rt.nameErr pls 1 (pls.drop 1)=if b=true then Rt.nameErr pls (k+1) (pls.drop (k+1))else k):=by
        refine zB ?_
        intro b hb
        rw[←zA HT,hdrop,Rt.nameErr,hb]
      clear hlv hlv' htk hdrop HT
      generalize pls[k]=p at *
      go_wp2_with fail
      refine(zMJ _ _ _ _ _ k p a0 a1 a2 a3 e0 e1 e2 e3 xe xf hpr hlen hpar hsm hfv).mono ?_
      rintro e w2 ⟨rfl,hb2⟩
      cases hv:Rt.zAk pls k p with
      | true=>
        have HE:=zB ((zA HN) true hv)
        have HP:=zB (And.intro (hpr.zH hb2) (hbe.trans (hb2.mono (B':=w.heap.size) hsz)))
        clear hpr hbe hb2 hv hfv HN
        go_wp2_with fail
        go_roundw
        case rel=>exact⟨k+1,by omega,by omega,by go_num,by have:=zA HE;rw[if_pos trivial]at this;exact this.symm,(zA HP).1,(zA HP).2⟩
        case measure=>simp[intOf];omega
      | false=>
        have HE:=zB ((zA HN) false hv)
        have HP:=zB (hbe.trans (hb2.mono (B':=w.heap.size) hsz))
        clear hpr hbe hb2 hv hfv HN
        go_wp2_with fail
        go_ret2
        have hE:=zA HE
        rw[if_neg (by decide)]at hE
        exact⟨zA HP,Or.inl ⟨by omega,by rw[hE];simp⟩⟩
    · have HE:Hid (Rt.nameErr pls 1 (pls.drop 1)=0):=by
        refine zB ?_
        rw[←zA HT,List.drop_eq_nil_of_le (by omega),Rt.nameErr]
      have hlt':¬(k:Int) < (pls.length:Int):=by omega
      clear hlv HT
      go_wp2_with fail
      refine(zDe _ _ _ _ _ Rt.zy hpr hlen).mono ?_
      rintro e w2 ⟨fv,rfl,⟨pv,iv,vv,vs,rfl,b1,b2,b3,_⟩,hb2⟩
      obtain⟨ad1,cap1,rfl⟩:=zE b1
      obtain⟨ad2,cap2,rfl⟩:=zE b2
      obtain⟨ad3,cap3,rfl⟩:=zE b3
      have HP:=zB (hbe.trans (hb2.mono (B':=w.heap.size) hsz))
      clear hpr hbe hb2 b1 b2 b3
      have hfl:=Tryz.zJG (Rt.zX pls Rt.zy).kind (.string (Rt.zX pls Rt.zy).name) (.int .i64 (Rt.zX pls Rt.zy).cells) (.slice ad1 (Rt.zX pls Rt.zy).params.length cap1) (.slice ad2 (Rt.zX pls Rt.zy).index.length cap2) (.slice ad3 (Rt.zX pls Rt.zy).values.length cap3)
      by_cases hm:(Rt.zX pls Rt.zy).kind=3
      · have hm':((Rt.zX pls Rt.zy).kind != 3)=false:=by simp[hm]
        have HM:=zB hm
        clear hm
        go_wp2_with fail
        go_ret2
        exact⟨zA HP,Or.inr (Or.inr ⟨zA HE,zA HM,rfl⟩)⟩
      · have hm':((Rt.zX pls Rt.zy).kind != 3)=true:=by simp[hm]
        have HM:=zB hm
        clear hm
        go_wp2_with fail
        go_ret2
        exact⟨zA HP,Or.inr (Or.inl ⟨zA HE,zA HM,rfl⟩)⟩
end Go.Proofs.YthleadfkfnnadaaGreat
