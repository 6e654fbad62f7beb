/- The numbers of elses and ends that lines bear: plain. -/
import Derived.Test.YthleadfkfnnadaaGreatNest1
import Derived.Test.YthleadfkfnnadaaGreatProg0
set_option maxHeartbeats 4000000
set_option maxRecDepth 100000
namespace Go.Proofs.YthleadfkfnnadaaGreat
open Go.RowKit
attribute [local go_sem ↓] Go.wp_at_zero Go.wp_at_succ
theorem zBu.first {w:World} {S:Nat} {bs:List Rt.Blk} {bv:Value} (h:zBu w S bs bv) (hne:¬bs=[]) {g n cap:Nat} (hv:bv=.slice (some ⟨g,0,none⟩) n cap):w.cell? ⟨g,0,none⟩=some (.int .i64 (Rt.zBg bs).line):=by
 have e0:(Rt.zBH bs)[0]?=some (.int .i64 (Rt.zBg bs).line):=by
  cases bs with
  | nil=>exact absurd rfl hne
  | cons b r=>simp[Rt.zBH,Rt.zHt,Rt.zBg]
 obtain⟨g',cap',hv',_,_,c⟩:=zW h.own e0
 rw[hv]at hv'
 simp at hv'
 rw[hv'.1]
 exact c
theorem zOK (w:World) (S:Nat) (bs:List Rt.Blk) (bv:Value) (pl:Rt.PL) (a0 a1 a2 a3:Option Addr) (c0 c1 c2 c3:Nat) (xe xf:Int) (h:zBu w S bs bv) (hlen:bs.length≤1000) :
  Calls Tryz.prog 124 #[.pointer (some ⟨S,0,none⟩),.agg (zBX (.slice a0 pl.zf.length c0) #[.int .i64 pl.form.kind,.string pl.form.name,.int .i64 pl.form.cells,.slice a1 pl.form.params.length c1,.slice a2 pl.form.index.length c2,.slice a3 pl.form.values.length c3] xe xf pl).toArray] w fun e w'=>
   e=.returned (.agg (zBX (.slice a0 pl.zf.length c0) #[.int .i64 pl.form.kind,.string pl.form.name,.int .i64 pl.form.cells,.slice a1 pl.form.params.length c1,.slice a2 pl.form.index.length c2,.slice a3 pl.form.values.length c3] xe xf (Rt.zo bs pl)).toArray)∧Below w.heap.size w w':=by
 have cs:=zC h.block 0 (by simp)
 simp at cs
 have hSlt:=zJ h.block
 rcases zJO bs with rfl | ⟨pre,b,rfl⟩
 ·obtain⟨ad,cap,rfl⟩:=zE h.own
  simp only[List.length_nil]at cs
  clear h
  simp only[zBX,List.cons_append,List.nil_append]
  go_enter Tryz.func124,Tryz.ntmps124
  go_wp2_with fail
  refine bodyPost_ret (v:=.agg (zBX (.slice a0 pl.zf.length c0) #[.int .i64 pl.form.kind,.string pl.form.name,.int .i64 pl.form.cells,.slice a1 pl.form.params.length c1,.slice a2 pl.form.index.length c2,.slice a3 pl.form.values.length c3] xe xf pl).toArray) ?_ rfl ⟨rfl,((Below.refl _ _).alloc (Nat.le_refl _) _).alloc (by simp) _⟩
  simp[results,Tryz.results124,go_sem,zBX]
 ·obtain⟨g,cap,rfl,hg,d0,d1,d2⟩:=h.last
  have d3:=h.first (by simp) rfl
  have hglt:=World.block_lt_of_cell? w _ d0
  have hlen':pre.length+1≤1000:=by simpa using hlen
  simp at hglt
  have hm5:(((pre.length:Int)+1)==0)=false:=by rw[beq_eq_false_iff_ne];omega
  have HL:=zB (show ∀pl',(.agg (zBX (.slice a0 pl.zf.length c0) #[.int .i64 pl.form.kind,.string pl.form.name,.int .i64 pl.form.cells,.slice a1 pl.form.params.length c1,.slice a2 pl.form.index.length c2,.slice a3 pl.form.values.length c3] xe xf pl').toArray:Value)=.agg #[.slice a0 pl.zf.length c0,.int .i64 pl.form.kind,.string pl.form.name,.int .i64 pl.form.cells,.slice a1 pl.form.params.length c1,.slice a2 pl.form.index.length c2,.slice a3 pl.form.values.length c3,.int .i64 pl'.depth,.int .i64 pl'.opener,.int .i64 xe,.int .i64 xf,.int .i64 pl'.proc]from fun pl'=>by simp[zBX])
  rw[zA HL pl]
  by_cases hk:pl.form.kind=6∨pl.form.kind=4
  ·have HE:Hid (Rt.zo (pre++[b]) pl=⟨pl.zf,pl.form,(pre.length:Int),b.line,(Rt.zBg (pre++[b])).line⟩):=by
    refine zB ?_
    rw[Rt.zo,if_neg (by simp),if_pos hk,zFk]
    simp
   generalize (Rt.zBg (pre++[b])).line=fl at *
   clear h
   generalize hm:pre.length=m at *
   have HM:=zB hm
   clear hm
   have hm0:(0:Int)≤(m:Int):=by omega
   have hm1:(m:Int) < (m:Int)+1:=by omega
   have hm2:(m:Int)≤1000:=by omega
   have hm3:=zH0 m hlen'
   have hm4:=zH1 m hlen'
   have hm6:(0:Int) < (m:Int)+1:=by omega
   have hfin:∀(e:Ending),e=.returned (.agg #[.slice a0 pl.zf.length c0,.int .i64 pl.form.kind,.string pl.form.name,.int .i64 pl.form.cells,.slice a1 pl.form.params.length c1,.slice a2 pl.form.index.length c2,.slice a3 pl.form.values.length c3,.int .i64 m,.int .i64 b.line,.int .i64 xe,.int .i64 xf,.int .i64 fl])→
     e=.returned (.agg (zBX (.slice a0 pl.zf.length c0) #[.int .i64 pl.form.kind,.string pl.form.name,.int .i64 pl.form.cells,.slice a1 pl.form.params.length c1,.slice a2 pl.form.index.length c2,.slice a3 pl.form.values.length c3] xe xf (Rt.zo (pre++[b]) pl)).toArray):=by
    intro e he
    rw[he,zA HL,zA HE]
   have HF:=zB hfin
   clear hfin HL HE HM
   generalize pl.form.kind=kx at *
   rcases hk with hk | hk
   ·have k6:(kx==6)=true:=by simpa using hk
    clear hk
    go_enter Tryz.func124,Tryz.ntmps124
    go_wp2_with fail
    go_region_held3 (fun w'=>w'.cell? ⟨S,0,none⟩=some (.slice (some ⟨g,0,none⟩) (m+1) cap)∧w'.cell? ⟨g,m*3,none⟩=some (.int .i64 b.line)) (go_keep) (fail)
    go_wp2_with fail
    refine bodyPost_ret (v:=.agg #[.slice a0 pl.zf.length c0,.int .i64 kx,.string pl.form.name,.int .i64 pl.form.cells,.slice a1 pl.form.params.length c1,.slice a2 pl.form.index.length c2,.slice a3 pl.form.values.length c3,.int .i64 m,.int .i64 b.line,.int .i64 xe,.int .i64 xf,.int .i64 fl]) ?_ rfl ⟨zA HF _ rfl,(((Below.refl _ _).alloc (Nat.le_refl _) _).alloc (by simp) _).drew⟩
    simp[results,Tryz.results124,go_sem]
   ·have k6:(kx==6)=false:=by rw[hk];rfl
    have k4:(kx==4)=true:=by simpa using hk
    clear hk
    go_enter Tryz.func124,Tryz.ntmps124
    go_wp2_with fail
    go_region_held3 (fun w'=>w'.cell? ⟨S,0,none⟩=some (.slice (some ⟨g,0,none⟩) (m+1) cap)∧w'.cell? ⟨g,m*3,none⟩=some (.int .i64 b.line)) (go_keep) (fail)
    go_wp2_with fail
    refine bodyPost_ret (v:=.agg #[.slice a0 pl.zf.length c0,.int .i64 kx,.string pl.form.name,.int .i64 pl.form.cells,.slice a1 pl.form.params.length c1,.slice a2 pl.form.index.length c2,.slice a3 pl.form.values.length c3,.int .i64 m,.int .i64 b.line,.int .i64 xe,.int .i64 xf,.int .i64 fl]) ?_ rfl ⟨zA HF _ rfl,(((Below.refl _ _).alloc (Nat.le_refl _) _).alloc (by simp) _).drew⟩
    simp[results,Tryz.results124,go_sem]
  ·have HE:Hid (Rt.zo (pre++[b]) pl=⟨pl.zf,pl.form,(pre.length:Int)+1,pl.opener,(Rt.zBg (pre++[b])).line⟩):=by
    refine zB ?_
    rw[Rt.zo,if_neg (by simp),if_neg hk]
    simp
   generalize (Rt.zBg (pre++[b])).line=fl at *
   clear h
   generalize pre.length=m at *
   have hfin:∀(e:Ending),e=.returned (.agg #[.slice a0 pl.zf.length c0,.int .i64 pl.form.kind,.string pl.form.name,.int .i64 pl.form.cells,.slice a1 pl.form.params.length c1,.slice a2 pl.form.index.length c2,.slice a3 pl.form.values.length c3,.int .i64 ((m:Int)+1),.int .i64 pl.opener,.int .i64 xe,.int .i64 xf,.int .i64 fl])→
     e=.returned (.agg (zBX (.slice a0 pl.zf.length c0) #[.int .i64 pl.form.kind,.string pl.form.name,.int .i64 pl.form.cells,.slice a1 pl.form.params.length c1,.slice a2 pl.form.index.length c2,.slice a3 pl.form.values.length c3] xe xf (Rt.zo (pre++[b]) pl)).toArray):=by
    intro e he
    rw[he,zA HL,zA HE]
   have HF:=zB hfin
   clear hfin HL HE
   have hm6:(0:Int) < (m:Int)+1:=by omega
   generalize pl.form.kind=kx at *
   have k6:(kx==6)=false:=by rw[beq_eq_false_iff_ne];exact fun x=>hk (Or.inl x)
   have k4:(kx==4)=false:=by rw[beq_eq_false_iff_ne];exact fun x=>hk (Or.inr x)
   clear hk
   go_enter Tryz.func124,Tryz.ntmps124
   go_wp2_with fail
   refine bodyPost_ret (v:=.agg #[.slice a0 pl.zf.length c0,.int .i64 kx,.string pl.form.name,.int .i64 pl.form.cells,.slice a1 pl.form.params.length c1,.slice a2 pl.form.index.length c2,.slice a3 pl.form.values.length c3,.int .i64 ((m:Int)+1),.int .i64 pl.opener,.int .i64 xe,.int .i64 xf,.int .i64 fl]) ?_ rfl ⟨zA HF _ rfl,((Below.refl _ _).alloc (Nat.le_refl _) _).alloc (by simp) _⟩
   simp[results,Tryz.results124,go_sem]
end Go.Proofs.YthleadfkfnnadaaGreat
namespace Go.Proofs.YthleadfkfnnadaaGreat
open Go.RowKit
theorem zF1.len {w:World} {B:Nat} {p:Rt.PL} {c:List Value} (h:zF1 w B p c):c.length=12:=by
 obtain⟨tv,fv,xe,xf,rfl,_,⟨pv,iv,vv,vs,rfl,_⟩⟩:=h
 rfl
theorem zA5.part {w:World} {B:Nat}:∀(acc:List Rt.PL) (p:Rt.PL) (r:List Rt.PL) (cs:List (List Value)),zA5 w B (acc++p::r) cs→∃c1 c c2,cs=c1++c::c2∧c1.flatten.length=acc.length*12∧zA5 w B acc c1∧zF1 w B p c∧zA5 w B r c2
 | [],p,r,c::cs,⟨h1,h2⟩=>⟨[],c,cs,rfl,rfl,trivial,h1,h2⟩
 | [],_,_,[],h=>h.elim
 | a::acc,p,r,c::cs,⟨h1,h2⟩=>by
  obtain⟨c1,c',c2,rfl,hl,g1,g2,g3⟩:=zA5.part acc p r cs h2
  refine⟨c::c1,c',c2,rfl,?_,⟨h1,g1⟩,g2,g3⟩
  simp[h1.len]at hl ⊢
  omega
 | _::_,_,_,[],h=>h.elim
theorem zA5.join {w:World} {B:Nat}:∀(acc:List Rt.PL) (p:Rt.PL) (r:List Rt.PL) (c1:List (List Value)) (c:List Value) (c2:List (List Value)),zA5 w B acc c1→zF1 w B p c→zA5 w B r c2→zA5 w B (acc++p::r) (c1++c::c2)
 | [],_,_,[],_,_,_,h2,h3=>⟨h2,h3⟩
 | _::acc,p,r,_::c1,c,c2,⟨h1,h1'⟩,h2,h3=>⟨h1,zA5.join acc p r c1 c c2 h1' h2 h3⟩
 | [],_,_,_::_,_,_,h,_,_=>h.elim
 | _::_,_,_,[],_,_,h,_,_=>h.elim
def Ten (w:World) (g o:Nat) (v0 v1 v2 v3 v4 v5 v6 v7 v8 v9 v10 v11:Value):Prop:=
 w.cell? ⟨g,o,none⟩=some v0∧w.cell? ⟨g,o+1,none⟩=some v1∧w.cell? ⟨g,o+2,none⟩=some v2∧w.cell? ⟨g,o+3,none⟩=some v3∧w.cell? ⟨g,o+4,none⟩=some v4∧
 w.cell? ⟨g,o+5,none⟩=some v5∧w.cell? ⟨g,o+6,none⟩=some v6∧w.cell? ⟨g,o+7,none⟩=some v7∧w.cell? ⟨g,o+8,none⟩=some v8∧w.cell? ⟨g,o+9,none⟩=some v9∧w.cell? ⟨g,o+10,none⟩=some v10∧w.cell? ⟨g,o+11,none⟩=some v11
def TenF (w:World) (g o:Nat):Prop:=
 w.frozen? ⟨g,o,none⟩=false∧w.frozen? ⟨g,o+1,none⟩=false∧w.frozen? ⟨g,o+2,none⟩=false∧w.frozen? ⟨g,o+3,none⟩=false∧w.frozen? ⟨g,o+4,none⟩=false∧
 w.frozen? ⟨g,o+5,none⟩=false∧w.frozen? ⟨g,o+6,none⟩=false∧w.frozen? ⟨g,o+7,none⟩=false∧w.frozen? ⟨g,o+8,none⟩=false∧w.frozen? ⟨g,o+9,none⟩=false∧w.frozen? ⟨g,o+10,none⟩=false∧w.frozen? ⟨g,o+11,none⟩=false
theorem zAP.get {w:World} {P:Nat} {acc:List Rt.PL} {p:Rt.PL} {r:List Rt.PL} {lv:Value} {cs:List (List Value)} (h:zAP w P (acc++p::r) lv cs) :
  ∃g cap a0 a1 a2 a3 c0 c1 c2 c3 xe xf,lv=.slice (some ⟨g,0,none⟩) (acc++p::r).length cap∧P < g∧g < w.heap.size∧
   Ten w g (acc.length*12) (.slice a0 p.zf.length c0) (.int .i64 p.form.kind) (.string p.form.name) (.int .i64 p.form.cells) (.slice a1 p.form.params.length c1) (.slice a2 p.form.index.length c2) (.slice a3 p.form.values.length c3) (.int .i64 p.depth) (.int .i64 p.opener) (.int .i64 xe) (.int .i64 xf) (.int .i64 p.proc)∧TenF w g (acc.length*12)∧
   w.ownsRow (P+1) 188 2 (.slice a0 p.zf.length c0) p.zf.length (Rt.zAX p.zf)∧
   zAd w (P+1) #[.int .i64 p.form.kind,.string p.form.name,.int .i64 p.form.cells,.slice a1 p.form.params.length c1,.slice a2 p.form.index.length c2,.slice a3 p.form.values.length c3] p.form:=by
 obtain⟨c1,c,c2,hcs,hl,_,hc,_⟩:=h.lines.part
 obtain⟨tv,fv,xe,xf,hcc,ht,hf⟩:=hc
 have hf2:=hf
 obtain⟨pv,iv,vv,vs,hfv,b1,b2,b3,_⟩:=hf
 obtain⟨a0,k0,rfl⟩:=zE ht
 obtain⟨a1,k1,rfl⟩:=zE b1
 obtain⟨a2,k2,rfl⟩:=zE b2
 obtain⟨a3,k3,rfl⟩:=zE b3
 subst hfv
 have hget:∀j u,c[j]?=some u→cs.flatten[acc.length*12+j]?=some u:=by
  intro j u hj
  rw[hcs,List.flatten_append,List.getElem?_append_right (by omega),hl,Nat.add_sub_cancel_left,List.flatten_cons,List.getElem?_append_left (List.getElem?_eq_some_iff.1 hj).1]
  exact hj
 have hown:=h.own
 obtain⟨g,cap,hlv,hg,hglt,_⟩:=zW hown (hget 0 _ (by rw[hcc];rfl))
 have hcell:∀j u,c[j]?=some u→w.cell? ⟨g,acc.length*12+j,none⟩=some u:=by
  intro j u hj
  obtain⟨g',cap',hlv',_,_,hc'⟩:=zW hown (hget j u hj)
  rw[hlv]at hlv'
  simp at hlv'
  rw[hlv'.1]
  exact hc'
 have hfz:∀j,w.frozen? ⟨g,j,none⟩=false:=by
  intro j
  rw[hlv]at hown
  exact hown.frozenAt j
 refine⟨g,cap,a0,a1,a2,a3,k0,k1,k2,k3,xe,xf,hlv,by omega,hglt,⟨?_,?_,?_,?_,?_,?_,?_,?_,?_,?_,?_,?_⟩,⟨hfz _,hfz _,hfz _,hfz _,hfz _,hfz _,hfz _,hfz _,hfz _,hfz _,hfz _,hfz _⟩,ht,hf2⟩
 ·exact hcell 0 _ (by rw[hcc];rfl)
 ·exact hcell 1 _ (by rw[hcc];rfl)
 ·exact hcell 2 _ (by rw[hcc];rfl)
 ·exact hcell 3 _ (by rw[hcc];rfl)
 ·exact hcell 4 _ (by rw[hcc];rfl)
 ·exact hcell 5 _ (by rw[hcc];rfl)
 ·exact hcell 6 _ (by rw[hcc];rfl)
 ·exact hcell 7 _ (by rw[hcc];rfl)
 ·exact hcell 8 _ (by rw[hcc];rfl)
 ·exact hcell 9 _ (by rw[hcc];rfl)
 ·exact hcell 10 _ (by rw[hcc];rfl)
 ·exact hcell 11 _ (by rw[hcc];rfl)
abbrev W10 (w:World) (g o:Nat) (v0 v1 v2 v3 v4 v5 v6 v7 v8 v9 v10 v11:Value):World:=
 (((((((((((w.setCell ⟨g,o,none⟩ v0).setCell ⟨g,o+1,none⟩ v1).setCell ⟨g,o+2,none⟩ v2).setCell ⟨g,o+3,none⟩ v3).setCell ⟨g,o+4,none⟩ v4).setCell ⟨g,o+5,none⟩ v5).setCell ⟨g,o+6,none⟩ v6).setCell ⟨g,o+7,none⟩ v7).setCell ⟨g,o+8,none⟩ v8).setCell ⟨g,o+9,none⟩ v9).setCell ⟨g,o+10,none⟩ v10).setCell ⟨g,o+11,none⟩ v11
theorem zIU (w:World) (g o:Nat) (v0 v1 v2 v3 v4 v5 v6 v7 v8 v9 v10 v11:Value) (k:Nat) (hk:k≠g):(W10 w g o v0 v1 v2 v3 v4 v5 v6 v7 v8 v9 v10 v11).heap[k]?=w.heap[k]?:=by
 simp only[W10]
 repeat rw[Below.heap_setCell _ _ _ _ hk]
theorem W10_size (w:World) (g o:Nat) (v0 v1 v2 v3 v4 v5 v6 v7 v8 v9 v10 v11:Value):(W10 w g o v0 v1 v2 v3 v4 v5 v6 v7 v8 v9 v10 v11).heap.size=w.heap.size:=by simp[World.setCell]
theorem zAx {w:World} {B g n cap:Nat} {e:TypeId} {A c C:List Value} (h:w.ownsRow B e 12 (.slice (some ⟨g,0,none⟩) n cap) n (A++c++C)) (j:Nat) (v:Value) (hj:j < c.length) :
  (w.setCell ⟨g,A.length+j,none⟩ v).ownsRow B e 12 (.slice (some ⟨g,0,none⟩) n cap) n (A++c.set j v++C):=by
 have h1:=(h.stored (A.length+j) v).1
 have e:(A++c++C).set (A.length+j) v=A++c.set j v++C:=by
  rw[List.append_assoc,List.set_append,if_neg (by omega),Nat.add_sub_cancel_left,List.set_append,if_pos hj,List.append_assoc]
 rw[e]at h1
 exact h1
theorem zAP.put {w:World} {P:Nat} {acc:List Rt.PL} {p p':Rt.PL} {r:List Rt.PL} {g n cap:Nat} {cs:List (List Value)} (h:zAP w P (acc++p::r) (.slice (some ⟨g,0,none⟩) n cap) cs) (hn:n=(acc++p::r).length)
  (a0 a1 a2 a3:Option Addr) (c0 c1 c2 c3:Nat) (xe xf:Int) (ht:w.ownsRow (P+1) 188 2 (.slice a0 p'.zf.length c0) p'.zf.length (Rt.zAX p'.zf))
  (hf:zAd w (P+1) #[.int .i64 p'.form.kind,.string p'.form.name,.int .i64 p'.form.cells,.slice a1 p'.form.params.length c1,.slice a2 p'.form.index.length c2,.slice a3 p'.form.values.length c3] p'.form) :
  ∃cs',zAP (W10 w g (acc.length*12) (.slice a0 p'.zf.length c0) (.int .i64 p'.form.kind) (.string p'.form.name) (.int .i64 p'.form.cells) (.slice a1 p'.form.params.length c1) (.slice a2 p'.form.index.length c2) (.slice a3 p'.form.values.length c3) (.int .i64 p'.depth) (.int .i64 p'.opener) (.int .i64 xe) (.int .i64 xf) (.int .i64 p'.proc))
   P (acc++p'::r) (.slice (some ⟨g,0,none⟩) n cap) cs':=by
 obtain⟨d1,c,d2,hcs,hl,hA,hc,hC⟩:=h.lines.part
 have hg:P < g:=by
  have:=(h.own.lt g rfl).1
  omega
 have hK:zEI w (W10 w g (acc.length*12) (.slice a0 p'.zf.length c0) (.int .i64 p'.form.kind) (.string p'.form.name) (.int .i64 p'.form.cells) (.slice a1 p'.form.params.length c1) (.slice a2 p'.form.index.length c2) (.slice a3 p'.form.values.length c3) (.int .i64 p'.depth) (.int .i64 p'.opener) (.int .i64 xe) (.int .i64 xf) (.int .i64 p'.proc)) (P+1) (P+1):=by
  intro t size n' v xs ht' hv
  have hne:=zC2 hv h.own ht'
  obtain⟨h1,h2⟩:=hv
  refine⟨h1,?_⟩
  rcases h2 with h2 | ⟨g',cap',cur,hv',hg',hh,rr⟩
  ·exact Or.inl h2
  ·exact Or.inr ⟨g',cap',cur,hv',hg',by rw[zIU _ _ _ _ _ _ _ _ _ _ _ _ _ _ _ _ (fun e=>hne g' (by rw[hv'];rfl) (by rw[e];rfl))];exact hh,rr⟩
 refine⟨d1++zBX (.slice a0 p'.zf.length c0) #[.int .i64 p'.form.kind,.string p'.form.name,.int .i64 p'.form.cells,.slice a1 p'.form.params.length c1,.slice a2 p'.form.index.length c2,.slice a3 p'.form.values.length c3] xe xf p'::d2,?_,?_,?_⟩
 ·rw[zIU _ _ _ _ _ _ _ _ _ _ _ _ _ _ _ _ (by omega)]
  exact h.block
 ·have hown:=h.own
  rw[←hn]at hown
  have e1:cs.flatten=d1.flatten++c++d2.flatten:=by rw[hcs];simp
  have e2:(acc++p'::r).length=n:=by rw[hn];simp
  have hc10:=hc.len
  match c,hc10 with
  | [x0,x1,x2,x3,x4,x5,x6,x7,x8,x9,x10,x11],_=>
   rw[e1]at hown
   rw[e2,←hl]
   have s0:=zAx hown 0 (.slice a0 p'.zf.length c0) (by simp)
   have s1:=zAx s0 1 (.int .i64 p'.form.kind) (by simp)
   have s2:=zAx s1 2 (.string p'.form.name) (by simp)
   have s3:=zAx s2 3 (.int .i64 p'.form.cells) (by simp)
   have s4:=zAx s3 4 (.slice a1 p'.form.params.length c1) (by simp)
   have s5:=zAx s4 5 (.slice a2 p'.form.index.length c2) (by simp)
   have s6:=zAx s5 6 (.slice a3 p'.form.values.length c3) (by simp)
   have s7:=zAx s6 7 (.int .i64 p'.depth) (by simp)
   have s8:=zAx s7 8 (.int .i64 p'.opener) (by simp)
   have s9:=zAx s8 9 (.int .i64 xe) (by simp)
   have s10:=zAx s9 10 (.int .i64 xf) (by simp)
   have s11:=zAx s10 11 (.int .i64 p'.proc) (by simp)
   simpa[zBX] using s11
 ·exact zA5.join _ _ _ _ _ _ (hK.lines _ _ hA) ⟨_,_,xe,xf,rfl,hK _ _ _ _ _ (by decide) ht,hK.form hf⟩ (hK.lines _ _ hC)
end Go.Proofs.YthleadfkfnnadaaGreat
namespace Go.Proofs.YthleadfkfnnadaaGreat
open Go.RowKit
attribute [local go_sem ↓] Go.wp_at_zero Go.wp_at_succ
theorem zFU {pls:List Rt.PL} {i:Nat} (hi:i < pls.length):pls=pls.take i++pls[i]::pls.drop (i+1):=by
 rw[←List.drop_eq_getElem_cons hi,List.take_append_drop]
theorem zAP.at {w:World} {P:Nat} {pls:List Rt.PL} {lv:Value} {cs:List (List Value)} (h:zAP w P pls lv cs) {i:Nat} (hi:i < pls.length) :
  ∃g cap a0 a1 a2 a3 c0 c1 c2 c3 xe xf,lv=.slice (some ⟨g,0,none⟩) pls.length cap∧P < g∧g < w.heap.size∧
   Ten w g (i*12) (.slice a0 pls[i].zf.length c0) (.int .i64 pls[i].form.kind) (.string pls[i].form.name) (.int .i64 pls[i].form.cells) (.slice a1 pls[i].form.params.length c1) (.slice a2 pls[i].form.index.length c2) (.slice a3 pls[i].form.values.length c3) (.int .i64 pls[i].depth) (.int .i64 pls[i].opener) (.int .i64 xe) (.int .i64 xf) (.int .i64 pls[i].proc)∧
   w.ownsRow (P+1) 188 2 (.slice a0 pls[i].zf.length c0) pls[i].zf.length (Rt.zAX pls[i].zf)∧
   zAd w (P+1) #[.int .i64 pls[i].form.kind,.string pls[i].form.name,.int .i64 pls[i].form.cells,.slice a1 pls[i].form.params.length c1,.slice a2 pls[i].form.index.length c2,.slice a3 pls[i].form.values.length c3] pls[i].form:=by
 have hs:=zFU hi
 have hl:(pls.take i).length=i:=by simp;omega
 have h2:=h
 rw[hs]at h2
 obtain⟨g,cap,a0,a1,a2,a3,c0,c1,c2,c3,xe,xf,hlv,h3,h4,h5,_,h6,h7⟩:=h2.get
 rw[←hs]at hlv
 rw[hl]at h5
 exact⟨g,cap,a0,a1,a2,a3,c0,c1,c2,c3,xe,xf,hlv,h3,h4,h5,h6,h7⟩
theorem zAP.zEV {w:World} {P:Nat} {pls:List Rt.PL} {lv:Value} {cs:List (List Value)} (h:zAP w P pls lv cs):∃ad cap,lv=.slice ad pls.length cap∧w.cell? ⟨P,0,none⟩=some (.slice ad pls.length cap):=by
 obtain⟨ad,cap,rfl⟩:=zE h.own
 exact⟨ad,cap,rfl,zC h.block 0 (by simp)⟩
namespace Rt
def zd (pls:List PL) (n:Int):PL:=if n < 0 then zPL else (pls[n.toNat]?).getD zPL
theorem zCX (pls:List PL) (n:Int):(zd pls n).form=zT pls n:=by
 unfold zd zT
 split
 ·rfl
 ·cases pls[n.toNat]? <;> rfl
theorem zD6 {pls:List PL} {n:Nat} (h:n < pls.length):zd pls (n:Int)=pls[n]:=by
 rw[zd,if_neg (by omega)]
 simp[h]
theorem zEM {pls:List PL} {n:Int} (h:n < 0∨(pls.length:Int)≤n):zd pls n=zPL:=by
 unfold zd
 split
 ·rfl
 ·rw[List.getElem?_eq_none (by omega)]
  rfl
end Rt
def PLineP (P:Nat) (pl:Rt.PL) (w:World) (e:Ending) (w':World):Prop:=∃a0 a1 a2 a3 c0 c1 c2 c3 xe xf,e=.returned (.agg #[.slice a0 pl.zf.length c0,.int .i64 pl.form.kind,.string pl.form.name,.int .i64 pl.form.cells,.slice a1 pl.form.params.length c1,.slice a2 pl.form.index.length c2,.slice a3 pl.form.values.length c3,.int .i64 pl.depth,.int .i64 pl.opener,.int .i64 xe,.int .i64 xf,.int .i64 pl.proc])∧w'.ownsRow (P+1) 188 2 (.slice a0 pl.zf.length c0) pl.zf.length (Rt.zAX pl.zf)∧zAd w' (P+1) #[.int .i64 pl.form.kind,.string pl.form.name,.int .i64 pl.form.cells,.slice a1 pl.form.params.length c1,.slice a2 pl.form.index.length c2,.slice a3 pl.form.values.length c3] pl.form∧Below w.heap.size w w'
theorem zJ8 {P:Nat} {w w':World} (hb:Below w.heap.size w w'):PLineP P Rt.zPL w (.returned (.agg #[.slice none 0 0,.int .i64 0,.string ⟨#[]⟩,.int .i64 0,.slice none 0 0,.slice none 0 0,.slice none 0 0,.int .i64 0,.int .i64 0,.int .i64 0,.int .i64 0,.int .i64 0])) w':=
 ⟨none,none,none,none,0,0,0,0,0,0,rfl,World.ownsRow_nil _ _ _ _,zBr _ _ _ _ _,hb⟩
theorem zKs (w:World) (P:Nat) (pls:List Rt.PL) (lv:Value) (cs:List (List Value)) (n:Int) (h:zAP w P pls lv cs) :
  Calls Tryz.prog 90 #[.pointer (some ⟨P,0,none⟩),.int .i64 n] w (PLineP P (Rt.zd pls n) w):=by
 obtain⟨ad,cap,hlv,cP⟩:=h.zEV
 have hPlt:=zJ h.block
 by_cases h0:n < 0
 ·have HE:=zB (Rt.zEM (pls:=pls) (Or.inl h0))
  clear h
  go_enter Tryz.func90,Tryz.ntmps90
  go_wp2_with fail
  refine bodyPost_ret (v:=.agg #[.slice none 0 0,.int .i64 0,.string ⟨#[]⟩,.int .i64 0,.slice none 0 0,.slice none 0 0,.slice none 0 0,.int .i64 0,.int .i64 0,.int .i64 0,.int .i64 0,.int .i64 0]) ?_ rfl (by rw[zA HE];exact zJ8 ((Below.refl _ _).alloc (Nat.le_refl _) _))
  simp[results,Tryz.results90,go_sem]
 by_cases h1:(pls.length:Int)≤n
 ·have HE:=zB (Rt.zEM (pls:=pls) (Or.inr h1))
  clear h
  go_enter Tryz.func90,Tryz.ntmps90
  go_wp2_with fail
  refine bodyPost_ret (v:=.agg #[.slice none 0 0,.int .i64 0,.string ⟨#[]⟩,.int .i64 0,.slice none 0 0,.slice none 0 0,.slice none 0 0,.int .i64 0,.int .i64 0,.int .i64 0,.int .i64 0,.int .i64 0]) ?_ rfl (by rw[zA HE];exact zJ8 ((Below.refl _ _).alloc (Nat.le_refl _) _))
  simp[results,Tryz.results90,go_sem]
 obtain⟨k,rfl⟩:=Int.eq_ofNat_of_zero_le (show 0≤n by omega)
 have hlt:k < pls.length:=by omega
 obtain⟨g,cap',a0,a1,a2,a3,e0,e1,e2,e3,xe,xf,hlv',_,hglt,⟨d0,d1,d2,d3,d4,d5,d6,d7,d8,d9,d10,d11⟩,htk,hfv⟩:=h.at hlt
 have hlv2:=hlv.symm.trans hlv'
 simp at hlv2
 obtain⟨rfl,rfl⟩:=hlv2
 have HE:=zB (Rt.zD6 hlt)
 have HF:=zB (And.intro htk hfv)
 clear h hfv htk hlv hlv'
 generalize pls[k]=pl at *
 go_enter Tryz.func90,Tryz.ntmps90
 go_wp2_with fail
 refine bodyPost_ret (v:=.agg #[.slice a0 pl.zf.length e0,.int .i64 pl.form.kind,.string pl.form.name,.int .i64 pl.form.cells,.slice a1 pl.form.params.length e1,.slice a2 pl.form.index.length e2,.slice a3 pl.form.values.length e3,.int .i64 pl.depth,.int .i64 pl.opener,.int .i64 xe,.int .i64 xf,.int .i64 pl.proc]) ?_ rfl (by rw[zA HE];exact⟨a0,a1,a2,a3,e0,e1,e2,e3,xe,xf,rfl,zZ (zA HF).1 ((Below.refl _ _).alloc (Nat.le_refl _) _),(zAD (B:=P+1) ((Below.refl _ _).alloc (Nat.le_refl _) _)).form (zA HF).2,(Below.refl _ _).alloc (Nat.le_refl _) _⟩)
 simp[results,Tryz.results90,go_sem]
end Go.Proofs.YthleadfkfnnadaaGreat
namespace Go.Proofs.YthleadfkfnnadaaGreat
namespace Rt
abbrev Lks:=List (Int×Int)
def zCa (len:Nat) (lk:Lks) (pl:PL) (n:Nat):Lks:=
 if 1≤pl.opener∧pl.opener < len then
  if pl.form.kind=6 then lk.modify pl.opener.toNat (fun x=>((n:Int),x.2))
  else if pl.form.kind=4 then lk.modify pl.opener.toNat (fun x=>(x.1,(n:Int)))
  else lk
 else lk
def nestLk (len:Nat):List PL→Nat→List Blk→Lks→Lks
 | [],_,_,lk=>lk
 | p::r,n,bs,lk=>if adm bs p.form.kind=true then nestLk len r (n+1) (zAS bs n p.form.kind) (zCa len lk (zo bs p) n)else lk
theorem zE5 (len:Nat) (lk:Lks) (pl:PL) (n:Nat):(zCa len lk pl n).length=lk.length:=by
 unfold zCa
 split
 ·split
  ·simp
  ·split
   ·simp
   ·rfl
 ·rfl
def zBv (ps:List PL):Lks:=nestLk (ps.length+1) ps 1 [] (List.replicate (ps.length+1) (0,0))
def zCg (s:ByteArray):Lks:=zBv ((rForms 0 (lines s) [zPL]).2.drop 1)
end Rt
end Go.Proofs.YthleadfkfnnadaaGreat
