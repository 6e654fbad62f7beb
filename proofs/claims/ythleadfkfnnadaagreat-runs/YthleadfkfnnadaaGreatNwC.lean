/- The machine's beginning: declare. -/
import Derived.Test.YthleadfkfnnadaaGreatMcO
import Derived.Test.YthleadfkfnnadaaGreatLwB
set_option maxHeartbeats 4000000
set_option maxRecDepth 100000
namespace Go.Proofs.YthleadfkfnnadaaGreat
open Go.RowKit
attribute [local go_sem ↓] Go.wp_at_zero Go.wp_at_succ
theorem first_m (w:World) (P B:Nat) (pls:List Rt.PL) (lk:Rt.Lks) (lv:Value) (cs:List (List Value)) (h:zB5 w P B pls lk lv cs) (hlen:pls.length≤101) (hfw:zLy pls lk) :
  Calls Tryz.prog 88 #[.pointer (some ⟨P,0,none⟩)] w fun e w'=>e=.returned (.int .i64 (Rt.goOn pls lk 102 (wrap64 (Rt.zAE pls Rt.zy+1))))∧Below w.heap.size w w':=by
 go_enter Tryz.func88,Tryz.ntmps88
 go_wp2_with fail
 refine(zDE _ P B pls lk lv cs Rt.zy h hlen).mono ?_
 rintro e w1 ⟨rfl,rfl⟩
 go_wp2_with fail
 refine(zNe _ P B pls lk lv cs _ h hlen hfw (zGe _)).mono ?_
 rintro e w2 ⟨rfl,hb⟩
 have HB:=zB hb
 clear hb h
 go_wp2_with fail
 go_ret
 exact⟨rfl,zA HB⟩
theorem zPi (w:World) (fm:Rt.zAU) (a1 a2 a3:Option Addr) (c1 c2 c3:Nat) (hc:fm.cells≤1000) :
  Calls Tryz.prog 144 #[.agg (fmA fm a1 a2 a3 c1 c2 c3)] w fun e w'=>Below w.heap.size w w'∧∃rv,e=.returned rv∧w'.ownsRow w.heap.size 3 1 rv (Rt.zA9 fm).length (zz (Rt.zA9 fm)):=by
 obtain⟨i0,hi0,hz0,hz1,hz2⟩:=info_parts Tryz.zCv
 obtain⟨n,hn⟩:∃n:Int,n=if fm.kind=1 then 1 else fm.cells:=⟨_,rfl⟩
 have HZ:=zB (show Rt.zA9 fm=List.replicate n.toNat 0 by rw[hn];unfold Rt.zA9;split <;> rfl)
 have hn1:n≤1000:=by rw[hn];split <;> omega
 have hb0:=(Below.refl w.heap.size w).alloc (Nat.le_refl _) (.cells (fmA fm a1 a2 a3 c1 c2 c3) 143)
 generalize Rt.zA9 fm=zs at *
 by_cases hk:fm.kind=1
 ·have hk':(fm.kind==1)=true:=by simpa using hk
  rw[if_pos hk]at hn
  subst hn
  clear hk
  go_enter Tryz.func144,Tryz.ntmps144
  go_wp2_with fail
  go_loopw [4,5] (fun v i wr=>∃k:Nat,(k:Int)≤max (1:Int) 0∧i=.int .i64 k∧wr.ownsRow w.heap.size 3 1 v k (zz (List.replicate k 0))∧Below w.heap.size w wr)
   (fun _ i _=>(1:Int).toNat+1-(intOf i).toNat)
  case atStart=>exact⟨0,by omega,rfl,World.ownsRow_nil _ _ _ _,hb0⟩
  case round=>
   obtain⟨k,hk,rfl,hown,hbe⟩:=hrel
   have hsz:=hbe.size
   obtain⟨adv,capv,rfl⟩:=zE hown
   clear hb0
   by_cases hlt:(k:Int) < (1:Int)
   ·go_wp2_with (at_builtin;refine wpList_append_own _ rfl _ _ 24 rfl w.heap.size 3 i0 _ 1 8 Tryz.underlying24 hi0 hz0 hz1 hz2 rfl (by decide) _ _ _ rfl (hown.alloc _) ⟨_,0,none⟩ 1 1 [.int .i64 0] rfl rfl (cell_one_new _ _ _) ?c2 ?c3 ?c4 ?c5 ?_)
    case c2=>intro u hu;simp at hu;rcases hu with rfl;rfl
    case c3=>unfold maxLen;omega
    case c4=>omega
    case c5=>simp;omega
    intro v' w3 hown3 hgrow _
    have hbe3:=zAW hbe hsz hown hgrow
    have HF:=zB (And.intro hown3 hbe3)
    clear hown3 hbe3 hgrow hown hbe
    go_wp2_with fail
    go_roundw
    case rel=>
     obtain⟨q2,q3⟩:=zA HF
     exact⟨k+1,by omega,by go_num,by rw[List.replicate_succ',zz,List.map_append];exact q2,q3⟩
    case measure=>simp[intOf];omega
   ·have HE:Hid (zs=List.replicate k 0):=zB (by rw[zA HZ];congr 1;omega)
    have HF:=zB (And.intro hown hbe)
    clear hown hbe
    go_wp2_with fail
    go_ret
    exact⟨(zA HF).2,_,rfl,by rw[zA HE,List.length_replicate];exact(zA HF).1⟩
 ·have hk':(fm.kind==1)=false:=by simpa using hk
  rw[if_neg hk]at hn
  subst hn
  clear hk
  go_enter Tryz.func144,Tryz.ntmps144
  go_wp2_with fail
  go_loopw [4,5] (fun v i wr=>∃k:Nat,(k:Int)≤max fm.cells 0∧i=.int .i64 k∧wr.ownsRow w.heap.size 3 1 v k (zz (List.replicate k 0))∧Below w.heap.size w wr)
   (fun _ i _=>fm.cells.toNat+1-(intOf i).toNat)
  case atStart=>exact⟨0,by omega,rfl,World.ownsRow_nil _ _ _ _,hb0⟩
  case round=>
   obtain⟨k,hk,rfl,hown,hbe⟩:=hrel
   have hsz:=hbe.size
   obtain⟨adv,capv,rfl⟩:=zE hown
   clear hb0
   by_cases hlt:(k:Int) < fm.cells
   ·go_wp2_with (at_builtin;refine wpList_append_own _ rfl _ _ 24 rfl w.heap.size 3 i0 _ 1 8 Tryz.underlying24 hi0 hz0 hz1 hz2 rfl (by decide) _ _ _ rfl (hown.alloc _) ⟨_,0,none⟩ 1 1 [.int .i64 0] rfl rfl (cell_one_new _ _ _) ?c2 ?c3 ?c4 ?c5 ?_)
    case c2=>intro u hu;simp at hu;rcases hu with rfl;rfl
    case c3=>unfold maxLen;omega
    case c4=>omega
    case c5=>simp;omega
    intro v' w3 hown3 hgrow _
    have hbe3:=zAW hbe hsz hown hgrow
    have HF:=zB (And.intro hown3 hbe3)
    clear hown3 hbe3 hgrow hown hbe
    go_wp2_with fail
    go_roundw
    case rel=>
     obtain⟨q2,q3⟩:=zA HF
     exact⟨k+1,by omega,by go_num,by rw[List.replicate_succ',zz,List.map_append];exact q2,q3⟩
    case measure=>simp[intOf];omega
   ·have HE:Hid (zs=List.replicate k 0):=zB (by rw[zA HZ];congr 1;omega)
    have HF:=zB (And.intro hown hbe)
    clear hown hbe
    go_wp2_with fail
    go_ret
    exact⟨(zA HF).2,_,rfl,by rw[zA HE,List.length_replicate];exact(zA HF).1⟩
namespace Rt
def zAt (p:PL):PL:={ p with zf:=[] }
end Rt
theorem zB5.setT {w:World} {P B:Nat} {acc:List Rt.PL} {p:Rt.PL} {r:List Rt.PL} {lk:Rt.Lks} {g n cap:Nat} {cs:List (List Value)} (h:zB5 w P B (acc++p::r) lk (.slice (some ⟨g,0,none⟩) n cap) cs) (hP:P≠g) (hn:n=(acc++p::r).length) :
  ∃cs',zB5 (w.setCell ⟨g,acc.length*12,none⟩ (.slice none 0 0)) P B (acc++Rt.zAt p::r) lk (.slice (some ⟨g,0,none⟩) n cap) cs':=by
 obtain⟨d1,c,d2,hcs,hl,hA,hc,hC⟩:=h.lines.part
 have hother:∀k,k≠g→(w.setCell ⟨g,acc.length*12,none⟩ (.slice none 0 0)).heap[k]?=w.heap[k]?:=fun k hk=>Below.heap_setCell w ⟨g,acc.length*12,none⟩ _ k hk
 have hK:zEI w (w.setCell ⟨g,acc.length*12,none⟩ (.slice none 0 0)) B B:=by
  intro ty size n' v xs ht' hv
  have hne:=zC2 hv h.own ht'
  exact zAZ hv (fun g' hg'=>hother g' (fun e=>hne g' hg' (by rw[e];rfl)))
 have hlen:=hc.len
 obtain⟨tv,fv,xe,xf,hcc,h1,h2⟩:=hc
 have hc':zF1 w B (Rt.zAt p) (c.set 0 (.slice none 0 0)):=by
  obtain⟨pv,iv,vv,vs,hfv,hr⟩:=h2
  subst hfv
  subst hcc
  exact⟨.slice none 0 0,_,xe,xf,rfl,World.ownsRow_nil _ _ _ _,⟨pv,iv,vv,vs,rfl,hr⟩⟩
 refine⟨d1++c.set 0 (.slice none 0 0)::d2,⟨?_,?_,?_,zA5.join _ _ _ _ _ _ (hK.lines _ _ hA) (hK.line hc') (hK.lines _ _ hC),?_,?_⟩⟩
 ·have:=h.lt
  simpa[World.setCell] using this
 ·rw[World.cell?_of_block (a:=⟨P,0,none⟩) (hother P hP)]
  exact h.cell
 ·have hown:=h.own
  rw[←hn]at hown
  have e1:cs.flatten=d1.flatten++c++d2.flatten:=by rw[hcs];simp
  rw[e1]at hown
  have:=zAx hown 0 (.slice none 0 0) (by omega)
  rw[hl]at this
  rw[show (acc++Rt.zAt p::r).length=n by rw[hn];simp]
  simpa using this
 ·intro g' n' cap' e i x hx
  injection e with e1 e2 e3
  injection e1 with e1
  injection e1 with e1
  subst e1
  obtain⟨q1,q2⟩:=h.zJ7 g n cap rfl i x hx
  rw[zv (by omega),zv (by omega)]
  exact⟨q1,q2⟩
 ·rw[h.len];simp
theorem drop_any (w:World) (P B:Nat) (pls:List Rt.PL) (lk:Rt.Lks) (lv:Value) (cs:List (List Value)) (h:zB5 w P B pls lk lv cs) (hne:lv.ownBlock≠some P) (hlen:pls.length≤101) :
  Calls Tryz.prog 87 #[.pointer (some ⟨P,0,none⟩)] w fun e w'=>e=.returned (.tuple #[])∧(∃cs',zB5 w' P B (pls.map Rt.zAt) lk lv cs')∧w.grownBy w' lv.ownBlock:=by
 go_enter Tryz.func87,Tryz.ntmps87
 go_wp2_with fail
 go_loopw [2] (fun i wr=>∃(k:Nat) (cs':List (List Value)),k≤pls.length∧i=.int .i64 k∧zB5 wr P B ((pls.take k).map Rt.zAt++pls.drop k) lk lv cs'∧w.grownBy wr lv.ownBlock)
  (fun i _=>pls.length+1-(intOf i).toNat)
 case atStart=>exact⟨0,cs,Nat.zero_le _,rfl,by simpa using h,⟨rfl,rfl,rfl,Nat.le_refl _,fun _ _ _=>rfl⟩⟩
 case round=>
  clear h
  obtain⟨k,cs',hk,rfl,hpr,hgr⟩:=hrel
  have hl:((pls.take k).map Rt.zAt++pls.drop k).length=pls.length:=by simp;omega
  obtain⟨adl,capl,hlv,cP⟩:=hpr.zEV
  rw[hl]at hlv cP
  by_cases hlt:k < pls.length
  ·have hlt':(k:Int) < (pls.length:Int):=by omega
   have hk0:(0:Int)≤(k:Int):=by omega
   have hs:(pls.take k).map Rt.zAt++pls.drop k=(pls.take k).map Rt.zAt++pls[k]::pls.drop (k+1):=by rw[List.drop_eq_getElem_cons hlt]
   have hs2:(pls.take (k+1)).map Rt.zAt++pls.drop (k+1)=(pls.take k).map Rt.zAt++Rt.zAt pls[k]::pls.drop (k+1):=by
    rw[List.take_add_one,List.getElem?_eq_getElem hlt,List.map_append,List.append_assoc];rfl
   rw[hs]at hpr
   have hl1:((pls.take k).map Rt.zAt).length=k:=by simp;omega
   obtain⟨g,cap,a0,a1,a2,a3,k0,k1,k2,k3,xe,xf,hlv2,hglt,⟨t0,-⟩,⟨f0,-⟩,-⟩:=hpr.get
   rw[hlv]at hlv2
   injection hlv2 with e1 e2 e3
   clear e2
   subst e1 e3
   rw[hl1]at t0 f0
   have hgP:P≠g:=by rw[hlv]at hne;intro e;exact hne (by rw[e];rfl)
   have hlen2:pls.length=((pls.take k).map Rt.zAt++pls[k]::pls.drop (k+1)).length:=by rw[←hs,hl]
   have hset:=(hlv▸hpr).setT hgP hlen2
   rw[hl1,←hs2,←hlv]at hset
   have HF:=zB (And.intro hset (zKG hgr (by rw[hlv];exact zLD wr ⟨g,k*12,none⟩ (.slice none 0 0))))
   clear hpr hgr hset hs hs2 hl hl1 hlen2 hlv hgP
   generalize pls[k].zf.length=tl at *
   go_wp2_with fail
   go_roundw
   case rel=>
    obtain⟨⟨cs2,q1⟩,q2⟩:=zA HF
    exact⟨k+1,cs2,by omega,by go_num,q1,q2⟩
   case measure=>simp[intOf];omega
  ·have hlt':¬(k:Int) < (pls.length:Int):=by omega
   have he:(pls.take k).map Rt.zAt++pls.drop k=pls.map Rt.zAt:=by rw[List.take_of_length_le (by omega),List.drop_eq_nil_of_le (by omega),List.append_nil]
   rw[he]at hpr
   have HF:=zB (And.intro hpr hgr)
   clear hpr hgr he hlv hl
   go_wp2_with fail
   go_end0
   exact⟨rfl,⟨_,(zA HF).1⟩,(zA HF).2⟩
theorem McS.valPush {w wx wy w1:World} {M B:Nat} {ty:TypeId} {tail:List Value} {S:Rt.Src} {m:Rt.Mc} {X:McX} (h:McS w M B ty tail S m X) (hb:Below w.heap.size w wx) (hby:Below wx.heap.size wx wy) (cv:Value) (zs:List Int) (hn:wx.ownsRow w.heap.size 3 1 cv zs.length (zz zs))
  (hg:wy.grownBy w1 X.vv.ownBlock) (vv':Value) (hown:w1.ownsRow 0 24 1 vv' (m.values.length+1) (X.vps++[cv])) (hat:∀g,vv'.ownBlock=some g→X.vv.ownBlock=some g∨wx.heap.size≤g) :
  McS (w1.setCell ⟨M,3,none⟩ vv') M B ty tail S { m with values:=m.values++[zs] } { X with vv:=vv',vps:=X.vps++[cv] }∧Frm w (w1.setCell ⟨M,3,none⟩ vv') (M::zDX X)∧zCz w (zDX X) (zDX { X with vv:=vv',vps:=X.vps++[cv] }):=by
 have hrow:=h.zGO
 have hkx:∀k,k < wx.heap.size→X.vv.ownBlock≠some k→w1.heap[k]?=wx.heap[k]?:=fun k hk hv=>(hg.block k (Nat.lt_of_lt_of_le hk hby.size) (Ne.symm hv)).trans (hby.block k hk)
 have hkeep:∀k,k < w.heap.size→X.vv.ownBlock≠some k→w1.heap[k]?=w.heap[k]?:=fun k hk hv=>(hkx k (Nat.lt_of_lt_of_le hk hb.size) hv).trans (hb.block k hk)
 have hint:∀g,X.vv.ownBlock=some g→∃c,w.heap[g]?=some (.cells c 24 (0,0)):=fun g hg=>zAj hrow hg
 have hMne:X.vv.ownBlock≠some M:=by
  intro e
  obtain⟨c,hc⟩:=hint M e
  rw[h.block]at hc
  injection hc with hc
  injection hc with _ hc
  exact h.ty.2.2.1 hc
 have hk:∀(k:Nat) (x:Obj),w.heap[k]?=some x→(∃c t,x=Obj.cells c t (0,0)∧PTy t)→w1.heap[k]?=some x:=by
  intro k x hx hp
  rw[hkeep k (zJ hx) (fun e=>by
   obtain⟨c,hc⟩:=hint k e
   rw[hx]at hc
   injection hc with hc
   obtain⟨c',t',e2,hp⟩:=hp
   rw[hc]at e2
   injection e2 with _ e2
   rw[←e2]at hp
   exact absurd hp (by unfold PTy;decide))]
  exact hx
 have hrows:rowsOf S.input X m=[zQ X.iv S.input,⟨153,2,X.fv,m.zD.length,fCells X.fps m.zD⟩]++⟨24,1,X.vv,m.values.length,X.vps⟩::([zQ X.ov m.output]++(List.zipWith zQ X.fps (m.zD.map Rt.Fm.params)++List.zipWith zQ X.vps m.values)):=rfl
 have ho0:=h.own.zH hb
 have ho1:Own wx (rowsOf S.input X m++zQ cv zs::[]):=by
  refine Own.add (A:=rowsOf S.input X m) (B:=[]) (by rw[List.append_nil];exact ho0) (zCr hn) (fun g hg hm=>?_)
  rw[List.append_nil]at hm
  have h1:=h.own.lt g hm
  have h2:=(hn.lt g hg).1
  omega
 have ho2:Own wx ([zQ X.iv S.input,⟨153,2,X.fv,m.zD.length,fCells X.fps m.zD⟩]++⟨24,1,X.vv,m.values.length,X.vps⟩::([zQ X.ov m.output]++(List.zipWith zQ X.fps (m.zD.map Rt.Fm.params)++List.zipWith zQ X.vps m.values)++[zQ cv zs])):=ho1
 obtain⟨o1,o2⟩:=Own.swap (w':=w1) ho2 (r':=⟨24,1,vv',m.values.length+1,X.vps++[cv]⟩) hkx hown hat
 have hz:List.zipWith zQ (X.vps++[cv]) (m.values++[zs])=List.zipWith zQ X.vps m.values++[zQ cv zs]:=by
  rw[List.zipWith_append h.vl];rfl
 have hrows':rowsOf S.input { X with vv:=vv',vps:=X.vps++[cv] } { m with values:=m.values++[zs] }=[zQ X.iv S.input,⟨153,2,X.fv,m.zD.length,fCells X.fps m.zD⟩]++⟨24,1,vv',m.values.length+1,X.vps++[cv]⟩::([zQ X.ov m.output]++(List.zipWith zQ X.fps (m.zD.map Rt.Fm.params)++List.zipWith zQ X.vps m.values)++[zQ cv zs]):=by
  unfold rowsOf
  simp only[hz,List.length_append,List.length_singleton,List.append_assoc,List.cons_append,List.nil_append]
 have hmc:=h.step (w1:=w1) (m':={ m with values:=m.values++[zs] }) (X':={ X with vv:=vv',vps:=X.vps++[cv] }) (Nat.le_trans (Nat.le_trans hb.size hby.size) hg.size) (hkeep M (zJ h.block) hMne) hk 3 vv' (by simp[zAn]) (by rw[hrows'];exact o1) rfl rfl h.fl (by simp[h.vl])
 refine⟨hmc,?_,?_⟩
 ·refine Frm.setM ⟨hg.os.trans (hby.os.trans hb.os),hg.tape.trans (hby.tape.trans hb.tape),hg.output.trans (hby.output.trans hb.output),Nat.le_trans (Nat.le_trans hb.size hby.size) hg.size,fun k hk2 hn=>hkeep k hk2 (fun e=>hn (List.mem_cons_of_mem _ ?_))⟩ _ _
  rw[←h.zAJ]
  exact zAf (r:=⟨24,1,X.vv,m.values.length,X.vps⟩) (by rw[hrows];simp) e
 ·rw[←h.zAJ,←hmc.zAJ,hrows']
  intro k hk3
  have hk4:=o2 k hk3
  rcases hk4 with hk4 | hk4
  ·have hk4':k∈Go.Proofs.YthleadfkfnnadaaGreat.zAJ (rowsOf S.input X m++[zQ cv zs]):=hk4
   replace hk4:=hk4'
   rw[zA7]at hk4
   rcases List.mem_append.mp hk4 with hk5 | hk5
   ·exact Or.inl hk5
   ·refine Or.inr ?_
    rw[zBY]at hk5
    cases e:(zQ cv zs).v.ownBlock with
    | none=>rw[e]at hk5;simp[Go.Proofs.YthleadfkfnnadaaGreat.zAJ]at hk5
    | some g=>
     rw[e]at hk5
     rcases List.mem_cons.mp hk5 with rfl | hk5
     ·exact(hn.lt _ e).1
     ·simp[Go.Proofs.YthleadfkfnnadaaGreat.zAJ]at hk5
  ·exact Or.inr (Nat.le_trans hb.size hk4)
theorem Tryz.zII:(Tryz.prog.info? 24).map (fun i=>(i.zero,i.size,i.bytes))=some (some (.slice none 0 0),1,24):=by kernel_rfl
theorem zNp (w:World) (M B:Nat) (ty:TypeId) (tail:List Value) (S:Rt.Src) (m:Rt.Mc) (X:McX) (h:McS w M B ty tail S m X) (hv:m.values=[]) (hlen:S.pls.length≤101) (hc:∀p∈S.pls,p.form.cells≤1000) :
  Calls Tryz.prog 89 #[.pointer (some ⟨M,0,none⟩)] w fun e w'=>e=.returned (.tuple #[])∧∃X',Aft M B ty tail S X X' { m with values:=S.pls.map (fun p=>Rt.zA9 p.form) } w w':=by
 obtain⟨i0,hi0,hz0,hz1,hz2⟩:=info_parts Tryz.zII
 go_enter Tryz.func89,Tryz.ntmps89
 go_wp2_with fail
 go_loopw [2,3] (fun i _ wr=>∃(k:Nat) (X':McX),k≤S.pls.length∧i=.int .i64 k∧Aft M B ty tail S X X' { m with values:=(S.pls.take k).map (fun p=>Rt.zA9 p.form) } w wr)
  (fun i _ _=>S.pls.length+1-(intOf i).toNat)
 case atStart=>exact⟨0,X,Nat.zero_le _,rfl,by rw[List.take_zero,List.map_nil,←hv];exact Aft.start h (Below.refl _ _)⟩
 case round=>
  clear h
  obtain⟨k,X',hk,rfl,hA⟩:=hrel
  obtain⟨adl,capl,hlv,cP⟩:=hA.mc.prog.zEV
  by_cases hlt:k < S.pls.length
  ·have hlt':(k:Int) < (S.pls.length:Int):=by omega
   have hk0:(0:Int)≤(k:Int):=by omega
   have hl1:(S.pls.take k).length=k:=by simp;omega
   have hpr:=hA.mc.prog
   rw[zFU hlt]at hpr
   obtain⟨g,cap,a0,a1,a2,a3,k0,k1,k2,k3,xe,xf,hlv2,hglt,⟨-,t1,t2,t3,t4,t5,t6,-⟩,-,-⟩:=hpr.get
   rw[hlv]at hlv2
   injection hlv2 with e1 e2 e3
   clear e2
   subst e1 e3
   rw[hl1]at t1 t2 t3 t4 t5 t6
   have hcc:=hc _ (List.getElem_mem hlt)
   have HT:=zB (show (S.pls.take (k+1)).map (fun p=>Rt.zA9 p.form)=(S.pls.take k).map (fun p=>Rt.zA9 p.form)++[Rt.zA9 (S.pls[k]).form] by rw[List.take_add_one,List.getElem?_eq_getElem hlt,List.map_append];rfl)
   have hvl:((S.pls.take k).map (fun p=>Rt.zA9 p.form)).length=k:=by rw[List.length_map,hl1]
   have c3:=hA.mc.c3
   obtain⟨vad,vcap,hvv⟩:=zE hA.mc.zGO
   rw[hvl]at hvv
   rw[hvv]at c3
   have HA:=zB hA
   have HV:=zB hvv
   have HL:=zB hvl
   clear hpr hA hlv hl1 hvv hvl
   generalize S.pls[k]=p at *
   go_wp2_with fail
   refine(zPi _ p.form a1 a2 a3 k1 k2 k3 hcc).mono ?_
   rintro e w2 ⟨hb2,rv,rfl,hrv⟩
   have c3':=cell_later hb2 c3
   have hown:=zZ (zA HA).mc.zGO hb2
   rw[zA HV,zA HL]at hown
   have hMlt:=zJ (zK (zA HA).mc.block hb2)
   obtain⟨rad,rcap,hrv2⟩:=zE hrv
   have HRV:=zB hrv
   have HB2:=zB hb2
   have HRE:=zB hrv2
   clear hrv hb2 c3 cP t1 t2 t3 t4 t5 t6
   rw[hrv2]
   go_wp2_with (at_builtin;refine wpList_append_lies _ rfl _ _ 28 rfl 0 24 i0 _ 1 24 Tryz.underlying28 hi0 hz0 hz1 hz2 rfl (by decide) _ _ _ rfl (hown.alloc _) ⟨w2.heap.size,0,none⟩ 1 1 [.slice rad (Rt.zA9 p.form).length rcap] rfl rfl (cell_one_new _ _ _) (by simp[Value.oneCell']) (by omega) (by unfold maxLen;omega) (by omega) (Nat.zero_le _) (w2.heap.size+1) (by simp) ?_)
   intro g' cap' w4 hown4 hgrow hat hlt4
   rw[←zA HV]at hgrow hat
   rw[←hrv2]at hown4
   have hA:=zA HA
   have hb2:=zA HB2
   have hbN:=(Below.refl w2.heap.size w2).alloc (Nat.le_refl _) (.cells #[.slice rad (Rt.zA9 p.form).length rcap] 24)
   obtain⟨q1,q2,q3⟩:=hA.mc.valPush hb2 hbN rv (Rt.zA9 p.form) (zA HRV) hgrow (.slice (some ⟨g',0,none⟩) (k+1) cap') (by show World.ownsRow _ 0 24 1 _ (((S.pls.take k).map (fun p=>Rt.zA9 p.form)).length+1) _;rw[zA HL];exact hown4) (fun g2 hg2=>by simp[Value.ownBlock]at hg2;subst hg2;rcases hat with h | h;exact Or.inl h;exact Or.inr (by omega))
   have hAx:=hA.more q1 q2 q3
   have hne:(X'.vv).ownBlock≠some M:=by
    intro e
    obtain⟨c,hc⟩:=zAj hA.mc.zGO e
    rw[hA.mc.block]at hc
    injection hc with hc
    injection hc with _ hc
    exact hA.mc.ty.2.2.1 hc
   have bM4:=(hgrow.block M (Nat.lt_of_lt_of_le hMlt hbN.size) (Ne.symm hne)).trans (zK (zK hA.mc.block hb2) hbN)
   have d3:w4.cell? ⟨M,3,none⟩=some X'.vv:=by have:=zC bM4 3 (by simp);simpa using this
   have z3:=zI bM4 3
   have HF:=zB hAx
   clear q1 q2 q3 hAx hne bM4 hA hb2 hbN hown4 hgrow hat hlt4 hown hrv2 HA HRV c3'
   go_wp2_with fail
   go_roundw
   case rel=>exact⟨k+1,_,by omega,by go_num,by rw[zA HT];exact zA HF⟩
   case measure=>simp[intOf];omega
  ·have hlt':¬(k:Int) < (S.pls.length:Int):=by omega
   have HF:=zB hA
   clear hA hlv
   go_wp2_with fail
   go_end0
   refine⟨rfl,X',?_⟩
   have:=zA HF
   rw[List.take_of_length_le (by omega)]at this
   exact this
end Go.Proofs.YthleadfkfnnadaaGreat
