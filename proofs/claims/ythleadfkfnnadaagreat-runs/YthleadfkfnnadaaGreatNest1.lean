/- The nesting of blocks: pass. -/
import Derived.Test.YthleadfkfnnadaaGreatProg0
set_option maxHeartbeats 4000000
set_option maxRecDepth 100000
namespace Go.Proofs.YthleadfkfnnadaaGreat
open Go.RowKit
attribute [local go_sem ↓] Go.wp_at_zero Go.wp_at_succ
theorem zAP.push {w w1 w2:World} {P:Nat} {pls:List Rt.PL} {lv lv':Value} {cs:List (List Value)} {p:Rt.PL} {c:List Value} (h:zAP w P pls lv cs) (hp:zF1 w (P+1) p c) (hb:Below w.heap.size w w1)
  (hown:w2.ownsRow (P+1) 145 12 lv' (pls.length+1) (cs.flatten++c)) (hgrow:w1.grownBy w2 lv.ownBlock) :
  zAP (w2.setCell ⟨P,0,none⟩ lv') P (pls++[p]) lv' (cs++[c])∧Below P w (w2.setCell ⟨P,0,none⟩ lv'):=by
 have hPlt:=zJ h.block
 have hrow:∀k,lv.ownBlock=some k→P < k:=fun k hk=>by have:=(h.own.lt k hk).1;omega
 have hkeep:∀k,k < w.heap.size→some k≠lv.ownBlock→w2.heap[k]?=w.heap[k]?:=fun k hk hv=>by
  rw[hgrow.block k (Nat.lt_of_lt_of_le hk hb.size) hv]
  exact hb.block k hk
 have hset:∀k,k≠P→(w2.setCell ⟨P,0,none⟩ lv').heap[k]?=w2.heap[k]?:=fun k hk=>Below.heap_setCell w2 ⟨P,0,none⟩ _ k hk
 have hK:zEI w (w2.setCell ⟨P,0,none⟩ lv') (P+1) (P+1):=by
  intro t size n v xs ht hv
  have hne:=zC2 hv h.own ht
  obtain⟨h1,h2⟩:=hv
  refine⟨h1,?_⟩
  rcases h2 with h2 | ⟨g,cap,cur,hv',hg,hh,r⟩
  ·exact Or.inl h2
  ·exact Or.inr ⟨g,cap,cur,hv',hg,by rw[hset g (by omega),hkeep g (zJ hh) (fun e=>hne g (by rw[hv'];rfl) e.symm)];exact hh,r⟩
 refine⟨⟨?_,?_,zA5.snoc (hK.line hp) _ _ (hK.lines _ _ h.lines)⟩,?_⟩
 ·have hbk:w2.heap[P]?=some (.cells #[lv] 76 (0,0)):=(hkeep P hPlt (fun e=>by have:=hrow P e.symm;omega)).trans h.block
  have:=zO hbk 0 lv'
  simpa using this
 ·have:(cs++[c]).flatten=cs.flatten++c:=by simp
  rw[this,List.length_append]
  exact ownsRow_setCell_below hown (by show P < P+1;omega) _
 ·refine⟨hgrow.os.trans hb.os,hgrow.tape.trans hb.tape,hgrow.output.trans hb.output,?_,fun k hk=>(hset k (by omega)).trans (hkeep k (by omega) (fun e=>by have:=hrow k e.symm;omega))⟩
  have h1:=hgrow.size
  have h2:=hb.size
  simp[World.setCell]
  omega
theorem far_cell {w w1 w2:World} {P:Nat} {lv:Value} {row:Option Nat} (hblk:w.heap[P]?=some (.cells #[lv] 76 (0,0))) (hb:Below w.heap.size w w1) (hgrow:w1.grownBy w2 row) (hr:row≠some P) :
  w2.cell? ⟨P,0,none⟩=some lv∧w2.frozen? ⟨P,0,none⟩=false:=by
 have hk:w2.heap[P]?=some (.cells #[lv] 76 (0,0)):=by
  rw[hgrow.block P (Nat.lt_of_lt_of_le (zJ hblk) hb.size) (Ne.symm hr),hb.block P (zJ hblk)]
  exact hblk
 exact⟨zC hk 0 (by simp),zI hk 0⟩
abbrev zJS:Array Value:=#[zL,.int .i64 0,.string ⟨#[]⟩,.int .i64 0,zL,zL,zL,.int .i64 0,.int .i64 0,.int .i64 0,.int .i64 0,.int .i64 0]
theorem zAG (w:World) (o1 o2:Obj):((w.alloc o1).alloc o2).heap[w.heap.size+1]?=some o2:=by
 have:=heap_alloc_new (w.alloc o1) o2
 simpa using this
theorem zOH {w:World} {P:Nat} {lv0:Value} (hP:w.heap[P]?=some (.cells #[lv0] 76 (0,0))) :
  zAP ((w.setCell ⟨P,0,none⟩ (.slice (some ⟨w.heap.size,0,none⟩) 1 1)).alloc (.cells zJS 145)) P [Rt.zPL] (.slice (some ⟨w.heap.size,0,none⟩) 1 1) [zJS.toList]:=by
 have hlt:=zJ hP
 refine⟨?_,?_,⟨zL,zp,0,0,rfl,World.ownsRow_nil _ _ _ _,zBr _ _ _ _ _⟩,trivial⟩
 ·have:=zO hP 0 (.slice (some ⟨w.heap.size,0,none⟩) 1 1)
  exact zV (by simpa using this) _
 ·have h:=heap_alloc_new (w.setCell ⟨P,0,none⟩ (.slice (some ⟨w.heap.size,0,none⟩) 1 1)) (.cells zJS 145)
  have hsz:(w.setCell ⟨P,0,none⟩ (.slice (some ⟨w.heap.size,0,none⟩) 1 1)).heap.size=w.heap.size:=by simp[World.setCell]
  rw[hsz]at h
  exact⟨rfl,Or.inr ⟨w.heap.size,1,zJS,rfl,by omega,h,Nat.le_refl _,by unfold maxLen;omega,rfl,rfl⟩⟩
theorem zQN {w w1 w2:World} {P:Nat} {pls:List Rt.PL} {lv:Value} {cs:List (List Value)} (h:zAP w P pls lv cs) (hb:Below w.heap.size w w1) (hgrow:w1.grownBy w2 lv.ownBlock)
  {t:TypeId} {size n:Nat} {v:Value} {xs:List Value} (hv:w.ownsRow (P+1) t size v n xs) (ht:t≠145) (lv':Value):(w2.setCell ⟨P,0,none⟩ lv').ownsRow (P+1) t size v n xs:=by
 have hne:=zC2 hv h.own ht
 obtain⟨h1,h2⟩:=hv
 refine⟨h1,?_⟩
 rcases h2 with h2 | ⟨g,cap,cur,hv',hg,hh,r⟩
 ·exact Or.inl h2
 ·refine Or.inr ⟨g,cap,cur,hv',hg,?_,r⟩
  rw[Below.heap_setCell w2 ⟨P,0,none⟩ _ g (by show g≠P;omega),hgrow.block g (Nat.lt_of_lt_of_le (zJ hh) hb.size) (fun e=>hne g (by rw[hv'];rfl) e.symm),hb.block g (zJ hh)]
  exact hh
def Lk0 (cs:List (List Value)):Prop:=∀c∈cs,c[9]?=some (.int .i64 0)∧c[10]?=some (.int .i64 0)
theorem zKv (w:World) (P:Nat) (lv0:Value) (s:ByteArray) (hP:w.heap[P]?=some (.cells #[lv0] 76 (0,0))) (hs:s.size≤40000) (hls:(Rt.lines s).length≤100) :
    Calls Tryz.prog 75 #[.pointer (some ⟨P,0,none⟩),.string s] w fun e w'=>Below P w w'∧
      (((Rt.rForms 0 (Rt.lines s) [Rt.zPL]).1=0∧e=.returned (.tuple #[.int .i64 0,.int .i64 0])∧∃lv cs,zAP w' P (Rt.rForms 0 (Rt.lines s) [Rt.zPL]).2 lv cs∧Lk0 cs)∨
       (¬(Rt.rForms 0 (Rt.lines s) [Rt.zPL]).1=0∧e=.returned (.tuple #[.int .i64 2,.int .i64 (Rt.rForms 0 (Rt.lines s) [Rt.zPL]).1])∧w'.heap.size≥w.heap.size)):=by
  obtain⟨i0,hi0,hz0,hz1,hz2⟩:=info_parts Tryz.infoLine
  have hPlt:=zJ hP
  have c0:=zC hP 0 (by simp)
  have f0:=zI hP 0
  simp at c0
  go_enter Tryz.func75,Tryz.ntmps75
  go_wp2_with fail
  have hA:zAP ((w.setCell ⟨P,0,none⟩ (.slice (some ⟨w.heap.size,0,none⟩) 1 1)).alloc (.cells zJS 145)) P [Rt.zPL] (.slice (some ⟨w.heap.size,0,none⟩) 1 1) [zJS.toList]:=zOH hP
  have hbA:Below P w ((w.setCell ⟨P,0,none⟩ (.slice (some ⟨w.heap.size,0,none⟩) 1 1)).alloc (.cells zJS 145)):=((Below.refl P w).setCell (p:=⟨P,0,none⟩) (Nat.le_refl _) _).alloc (by simp[World.setCell];omega) _
  clear c0 f0 hP
  refine(zQX s _ hs).mono ?_
  rintro e w1 ⟨hb1,tx,rfl,htx⟩
  have hpr1:=hA.zH hb1
  have hbe1:=hbA.trans (hb1.mono (B':=P) (by simp[World.setCell];omega))
  have htx1:=zh (b':=P+1) htx (by simp[World.setCell];omega)
  clear hA hbA hb1 htx
  obtain⟨adx,capx,rfl⟩:=zE htx1
  have hsm:=Rt.zCk hs
  generalize hL:Rt.lines s=L at *
  have HL:=zB hL
  clear hL
  have HSM:=zB hsm
  clear hsm
  go_wp2_with fail
  go_loopw [7,8,9,10] (fun i _ _ _ wr=>∃(k:Nat) (acc:List Rt.PL) (lv:Value) (cs:List (List Value)),k≤L.length∧i=.int .i64 k∧acc.length=k+1∧Rt.rForms k (L.drop k) acc=Rt.rForms 0 L [Rt.zPL]∧
      zAP wr P acc lv cs∧Lk0 cs∧wr.ownsRow (P+1) 9 1 (.slice adx L.length capx) L.length (L.map Value.string)∧Below P w wr)
    (fun i _ _ _ _=>L.length-(intOf i).toNat)
  case atStart=>exact⟨0,[Rt.zPL],_,_,Nat.zero_le _,rfl,rfl,rfl,hpr1,(fun c hc=>by rw[List.mem_singleton.mp hc];exact⟨rfl,rfl⟩),htx1,hbe1⟩
  case round=>
    clear hpr1 htx1 hbe1
    obtain⟨k,acc,lv,cs,hk,rfl,hacc,hT,hpr,hlk,htx,hbe⟩:=hrel
    have HLK:=zB hlk
    clear hlk
    have HT:=zB hT
    have HA:=zB hacc
    clear hT hacc
    have hszr:=hbe.size
    by_cases hlt:k < L.length
    · have hlt':(k:Int) < (L.length:Int):=by omega
      obtain⟨gx,capx',hvx,_,_,cx⟩:=zW htx (j:=k) (u:=.string L[k]) (by simp[hlt])
      have hsk:=(zA HSM) L[k] (List.getElem_mem hlt)
      simp at hvx
      obtain⟨rfl,rfl⟩:=hvx
      have hdrop:L.drop k=L[k]::L.drop (k+1):=List.drop_eq_getElem_cons hlt
      go_wp2_with fail
      refine(zOC L[k] _ hsk).mono ?_
      rintro e w2 ⟨hb2,(⟨ht,rfl⟩| ⟨ts,tv,ht,rfl,htv⟩)⟩
      · have HE:Hid (Rt.rForms 0 L [Rt.zPL]=(k+1,acc)):=by
          refine zB ?_
          rw[←zA HT,hdrop,Rt.rForms,Rt.rdLine,ht]
        have HB:=zB (hbe.trans (hb2.mono (B':=P) (by omega)))
        clear hpr htx hbe hb2 ht hdrop cx
        go_wp2_with fail
        go_ret2
        have hE:=zA HE
        rw[←zA HL]at hE
        refine⟨zA HB,Or.inr ⟨by rw[hE];simp,by rw[hE];simp,by have:=(zA HB).size;omega⟩⟩
      · obtain⟨hf1,hf2⟩:=Rt.zEv hsk ht
        have hpr2:=hpr.zH hb2
        have htx2:=zZ htx hb2
        have hbe2:=hbe.trans (hb2.mono (B':=P) (by omega))
        have htv2:=zh (b':=P+1) htv (by omega)
        clear hpr htx hbe htv cx
        obtain⟨adt,capt,rfl⟩:=zE htv2
        go_wp2_with fail
        refine(zK1 _ _ ts _ htv2 hf1 hf2).mono ?_
        rintro e w3 ⟨hb3,(⟨fm,fv,hp,rfl,hfv⟩| ⟨hp,rfl⟩)⟩
        · have hsz2:=hb2.size
          have hpr3:=hpr2.zH hb3
          have htx3:=zZ htx2 hb3
          have hbe3:=hbe2.trans (hb3.mono (B':=P) (by omega))
          have htv3:=zZ htv2 hb3
          have hfv3:zAd w3 (P+1) fv fm:=zF2 hfv (fun t size n v xs h=>zh h (by omega))
          have HE:Hid (Rt.rForms (k+1) (L.drop (k+1)) (acc++[⟨ts,fm,0,0,0⟩])=Rt.rForms 0 L [Rt.zPL]):=by
            refine zB ?_
            rw[←zA HT,hdrop,Rt.rForms,Rt.rdLine,ht]
            simp only
            rw[hp]
          have hfv4:=hfv3
          obtain⟨pv,iv,vv,vs,rfl,b1,b2,b3,_⟩:=hfv3
          obtain⟨ad1,cap1,rfl⟩:=zE b1
          obtain⟨ad2,cap2,rfl⟩:=zE b2
          obtain⟨ad3,cap3,rfl⟩:=zE b3
          have hbF:=(Below.refl w3.heap.size w3).alloc (Nat.le_refl _) (.cells #[.int .i64 fm.kind,.string fm.name,.int .i64 fm.cells,.slice ad1 fm.params.length cap1,.slice ad2 fm.index.length cap2,.slice ad3 fm.values.length cap3] 143)
          have hPlt3:=zJ hpr3.block
          have cP:=zC hpr3.block 0 (by simp)
          simp at cP
          have hown3:=hpr3.own
          have hneP:lv.ownBlock≠some P:=fun h=>by have:=(hown3.lt P h).1;omega
          clear hpr2 htx2 hbe2 htv2 hfv b1 b2 b3 hp ht hb2 hb3 hdrop
          have hlen:=zA HA
          have HA2:=zB hlen
          have hb100:acc.length≤101:=by omega
          clear hlen
          obtain⟨adl,capl,rfl⟩:=zE hown3
          go_wp2_with fail
          go_region_law
            ((refine step_append_lies _ (by rfl) _ _ _ (by rfl) (P+1) 145 i0 _ 12 168 Tryz.underlying74 hi0 hz0 hz1 hz2 rfl (by omega) _ acc.length cs.flatten (by rfl) (((hown3.alloc _).alloc _).drew)
                ⟨w3.heap.size+1,0,none⟩ 1 1 [.slice adt ts.length capt,.int .i64 fm.kind,.string fm.name,.int .i64 fm.cells,.slice ad1 fm.params.length cap1,.slice ad2 fm.index.length cap2,.slice ad3 fm.values.length cap3,.int .i64 0,.int .i64 0,.int .i64 0,.int .i64 0,.int .i64 0] (by rfl) (by rfl)
                (World.news_of_block (cs:=#[.slice adt ts.length capt,.int .i64 fm.kind,.string fm.name,.int .i64 fm.cells,.slice ad1 fm.params.length cap1,.slice ad2 fm.index.length cap2,.slice ad3 fm.values.length cap3,.int .i64 0,.int .i64 0,.int .i64 0,.int .i64 0,.int .i64 0]) (t:=145) (fr:=(0,0)) (zKk w3 _ _)) (by simp[Value.oneCell'])
                (by omega) (by unfold maxLen;omega) (by omega) (by simp;omega) (w3.heap.size+2) (by simp) ?_;intro gg capg w4 hown4 hgrow hat hlt4;obtain⟨hfar,hfz⟩:=far_cell hpr3.block ((hbF.alloc (by simp) _).drew) hgrow hneP))
          all_goals
            have hfin:=hpr3.push (p:=⟨ts,fm,0,0,0⟩) ⟨.slice adt ts.length capt,_,0,0,rfl,htv3,hfv4⟩ ((hbF.alloc (by simp) _).drew) hown4 hgrow
            have hfinx:=zQN hpr3 ((hbF.alloc (by simp) _).drew) hgrow htx3 (by decide) (.slice (some ⟨gg,0,none⟩) (acc.length+1) capg)
            have HF:=zB (And.intro hfin (And.intro hfinx hbe3))
            clear hfin hfinx hgrow hown4 hpr3 htx3 hbe3 htv3 hfv4 hbF hown3 hfar hfz hat hlt4 hneP cP
            go_wp2_with fail
            go_roundw
            case rel=>
              obtain⟨⟨q1,q2⟩,q3,q4⟩:=zA HF
              exact⟨k+1,_,_,_,by omega,by go_num,by simp;exact zA HA2,zA HE,q1,(fun c hc=>by rcases List.mem_append.mp hc with hc | hc;exact zA HLK c hc;rw[List.mem_singleton.mp hc];exact⟨rfl,rfl⟩),q3,q4.trans q2⟩
            case measure=>simp[intOf];omega
        · have HE:Hid (Rt.rForms 0 L [Rt.zPL]=(k+1,acc)):=by
            refine zB ?_
            rw[←zA HT,hdrop,Rt.rForms,Rt.rdLine,ht]
            simp only
            rw[hp]
          have HB:=zB ((hbe2.trans (hb3.mono (B':=P) (by have:=hb2.size;omega))).alloc (by have:=hb2.size;have:=hb3.size;omega) (.cells zp 143))
          clear hpr2 htx2 hbe2 htv2 hb3 hb2 ht hp hdrop
          go_wp2_with fail
          go_ret2
          have hE:=zA HE
          rw[←zA HL]at hE
          refine⟨zA HB,Or.inr ⟨by rw[hE];simp,by rw[hE];simp,by have:=(zA HB).size;omega⟩⟩
    · have HE:Hid (Rt.rForms 0 L [Rt.zPL]=(0,acc)):=by
        refine zB ?_
        rw[←zA HT,List.drop_eq_nil_of_le (by omega),Rt.rForms]
      have hlt':¬(k:Int) < (L.length:Int):=by omega
      have HF:=zB (And.intro hpr hbe)
      clear hpr htx hbe
      go_wp2_with fail
      go_ret2
      have hE:=zA HE
      rw[←zA HL]at hE
      obtain⟨q1,q2⟩:=zA HF
      exact⟨q2,Or.inl ⟨by rw[hE],rfl,lv,cs,by rw[hE];exact q1,zA HLK⟩⟩
theorem zJO (bs:List Rt.Blk):bs=[]∨∃pre b,bs=pre++[b]:=by
 rcases List.eq_nil_or_concat bs with h | ⟨pre,b,h⟩
 ·exact Or.inl h
 ·exact Or.inr ⟨pre,b,by simpa using h⟩
structure zBu (w:World) (S:Nat) (bs:List Rt.Blk) (bv:Value):Prop where
 block:w.heap[S]?=some (.cells #[bv] 181 (0,0))
 own:w.ownsRow (S+1) 212 3 bv bs.length (Rt.zBH bs)
theorem zBu.zH {w w':World} {S:Nat} {bs:List Rt.Blk} {bv:Value} (h:zBu w S bs bv) (hb:Below w.heap.size w w'):zBu w' S bs bv:=⟨zK h.block hb,zZ h.own hb⟩
theorem zBu.last {w:World} {S:Nat} {pre:List Rt.Blk} {b:Rt.Blk} {bv:Value} (h:zBu w S (pre++[b]) bv) :
  ∃g cap,bv=.slice (some ⟨g,0,none⟩) (pre.length+1) cap∧S < g∧w.cell? ⟨g,pre.length*3,none⟩=some (.int .i64 b.line)∧w.cell? ⟨g,pre.length*3+1,none⟩=some (.int .i64 b.kind)∧w.cell? ⟨g,pre.length*3+2,none⟩=some (.bool b.els):=by
 have hl:=Rt.zDA pre
 have e0:(Rt.zBH (pre++[b]))[pre.length*3]?=some (.int .i64 b.line):=by rw[Rt.zBc,←hl];simp
 have e1:(Rt.zBH (pre++[b]))[pre.length*3+1]?=some (.int .i64 b.kind):=by rw[Rt.zBc,←hl];simp
 have e2:(Rt.zBH (pre++[b]))[pre.length*3+2]?=some (.bool b.els):=by rw[Rt.zBc,←hl];simp
 obtain⟨g,cap,rfl,hg,_,c0⟩:=zW h.own e0
 obtain⟨_,_,h1,_,_,c1⟩:=zW h.own e1
 obtain⟨_,_,h2,_,_,c2⟩:=zW h.own e2
 simp at h1 h2
 obtain⟨rfl,_⟩:=h1
 obtain⟨rfl,_⟩:=h2
 exact⟨_,cap,by simp,by omega,c0,c1,c2⟩
theorem zFk (pre:List Rt.Blk) (b:Rt.Blk):Rt.zAq (pre++[b])=b:=by simp[Rt.zAq]
theorem zH0 (m:Nat) (h:m+1≤1000):IntKind.i64.wrap ((m:Int)+1-1)=(m:Int):=by
 rw[show (m:Int)+1-1=(m:Int) by omega,IntWalk.i64_left,IntWalk.wrap64_in _ (by omega)]
theorem zH1 (m:Nat) (h:m+1≤1000):IntKind.i64.wrap (m:Int)=(m:Int):=by
 rw[IntWalk.i64_left,IntWalk.wrap64_in _ (by omega)]
theorem zPH (w:World) (S:Nat) (bs:List Rt.Blk) (bv:Value) (kind:Int) (h:zBu w S bs bv) (hlen:bs.length≤1000) :
  Calls Tryz.prog 123 #[.pointer (some ⟨S,0,none⟩),.int .i64 kind] w fun e w'=>e=.returned (.bool (Rt.adm bs kind))∧Below w.heap.size w w':=by
 have c0:=zC h.block 0 (by simp)
 simp at c0
 by_cases k0:kind=0
 ·have k0':(kind==0)=true:=by simpa using k0
  have HE:=zB (show Rt.adm bs kind=true by simp[Rt.adm,k0])
  clear k0 h
  go_enter Tryz.func123,Tryz.ntmps123
  go_wp2_with fail
  go_ret
  exact⟨by rw[zA HE];simp,Below.refl _ _⟩
 have k0':(kind==0)=false:=by simpa using k0
 rcases zJO bs with rfl | ⟨pre,b,rfl⟩
 ·obtain⟨ad,cap,rfl⟩:=zE h.own
  simp only[List.length_nil]at c0
  by_cases k1:kind=1
  ·have k1':(kind==1)=true:=by simpa using k1
   have HE:=zB (show Rt.adm [] kind=true by simp[Rt.adm,k1])
   clear k0 k1 h
   go_enter Tryz.func123,Tryz.ntmps123
   go_wp2_with fail
   go_ret
   exact⟨by rw[zA HE];simp,Below.refl _ _⟩
  have k1':(kind==1)=false:=by simpa using k1
  by_cases k2:kind=2
  ·have k2':(kind==2)=true:=by simpa using k2
   have HE:=zB (show Rt.adm [] kind=true by simp[Rt.adm,k2])
   clear k0 k1 k2 h
   go_enter Tryz.func123,Tryz.ntmps123
   go_wp2_with fail
   go_ret
   exact⟨by rw[zA HE];simp,Below.refl _ _⟩
  have k2':(kind==2)=false:=by simpa using k2
  by_cases k3:kind=3
  ·have k3':(kind==3)=true:=by simpa using k3
   have HE:=zB (show Rt.adm [] kind=true by simp[Rt.adm,k3])
   clear k0 k1 k2 k3 h
   go_enter Tryz.func123,Tryz.ntmps123
   go_wp2_with fail
   go_ret
   exact⟨by rw[zA HE];simp,Below.refl _ _⟩
  have k3':(kind==3)=false:=by simpa using k3
  have HE:=zB (show Rt.adm [] kind=false by simp[Rt.adm,k0,k1,k2,k3])
  clear k0 k1 k2 k3 h
  go_enter Tryz.func123,Tryz.ntmps123
  go_wp2_with fail
  go_ret
  exact⟨by rw[zA HE];simp,Below.refl _ _⟩
 ·obtain⟨g,cap,rfl,hg,d0,d1,d2⟩:=h.last
  have hlen':pre.length+1≤1000:=by simpa using hlen
  have hz:(((pre.length:Int)+1)==0)=false:=by rw[beq_eq_false_iff_ne];omega
  by_cases k1:kind=1
  ·have k1':(kind==1)=true:=by simpa using k1
   have HE:=zB (show Rt.adm (pre++[b]) kind=false by simp[Rt.adm,k1])
   clear k0 k1 h
   go_enter Tryz.func123,Tryz.ntmps123
   go_wp2_with fail
   go_ret
   exact⟨by rw[zA HE];simp,Below.refl _ _⟩
  have k1':(kind==1)=false:=by simpa using k1
  by_cases k2:kind=2
  ·have k2':(kind==2)=true:=by simpa using k2
   have HE:=zB (show Rt.adm (pre++[b]) kind=false by simp[Rt.adm,k2])
   clear k0 k1 k2 h
   go_enter Tryz.func123,Tryz.ntmps123
   go_wp2_with fail
   go_ret
   exact⟨by rw[zA HE];simp,Below.refl _ _⟩
  have k2':(kind==2)=false:=by simpa using k2
  by_cases k3:kind=3
  ·have k3':(kind==3)=true:=by simpa using k3
   have HE:=zB (show Rt.adm (pre++[b]) kind=false by simp[Rt.adm,k3])
   clear k0 k1 k2 k3 h
   go_enter Tryz.func123,Tryz.ntmps123
   go_wp2_with fail
   go_ret
   exact⟨by rw[zA HE];simp,Below.refl _ _⟩
  have k3':(kind==3)=false:=by simpa using k3
  by_cases k6:kind=6
  ·have k6':(kind==6)=true:=by simpa using k6
   have HE:=zB (show Rt.adm (pre++[b]) kind=(decide (b.kind=5) && !b.els) by simp[Rt.adm,k6,zFk])
   clear k0 k1 k2 k3 k6 h
   generalize pre.length=m at *
   have hm0:(0:Int)≤(m:Int):=by omega
   have hm1:(m:Int) < (m:Int)+1:=by omega
   have hm2:(m:Int)≤1000:=by omega
   have hm3:=zH0 m hlen'
   have hm4:=zH1 m hlen'
   go_enter Tryz.func123,Tryz.ntmps123
   go_wp2_with fail
   go_region_held3 (fun w'=>w'.cell? ⟨S,0,none⟩=some (.slice (some ⟨g,0,none⟩) (m+1) cap)∧w'.cell? ⟨g,m*3,none⟩=some (.int .i64 b.line)∧w'.cell? ⟨g,m*3+1,none⟩=some (.int .i64 b.kind)∧w'.cell? ⟨g,m*3+2,none⟩=some (.bool b.els)) (go_keep) (fail)
   go_wp2_with fail
   all_goals
    go_ret
    exact⟨by rw[zA HE];simp_all,((Below.refl _ _).alloc (Nat.le_refl _) _).drew⟩
  ·have k6':(kind==6)=false:=by simpa using k6
   have HE:=zB (show Rt.adm (pre++[b]) kind=true by simp[Rt.adm,k0,k1,k2,k3,k6])
   clear k0 k1 k2 k3 k6 h
   go_enter Tryz.func123,Tryz.ntmps123
   go_wp2_with fail
   go_ret
   exact⟨by rw[zA HE];simp,Below.refl _ _⟩
theorem Tryz.infoBlk:(Tryz.prog.info? 212).map (fun i=>(i.zero,i.size,i.bytes))=some (some (.agg #[.int .i64 0,.int .i64 0,.bool false]),3,24):=by kernel_rfl
def zLw (bs:List Rt.Blk) (S:Nat) (bv:Value) (w:World) (e:Ending) (w':World):Prop:=e=.returned (.tuple #[])∧∃bv',zBu w' S bs bv'∧RFr S bv bv' w w'
theorem zBu.put {w w1 wx:World} {S:Nat} {bs bs':List Rt.Blk} {bv bv':Value} {row:Option Nat} (h:zBu w S bs bv) (hb:Below w.heap.size w wx) (hg:wx.grownBy w1 row) (hrow:row=bv.ownBlock)
  (hown:w1.ownsRow (S+1) 212 3 bv' bs'.length (Rt.zBH bs')) (hat:∀g,bv'.ownBlock=some g→bv.ownBlock=some g∨w.heap.size≤g) :
  zBu (w1.setCell ⟨S,0,none⟩ bv') S bs' bv'∧RFr S bv bv' w (w1.setCell ⟨S,0,none⟩ bv'):=by
 subst hrow
 have hlt:=zJ h.block
 have hne:∀k,k≤S→some k≠bv.ownBlock:=fun k hk e=>by have:=(h.own.lt k e.symm).1;omega
 have hkeep:∀k,k < w.heap.size→some k≠bv.ownBlock→w1.heap[k]?=w.heap[k]?:=fun k hk hv=>(hg.block k (Nat.lt_of_lt_of_le hk hb.size) hv).trans (hb.block k hk)
 have hset:∀k,k≠S→(w1.setCell ⟨S,0,none⟩ bv').heap[k]?=w1.heap[k]?:=fun k hk=>Below.heap_setCell w1 ⟨S,0,none⟩ _ k hk
 refine⟨⟨?_,ownsRow_setCell_below hown (by show S < S+1;omega) _⟩,⟨hg.os.trans hb.os,hg.tape.trans hb.tape,hg.output.trans hb.output,?_,fun k hk h1 h2=>(hset k h1).trans (hkeep k hk h2),hat⟩⟩
 ·have:=zO ((hkeep S hlt (hne S (Nat.le_refl _))).trans h.block) 0 bv'
  simpa using this
 ·have:=hg.size
  have:=hb.size
  simp[World.setCell]
  omega
theorem zMV (w:World) (row:Option Nat):w.grownBy w row:=⟨rfl,rfl,rfl,Nat.le_refl _,fun _ _ _=>rfl⟩
theorem nest_far {w w1 wx:World} {S:Nat} {bs:List Rt.Blk} {bv:Value} {row:Option Nat} (h:zBu w S bs bv) (hb:Below w.heap.size w wx) (hg:wx.grownBy w1 row) (hrow:row=bv.ownBlock):w1.cell? ⟨S,0,none⟩=some bv∧w1.frozen? ⟨S,0,none⟩=false:=by
 subst hrow
 have hlt:=zJ h.block
 have hk:w1.heap[S]?=some (.cells #[bv] 181 (0,0)):=by
  rw[hg.block S (Nat.lt_of_lt_of_le hlt hb.size) (fun e=>by have:=(h.own.lt S e.symm).1;omega),hb.block S hlt]
  exact h.block
 exact⟨zC hk 0 (by simp),zI hk 0⟩
theorem zKf (w:World) (a b c:Value) (t:TypeId):∀j u,[a,b,c][j]?=some u→(w.alloc (.cells #[a,b,c] t)).cell? ((⟨w.heap.size,0,none⟩:Addr).add j)=some u:=by
 intro j u hj
 match j,hj with
 | 0,hj=>simp at hj;subst hj;simp[Addr.add]
 | 1,hj=>simp at hj;subst hj;simp[Addr.add]
 | 2,hj=>simp at hj;subst hj;simp[Addr.add]
 | j+3,hj=>simp at hj
theorem blks_set (pre:List Rt.Blk) (b:Rt.Blk):(Rt.zBH (pre++[b])).set (pre.length*3+2) (.bool true)=Rt.zBH (pre++[⟨b.line,b.kind,true⟩]):=by
 have hl:=Rt.zDA pre
 rw[Rt.zBc,Rt.zBc,←hl]
 rw[List.set_append,if_neg (by omega)]
 simp
theorem zQD (w:World) (S:Nat) (bs:List Rt.Blk) (bv:Value) (n:Nat) (kind:Int) (h:zBu w S bs bv) (hlen:bs.length≤1000) (hk:kind=3∨kind=5∨kind=7) :
  Calls Tryz.prog 126 #[.pointer (some ⟨S,0,none⟩),.int .i64 n,.int .i64 kind] w (zLw (bs++[⟨n,kind,false⟩]) S bv w):=by
 obtain⟨i0,hi0,hz0,hz1,hz2⟩:=info_parts Tryz.infoBlk
 have hSlt:=zJ h.block
 have c0:=zC h.block 0 (by simp)
 simp at c0
 have hown:=h.own
 have HH:=zB h
 obtain⟨ad,cap,rfl⟩:=zE h.own
 clear h
 rcases hk with rfl | rfl | rfl
 all_goals
  go_enter Tryz.func126,Tryz.ntmps126
  go_wp2_with (at_builtin;refine wpList_append_lies _ rfl (.tmp 15) (.tmp 19) 179 rfl (S+1) 212 i0 _ 3 24 Tryz.underlying179 hi0 hz0 hz1 hz2 rfl (by decide) _ _ _ rfl (hown.alloc _) ⟨w.heap.size,0,none⟩ 1 1 [.int .i64 n,.int .i64 _,.bool false] rfl rfl (zKf _ _ _ _ _) (by simp[Value.oneCell']) (by omega) (by unfold maxLen;omega) (by omega) (by simp;omega) (w.heap.size+1) (by simp) ?_)
  intro g cap' w1 hown1 hgrow hat hlt1
  obtain⟨hfar,hfz⟩:=nest_far (zA HH) ((Below.refl _ _).alloc (Nat.le_refl _) _) hgrow rfl
  have HF:=zB ((zA HH).put (bs':=bs++[⟨n,_,false⟩]) ((Below.refl _ _).alloc (Nat.le_refl _) _) hgrow rfl (by rw[Rt.zBc,List.length_append];exact hown1) (fun g' hg'=>by simp[Value.ownBlock]at hg';subst hg';rcases hat with h | h;exact Or.inl h;exact Or.inr (by omega)))
  clear hown1 hgrow hat hown
  go_wp2_with fail
  go_end0
  exact⟨rfl,_,zA HF⟩
theorem zQE (w:World) (S:Nat) (pre:List Rt.Blk) (b:Rt.Blk) (bv:Value) (n:Nat) (h:zBu w S (pre++[b]) bv) (hlen:pre.length+1≤1000) :
  Calls Tryz.prog 126 #[.pointer (some ⟨S,0,none⟩),.int .i64 n,.int .i64 6] w (zLw (pre++[⟨b.line,b.kind,true⟩]) S bv w):=by
 have c0:=zC h.block 0 (by simp)
 simp at c0
 obtain⟨g,cap,rfl,hg,d0,d1,d2⟩:=h.last
 have hown:=h.own
 simp only[List.length_append,List.length_cons,List.length_nil,Nat.zero_add]at hown
 have fz:=hown.frozenAt (pre.length*3+2)
 have HF:Hid (zBu ((w.setCell ⟨g,pre.length*3+2,none⟩ (.bool true)).drew) S (pre++[⟨b.line,b.kind,true⟩]) (.slice (some ⟨g,0,none⟩) (pre.length+1) cap)∧RFr S (.slice (some ⟨g,0,none⟩) (pre.length+1) cap) (.slice (some ⟨g,0,none⟩) (pre.length+1) cap) w ((w.setCell ⟨g,pre.length*3+2,none⟩ (.bool true)).drew)):=by
  refine zB ?_
  obtain⟨s1,s2⟩:=hown.stored (pre.length*3+2) (.bool true)
  refine⟨⟨?_,?_⟩,⟨rfl,rfl,rfl,s2.size,fun k hk _ h2=>s2.block k hk (by simpa[Value.ownBlock] using h2),fun _ h=>Or.inl h⟩⟩
  ·show (w.setCell ⟨g,pre.length*3+2,none⟩ (.bool true)).heap[S]?=_
   rw[Below.heap_setCell w ⟨g,pre.length*3+2,none⟩ _ S (by show S≠g;omega)]
   exact h.block
  ·rw[blks_set]at s1
   rw[List.length_append]
   exact World.ownsRow.drew s1
 clear h hown
 generalize pre.length=m at *
 have hm0:(0:Int)≤(m:Int):=by omega
 have hm1:(m:Int) < (m:Int)+1:=by omega
 have hm2:(m:Int)≤1000:=by omega
 have hm3:=zH0 m hlen
 have hm4:=zH1 m hlen
 have hm5:(0:Int) < (m:Int)+1:=by omega
 have hgS:¬g=S:=by omega
 go_enter Tryz.func126,Tryz.ntmps126
 go_wp2_with fail
 go_region_held3 (fun w'=>w'.cell? ⟨S,0,none⟩=some (.slice (some ⟨g,0,none⟩) (m+1) cap)) (first | go_keep | (simp[World.cell?_setCell_other, *];omega)) (fail)
 go_wp2_with fail
 go_end0
 exact⟨rfl,_,zA HF⟩
theorem pass_end (w:World) (S:Nat) (pre:List Rt.Blk) (b:Rt.Blk) (bv:Value) (n:Nat) (h:zBu w S (pre++[b]) bv) (hlen:pre.length+1≤1000) :
  Calls Tryz.prog 126 #[.pointer (some ⟨S,0,none⟩),.int .i64 n,.int .i64 4] w (zLw pre S bv w):=by
 have c0:=zC h.block 0 (by simp)
 have f0:=zI h.block 0
 simp at c0
 obtain⟨g,cap,rfl,hg,d0,d1,d2⟩:=h.last
 have hown:=h.own
 simp only[List.length_append,List.length_cons,List.length_nil,Nat.zero_add]at hown
 have hcap:pre.length+1≤cap:=by
  rcases hown.2 with⟨h',_⟩| ⟨g',cap',cur,h',_,_,hn,_⟩
  ·cases h'
  ·simp at h';omega
 have hpop:w.ownsRow (S+1) 212 3 (.slice (some ⟨g,0,none⟩) pre.length cap) pre.length (Rt.zBH pre):=by
  rw[Rt.zBc]at hown
  exact ownsRow_pop (Rt.zDA pre) hown
 have HF:=zB (h.put (bs':=pre) (below_drewN w 1) (zMV _ _) rfl hpop (fun g' hg'=>Or.inl hg'))
 clear h hown hpop d0 d1 d2
 generalize pre.length=m at *
 have hm0:(0:Int)≤(m:Int):=by omega
 have hm1:(m:Int) < (m:Int)+1:=by omega
 have hm2:(m:Int)≤1000:=by omega
 have hm3:=zH0 m hlen
 have hm4:=zH1 m hlen
 have hm5:(0:Int) < (m:Int)+1:=by omega
 have hm6:(m:Int)≤(cap:Int):=by omega
 go_enter Tryz.func126,Tryz.ntmps126
 go_wp2_with fail
 go_region_law (fail)
 all_goals
  go_wp2_with fail
  go_end0
  exact⟨rfl,_,zA HF⟩
theorem zLL (w:World) (S:Nat) (bv:Value) (n:Nat) (kind:Int) (h:zBu w S [] bv) (hk:kind=4∨kind=6) :
  Calls Tryz.prog 126 #[.pointer (some ⟨S,0,none⟩),.int .i64 n,.int .i64 kind] w (zLw [] S bv w):=by
 have c0:=zC h.block 0 (by simp)
 simp at c0
 have HH:=zB h
 obtain⟨ad,cap,rfl⟩:=zE h.own
 simp only[List.length_nil]at c0
 clear h
 rcases hk with rfl | rfl
 all_goals
  go_enter Tryz.func126,Tryz.ntmps126
  go_wp2_with fail
  go_end0
  exact⟨rfl,_,zA HH,RFr.refl _ _ _⟩
theorem zOO (w:World) (S:Nat) (bs:List Rt.Blk) (bv:Value) (n:Nat) (kind:Int) (h:zBu w S bs bv) (h3:¬kind=3) (h5:¬kind=5) (h7:¬kind=7) (h6:¬kind=6) (h4:¬kind=4) :
  Calls Tryz.prog 126 #[.pointer (some ⟨S,0,none⟩),.int .i64 n,.int .i64 kind] w (zLw bs S bv w):=by
 have HH:=zB h
 clear h
 have k3:(kind==3)=false:=by simpa using h3
 have k5:(kind==5)=false:=by simpa using h5
 have k7:(kind==7)=false:=by simpa using h7
 have k6:(kind==6)=false:=by simpa using h6
 have k4:(kind==4)=false:=by simpa using h4
 clear h3 h5 h7 h6 h4
 go_enter Tryz.func126,Tryz.ntmps126
 go_wp2_with fail
 go_end0
 exact⟨rfl,_,zA HH,RFr.refl _ _ _⟩
theorem pass_any (w:World) (S:Nat) (bs:List Rt.Blk) (bv:Value) (n:Nat) (kind:Int) (h:zBu w S bs bv) (hlen:bs.length≤1000) :
  Calls Tryz.prog 126 #[.pointer (some ⟨S,0,none⟩),.int .i64 n,.int .i64 kind] w (zLw (Rt.zAS bs n kind) S bv w):=by
 by_cases ho:kind=3∨kind=5∨kind=7
 ·rw[Rt.zAS,if_pos ho]
  exact zQD w S bs bv n kind h hlen ho
 by_cases h6:kind=6
 ·subst h6
  rcases zJO bs with rfl | ⟨pre,b,rfl⟩
  ·exact zLL w S bv n 6 h (Or.inr rfl)
  ·have e:Rt.zAS (pre++[b]) n 6=pre++[⟨b.line,b.kind,true⟩]:=by simp[Rt.zAS,zFk]
   rw[e]
   exact zQE w S pre b bv n h (by simpa using hlen)
 by_cases h4:kind=4
 ·subst h4
  rcases zJO bs with rfl | ⟨pre,b,rfl⟩
  ·exact zLL w S bv n 4 h (Or.inl rfl)
  ·have e:Rt.zAS (pre++[b]) n 4=pre:=by simp[Rt.zAS]
   rw[e]
   exact pass_end w S pre b bv n h (by simpa using hlen)
 ·have e:Rt.zAS bs n kind=bs:=by simp[Rt.zAS,ho,h6,h4]
  rw[e]
  exact zOO w S bs bv n kind h (fun x=>ho (Or.inl x)) (fun x=>ho (Or.inr (Or.inl x))) (fun x=>ho (Or.inr (Or.inr x))) h6 h4
end Go.Proofs.YthleadfkfnnadaaGreat
