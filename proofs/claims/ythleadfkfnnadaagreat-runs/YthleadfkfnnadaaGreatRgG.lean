/- The document's answer: the step of a call. -/
import Derived.Test.YthleadfkfnnadaaGreatRefZ
import Derived.Test.YthleadfkfnnadaaGreatRgA
set_option maxHeartbeats 4000000
set_option maxRecDepth 100000
namespace Go.Proofs.YthleadfkfnnadaaGreat
open Go.RowKit
def argsL:List (Int×Int)→List Int→List Int×Int
 | [],acc=>(acc,0)
 | r::rs,acc=>if r.2=0 then argsL rs (acc++[r.1])else (acc,r.2)
theorem zPF (rs:List (Int×Int)) (k:Nat) (hk:k < rs.length) (acc:List Int):argsL (rs.drop k) acc=if rs[k].2=0 then argsL (rs.drop (k+1)) (acc++[rs[k].1])else (acc,rs[k].2):=by
 rw[List.drop_eq_getElem_cons hk,argsL]
theorem cutP {Goal:Prop} {Z:Nat→Nat→World→Prop} {R:Code} {post:Exit→Act→World→Prop} {fr:Nat→Nat→Act} (main:(∀g c wy,Z g c wy→Code.wp Tryz.prog R post (fr g c) wy)→Goal) (pf:∀g c wy,Z g c wy→Code.wp Tryz.prog R post (fr g c) wy):Goal:=main pf
theorem zNw {w0 w1 wr w4:World} {S g cap P F D:Nat} {ls:List (List ByteArray)} {p:Rf.Pl} {X:PlX} {xad:Option Addr} {xcap g' cap':Nat} {av:Value} {acc:List Int} {o:Obj} {cF:Array Value} {tF:TypeId} (h:InS w0 w1 S g cap ls P p X) (hb:Below w1.heap.size w1 wr) (hfv:X.fv=.slice xad p.zD.length xcap) (hn:wr.ownsRow w1.heap.size 3 1 av acc.length (zz acc))
  (hg:(wr.alloc o).drew.grownBy w4 (Value.slice xad p.zD.length xcap).ownBlock) (hown:w4.ownsRow 0 130 3 (.slice (some ⟨g',0,none⟩) (p.zD.length+1) cap') (p.zD.length+1) (frCells X.fps p.zD++[.int .i64 ((D:Int)+1),av,.int .i64 p.line])) (hat:(Value.slice xad p.zD.length xcap).ownBlock=some g'∨g'=wr.heap.size+1)
  (bF:wr.heap[F]?=some (.cells cF tF (0,0))) (hF:w1.heap.size≤F) :
  InS w0 (w4.setCell ⟨P,0,none⟩ (.slice (some ⟨g',0,none⟩) (p.zD.length+1) cap')) S g cap ls P { p with zD:=p.zD++[⟨D+1,acc,p.line⟩] } { X with fv:=.slice (some ⟨g',0,none⟩) (p.zD.length+1) cap',fps:=X.fps++[av] }∧(w4.setCell ⟨P,0,none⟩ (.slice (some ⟨g',0,none⟩) (p.zD.length+1) cap')).heap[F]?=some (.cells cF tF (0,0)):=by
 have hby:Below wr.heap.size wr (wr.alloc o).drew:=((Below.refl _ wr).alloc (Nat.le_refl _) o).drew
 rw[←hfv]at hg hat
 have hpush:=h.pl.zIB h.bel.size hb hby av ⟨D+1,acc,p.line⟩ hn hg (.slice (some ⟨g',0,none⟩) (p.zD.length+1) cap') hown (fun k hk=>by simp[Value.ownBlock]at hk;subst hk;rcases hat with e | e;exact Or.inl e;exact Or.inr (by omega))
 have hPlt:=zJ h.pl.block
 have hFlt:=zJ bF
 refine⟨h.to hpush,?_⟩
 rw[Below.heap_setCell w4 ⟨P,0,none⟩ _ F (by show ¬F=P;omega),hg.block F (Nat.lt_of_lt_of_le hFlt hby.size) (fun e=>by have:=(h.pl.zDV.lt F e.symm).2;omega)]
 exact(hby.block F hFlt).trans bF
theorem zNv (w0 w:World) (S g cap P D:Nat) (ls:List (List ByteArray)) (p:Rf.Pl) (X:PlX) (v:Value) (t:List ByteArray) (rs:List (Int×Int)) (h:InS w0 w S g cap ls P p X) (hV:zu w0 v t) (hf:Few t) (hL:Lawful ls) (hok:Rf.zEb ls p) (hnest:Rf.nested ls=0) (hl2:2≤t.length) (hdl:D < ls.length) (hd:Rf.decl ls t[1]=D+1) (hpn:p.zD.length≤6)
    (hrl:rs.length=(Rf.parts (t.drop 2)).length) (hrs:∀j (h1:j < rs.length) (h2:j < (Rf.parts (t.drop 2)).length),zCe ls p rs[j] (Rf.parts (t.drop 2))[j]) (hpl:(Rf.parts (t.drop 2)).length≤1000)
    (te:Int) (p':Rf.Pl) (hte:te=if (argsL rs []).2=0 then (if 6≤p.zD.length then 5 else 0)else (argsL rs []).2) (hp':p'=if (argsL rs []).2=0 then (if 6≤p.zD.length then p else { p with zD:=p.zD++[⟨D+1,(argsL rs []).1,p.line⟩],line:=(Rf.zAp ls (D+1):Nat) })else p) :
    Calls Tryz.prog 97 #[.pointer (some ⟨S,0,none⟩),.pointer (some ⟨P,0,none⟩),v] w fun e w'=>e=.returned (.int .i64 te)∧∃X',InS w0 w' S g cap ls P p' X':=by
  obtain⟨i0,hi0,hz0,hz1,hz2⟩:=info_parts Tryz.zCv
  obtain⟨j0,hj0,hy0,hy1,hy2⟩:=info_parts Tryz.zGx
  have HI:=zB h
  have hlen:=hL.len
  have HLL:=zB hL
  have HF:=zB hf
  have HOK:=zB hok
  have HE:=zB (And.intro hte hp')
  have HRS:=zB hrs
  have HRL:=zB hrl
  have HG:=zB (zEm ls D hdl hlen hnest S g cap)
  have HD:=zB hd
  have hV':=hV.zH h.bel
  obtain⟨ad,cp,rfl,hcap⟩:=hV.form
  obtain⟨tb,to,rfl⟩:=hV.zAM (by intro h;rw[h]at hl2;simp at hl2)
  have hl:=hf.1
  have hl1:1 < t.length:=by omega
  have HTok:=zB (show ∀w',Below w0.heap.size w0 w'→w'.cell? ⟨tb,to+1,none⟩=some (.string t[1])from fun w' hb=>zB1 (hV.zH hb) hl1)
  have HV:=zB hV'
  have hl1':(1:Int) < (t.length:Int):=by omega
  have hl2':(2:Int)≤(t.length:Int):=by omega
  clear h hV hL hok hp' hte hV' hnest hrs hrl hd hf
  generalize t[1]=x1 at *
  go_enter Tryz.func97,Tryz.ntmps97
  go_wp2_with fail
  all_goals
    refine(zIE _ _ (t.drop 2) (by first | exact zu.gone (by omega) rfl | exact(zA HV).drop 2 _ _ rfl (by omega)) ((zA HF).drop 2)).mono ?_
    rintro e w1 ⟨hb1,lv,lvs,rfl,hown1,hparts1⟩
    have HI1:=zB (And.intro ((zA HI).zH hb1) (And.intro hown1 hparts1))
    obtain⟨lad,lcap,rfl⟩:=zE hown1
    have ct:=zA HTok _ (zA HI1).1.bel
    have c5:w1.cell? ⟨P,5,none⟩=some (.int .i64 p.line):=zC (zA HI1).1.pl.block 5 (by simp[plA])
    clear hb1 hown1 hparts1
    go_wp2_with fail
    have HSR:=zB (show ∀w',Below w1.heap.size w1 w'→zAg w' S g cap ls from fun w' hb=>(zA HI1).1.zDR.zH hb)
    have HCL:=zB (show ∀w',Below w1.heap.size w1 w'→w'.cell? ⟨tb,to+1,none⟩=some (.string x1)∧w'.cell? ⟨P,5,none⟩=some (.int .i64 p.line)from fun w' hb=>⟨cell_later hb ct,cell_later hb c5⟩)
    have hn1:=World.new_ne _ _ ct
    have hn2:=World.new_ne _ _ c5
    go_region_held3 (fun w'=>w'.cell? ⟨tb,to+1,none⟩=some (.string x1)∧w'.cell? ⟨P,5,none⟩=some (.int .i64 p.line)) (first | exact⟨by go_keep,by go_keep⟩| exact zA HCL _ hbx2 | exact⟨by simp[World.cell?_alloc_some,(zA HCL _ hbx2).1],by simp[World.cell?_alloc_some,(zA HCL _ hbx2).2]⟩| exact⟨(World.cell?_setCell_far _ _ _ _ (by simp;omega)).trans (by simp[World.cell?_alloc_some,(zA HCL _ hbx2).1]),(World.cell?_setCell_far _ _ _ _ (by simp;omega)).trans (by simp[World.cell?_alloc_some,(zA HCL _ hbx2).2])⟩) ((go_at_call 84;refine(zAb _ S g cap ls x1 (zA HSR _ (by first | exact Below.refl _ _ | exact zS _ | exact(Below.refl _ _).alloc (Nat.le_refl _) _ | exact((Below.refl _ _).alloc (Nat.le_refl _) _).drew | exact(zS _).alloc (by simp) _)) (zA HLL)).mono ?_;rintro e w2 ⟨rfl,hb2⟩;have hbx2:Below w1.heap.size w1 w2:=(by first | exact hb2 | exact zm hb2 | exact((Below.refl _ _).alloc (Nat.le_refl _) _).drew.trans (hb2.mono (by simp))| exact((Below.refl _ _).alloc (Nat.le_refl _) _).trans (hb2.mono (by simp)));have hn3:=World.new_ne _ _ (zA HCL _ hbx2).1;have hn4:=World.new_ne _ _ (zA HCL _ hbx2).2;first | (have hF2:w2.heap[w1.heap.size]?=some (.cells #[.int .i64 0,.slice none 0 0,.int .i64 0] 130 (0,0)):=zK (by exact heap_alloc_new w1 _) hb2;obtain⟨k0,k1,k2⟩:=zY hF2;have kz:=zI hF2)| skip;rw[zA HD]))
    all_goals
      first
      | (obtain⟨F,hFe⟩:∃F,F=w2.heap.size:=⟨_,rfl⟩
         have hF3:=heap_alloc_new w2 (.cells #[.int .i64 ((D:Int)+1),.slice none 0 0,.int .i64 p.line] 130)
         have hb3:=hbx2.alloc hbx2.size (.cells #[.int .i64 ((D:Int)+1),.slice none 0 0,.int .i64 p.line] 130)
         have hle:w1.heap.size≤F:=by rw[hFe];exact hbx2.size
         rw[←hFe]at hF3 ⊢
         have HX3:=zB (And.intro hF3 (And.intro hb3 hle))
         clear hF3 hb3 hle hFe
         generalize w2.alloc (.cells #[.int .i64 ((D:Int)+1),.slice none 0 0,.int .i64 p.line] 130)=w3 at *)
      | (rw[zA HD,show ((D+1:Nat):Int)=(D:Int)+1 by omega]
         obtain⟨F,hFe⟩:∃F,F=w1.heap.size:=⟨_,rfl⟩
         have hF3:(((w2.setCell ⟨w1.heap.size,0,none⟩ (.int .i64 ((D:Int)+1))).setCell ⟨w1.heap.size,1,none⟩ (.slice none 0 0)).setCell ⟨w1.heap.size,2,none⟩ (.int .i64 p.line)).heap[w1.heap.size]?=some (.cells #[.int .i64 ((D:Int)+1),.slice none 0 0,.int .i64 p.line] 130 (0,0)):=zO (zO (zO hF2 0 (.int .i64 ((D:Int)+1))) 1 (.slice none 0 0)) 2 (.int .i64 p.line)
         have hb3:=zt (zt (zt hbx2 (Nat.le_refl _) 0 (.int .i64 ((D:Int)+1))) (Nat.le_refl _) 1 (.slice none 0 0)) (Nat.le_refl _) 2 (.int .i64 p.line)
         have hle:w1.heap.size≤F:=by rw[hFe];exact Nat.le_refl _
         generalize ((w2.setCell ⟨w1.heap.size,0,none⟩ (.int .i64 ((D:Int)+1))).setCell ⟨w1.heap.size,1,none⟩ (.slice none 0 0)).setCell ⟨w1.heap.size,2,none⟩ (.int .i64 p.line)=w3 at *
         rw[←hFe]at hF3 ⊢
         have HX3:=zB (And.intro hF3 (And.intro hb3 hle))
         clear hF3 hb3 hle hFe hF2 k0 k1 k2 kz)
    all_goals
      clear hbx2 hb2 hn1 hn2 hn3 hn4 ct c5 HSR HCL
      have hszF:=zJ (zA HX3).1
      go_wp2_with fail
      go_loopw [9,10,11] (fun i _ _ wr=>∃(k:Nat) (acc:List Int) (av:Value),k≤(Rf.parts (t.drop 2)).length∧i=.int .i64 k∧acc.length=k∧argsL (rs.drop k) acc=argsL rs []∧wr.heap[F]?=some (.cells #[.int .i64 ((D:Int)+1),av,.int .i64 p.line] 130 (0,0))∧wr.ownsRow w1.heap.size 3 1 av acc.length (zz acc)∧Below w1.heap.size w1 wr)
        (fun i _ _ _=>(Rf.parts (t.drop 2)).length-(intOf i).toNat)
      case atStart=>exact⟨0,[],_,Nat.zero_le _,rfl,rfl,rfl,(zA HX3).1,World.ownsRow_nil _ _ _ _,(zA HX3).2.1⟩
      case round=>
        obtain⟨k,acc,av,hk,rfl,hacc,hT,hF,hav,hbe⟩:=hrel
        subst hacc
        obtain⟨aad,acap,hav2⟩:=zE hav
        subst hav2
        obtain⟨k0,k1,k2⟩:=zY hF
        have kz:=zI hF
        have hle:=(zA HX3).2.2
        by_cases hlt:acc.length < (Rf.parts (t.drop 2)).length
        · have hlt':(acc.length:Int) < ((Rf.parts (t.drop 2)).length:Int):=by omega
          have hk0:(0:Int)≤(acc.length:Int):=by omega
          have hkr:acc.length < rs.length:=by rw[zA HRL];exact hlt
          obtain⟨uv,hu1,hu2⟩:=((zA HI1).2.2.zH hbe).2 acc.length hlt
          obtain⟨lg,lcap',hlv,_,_,cu⟩:=zW (zZ (zA HI1).2.1 hbe) hu1
          injection hlv with e1 _ e2
          subst e1 e2
          obtain⟨uad,ucap,hue,_⟩:=hu2.form
          have hAN:=zPF rs acc.length hkr acc
          rw[hT]at hAN
          have HT:=zB hAN
          have HWk:=zB (zA HRS acc.length hkr hlt)
          have HU:=zB hu2
          have HX:=zB (And.intro hF (And.intro hav hbe))
          generalize rs[acc.length]=y at *
          rw[hue]at cu HU
          clear hAN hT hF hav hbe hu1 hu2 hue
          go_wp2_with fail
          refine(zA HWk _ S g cap P _ (((zA HI1).1.zH (zA HX).2.2).zDR) (((zA HI1).1.zH (zA HX).2.2).read (zA HOK)) (zA HU)).mono ?_
          rintro e w4 ⟨rfl,hb4⟩
          obtain⟨hF,hav,hbe⟩:=zA HX
          have hav4:=zZ hav hb4
          have hF4:=zK hF hb4
          have hbe4:=hbe.trans (hb4.mono (B':=w1.heap.size) hbe.size)
          obtain⟨m0,m1,m2⟩:=zY hF4
          have mz:=zI hF4
          have hF4lt:=zJ hF4
          have hs4:=hbe4.size
          have HX4:=zB (And.intro hF4 (And.intro hav4 hbe4))
          clear hF hav hbe hb4 HX HWk HU cu k0 k1 k2 kz hF4 hbe4
          obtain⟨v1,v2⟩:=y
          by_cases hv:v2=0
          · subst hv
            have HT2:=zB ((zA HT).trans (if_pos (by first | rfl | trivial)))
            clear HT
            go_wp2_with (at_builtin;refine wpList_append_lies _ rfl _ _ 24 rfl w1.heap.size 3 i0 _ 1 8 Tryz.underlying24 hi0 hz0 hz1 hz2 rfl (by decide) _ _ _ rfl (hav4.alloc _) ⟨w4.heap.size,0,none⟩ 1 1 [.int .i64 v1] rfl rfl (cell_one_new _ _ _) (by simp[Value.oneCell']) (by omega) (by unfold maxLen;omega) (by omega) (by simp;omega) (w4.heap.size+1) (by simp) ?_)
            intro g' cap' w5 hown5 hgrow hat hlt5
            obtain⟨hF4,_,hbe4⟩:=zA HX4
            have hne:some F≠(Value.slice aad acc.length acap).ownBlock:=fun e=>by
              obtain⟨c',hc'⟩:=zAj hav4 e.symm
              rw[hF4]at hc'
              injection hc' with hc'
              injection hc' with _ hc'
              exact absurd hc' (by decide)
            have hF5:=(hgrow.block F (by simp;omega) hne).trans ((heap_alloc_old w4 _ hF4lt).trans hF4)
            have hbx:Below w1.heap.size w4 w5:=Below.grown ((Below.refl w1.heap.size w4).alloc (by omega) _) hgrow (by simp;omega) (fun q hq=>(hav4.lt q hq).1)
            have hFne:∀q,(Value.slice (some ⟨g',0,none⟩) (acc.length+1) cap').ownBlock=some q→q≠F:=fun q hq e=>by
              obtain⟨c',hc'⟩:=zAj hown5 hq
              rw[e,hF5]at hc'
              injection hc' with hc'
              injection hc' with _ hc'
              exact absurd hc' (by decide)
            have hrow:=zAZ hown5 (w':=w5.setCell ⟨F,1,none⟩ (.slice (some ⟨g',0,none⟩) (acc.length+1) cap')) (fun q hq=>Below.heap_setCell w5 ⟨F,1,none⟩ _ q (hFne q hq))
            have hset:=zO hF5 1 (.slice (some ⟨g',0,none⟩) (acc.length+1) cap')
            obtain⟨n0,n1,n2⟩:=zY hF5
            have nz:=zI hF5
            have HF5:=zB (And.intro hrow (And.intro hset (zt (hbe4.trans hbx) hle 1 (.slice (some ⟨g',0,none⟩) (acc.length+1) cap'))))
            clear hrow hset hFne hbx hF5 hne hF4 hbe4 hown5 hgrow hat hlt5 hav4 m0 m1 m2 mz
            go_wp2_with fail
            go_roundw
            case rel=>
              obtain⟨q1,q2,q3⟩:=zA HF5
              exact⟨acc.length+1,acc++[v1],_,by omega,by go_num,by simp,(zA HT2).symm,q2,by rw[List.length_append,zz,List.map_append];exact q1,q3⟩
            case measure=>simp[intOf];omega
          · have hv':(v2 != 0)=true:=by simpa using hv
            have HT2:=zB ((zA HT).trans (if_neg hv))
            have HE2:=zB (And.intro ((zA HE).1.trans (if_neg (by rw[zA HT2];exact hv))) ((zA HE).2.trans (if_neg (by rw[zA HT2];exact hv))))
            clear HT hav4 m0 m1 m2 mz
            go_wp2_with fail
            go_ret
            exact⟨by rw[(zA HE2).1,zA HT2];rfl,X,by rw[(zA HE2).2];exact(zA HI1).1.zH (zA HX4).2.2⟩
        · have hlt':¬(acc.length:Int) < ((Rf.parts (t.drop 2)).length:Int):=by omega
          have hT2:argsL rs []=(acc,0):=by rw[←hT,List.drop_eq_nil_of_le (by rw[zA HRL];omega)];rfl
          have HT2:=zB hT2
          have hIr:=(zA HI1).1.zH hbe
          obtain⟨xad,xcap,hxf⟩:=zE hIr.pl.zDV
          have c0:wr.cell? ⟨P,0,none⟩=some X.fv:=zC hIr.pl.block 0 (by simp[plA])
          rw[hxf]at c0
          have HE2:=zB (And.intro ((zA HE).1.trans (if_pos (by rw[hT2]))) ((zA HE).2.trans (if_pos (by rw[hT2]))))
          have hfr:=hIr.pl.zDV
          rw[hxf]at hfr
          have hPlt:=zJ hIr.pl.block
          have HX:=zB (And.intro hF (And.intro hav (And.intro hbe (And.intro hIr hxf))))
          clear hT hT2 hF hav hbe hIr hxf
          by_cases h6:6≤p.zD.length
          · have h6':((p.zD.length:Int)==6)=true:=by rw[beq_iff_eq];omega
            have HE3:=zB (And.intro ((zA HE2).1.trans (if_pos h6)) ((zA HE2).2.trans (if_pos h6)))
            clear HE2 hfr
            go_wp2_with fail
            go_ret
            exact⟨by rw[(zA HE3).1];rfl,X,by rw[(zA HE3).2];exact(zA HX).2.2.2.1⟩
          · have h6':((p.zD.length:Int)==6)=false:=by rw[beq_eq_false_iff_ne];omega
            have HE3:=zB (And.intro ((zA HE2).1.trans (if_neg h6)) ((zA HE2).2.trans (if_neg h6)))
            clear HE2
            have HFR:=zB hfr
            have HNE:=zB (show some P≠(Value.slice xad p.zD.length xcap).ownBlock from fun e=>by
              have hIr:=(zA HX).2.2.2.1
              rw[←(zA HX).2.2.2.2]at e
              exact hIr.pl.apart (zAf (r:=zBI X.fv X.fps p.zD) (by simp[zb]) e.symm) rfl)
            have HBM:=zB (zA HX).2.2.2.1.pl.block
            clear hfr
            go_wp2_with fail
            apply cutP (Z:=fun g' c' wy=>InS w0 wy S g cap ls P { p with zD:=p.zD++[⟨D+1,acc,p.line⟩] } { X with fv:=.slice (some ⟨g',0,none⟩) (p.zD.length+1) c',fps:=X.fps++[.slice aad acc.length acap] }∧wy.heap[F]?=some (.cells #[.int .i64 ((D:Int)+1),.slice aad acc.length acap,.int .i64 p.line] 130 (0,0)))
            · intro HT0
              have HT':=zB HT0
              clear HT0
              go_region_law
                ((refine step_append_lies _ (by rfl) _ _ _ (by rfl) 0 130 j0 _ 3 40 Tryz.underlying70 hj0 hy0 hy1 hy2 rfl (by omega) _ p.zD.length (frCells X.fps p.zD) (by rfl) (((zA HFR).alloc _).drew)
                        ⟨wr.heap.size,0,none⟩ 1 1 [.int .i64 ((D:Int)+1),.slice aad acc.length acap,.int .i64 p.line] (by rfl) (by rfl)
                        (World.news_of_block (cs:=#[.int .i64 ((D:Int)+1),.slice aad acc.length acap,.int .i64 p.line]) (t:=130) (fr:=(0,0)) (heap_alloc_new wr _)) (by simp[Value.oneCell'])
                        (by omega) (by unfold maxLen;omega) (by omega) (Nat.zero_le _) (wr.heap.size+1) (by simp) ?_;intro g' cap' w4 hown4 hgrow hat hlt4;have bM:=(hgrow.block P (by simp;omega) (zA HNE)).trans (zV (zA HBM) _);have d0:w4.cell? ⟨P,0,none⟩=some X.fv:=(zC bM 0 (by simp[plA]));rw[(zA HX).2.2.2.2]at d0;have e0:=zI bM 0))
              all_goals
                rename_i hKK
                refine hKK _ _ ?_
                have hwy:=zNw (D:=D) (zA HI1).1 (zA HX).2.2.1 (zA HX).2.2.2.2 (zA HX).2.1 hgrow hown4 hat (zA HX).1 hle
                revert hwy
                generalize w4.setCell ⟨P,0,none⟩ (.slice (some ⟨g',0,none⟩) (p.zD.length+1) cap')=wy
                intro hwy
                exact zA HT' _ _ _ hwy
            · intro g' c' wy hR
              obtain⟨hIy,hFy⟩:=hR
              obtain⟨y0,y1,y2⟩:=zY hFy
              have HIy:=zB hIy
              have hDw:IntKind.i64.wrap ((D:Int)+1+1)=(D:Int)+1+1:=IntWalk.i64_in _ ⟨by omega,by omega⟩
              clear hIy hFy
              go_wp2_with fail
              refine(zA HG _ (zA HIy).zDR).mono ?_
              rintro e w6 ⟨rfl,hb6⟩
              have hI6:=(zA HIy).zH hb6
              have hq6:=hI6.pl.block
              have d5:w6.cell? ⟨P,5,none⟩=some (.int .i64 p.line):=zC hq6 5 (by simp[plA])
              have z6:=zI hq6
              have HFin:=zB (hI6.to (hI6.pl.zEL (Rf.zAp ls (D+1):Nat)))
              clear hI6 hq6 hb6
              go_wp2_with fail
              go_ret
              exact⟨by rw[(zA HE3).1];rfl,_,by rw[(zA HE3).2,zA HT2];exact zA HFin⟩
end Go.Proofs.YthleadfkfnnadaaGreat
