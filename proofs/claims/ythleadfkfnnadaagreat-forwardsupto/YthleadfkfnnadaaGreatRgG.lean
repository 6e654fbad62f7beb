/- The document's answer: the step of a call. -/
import Derived.Test.YthleadfkfnnadaaGreatRgF
import Derived.Test.YthleadfkfnnadaaGreatRgA
set_option maxHeartbeats 4000000
set_option maxRecDepth 100000
set_option linter.unusedSimpArgs false
namespace Go.Proofs.YthleadfkfnnadaaGreat
open Go.RowKit
variable {ls:List (List ByteArray)} {S g cap P:Nat} {X:Qg} {p:Rf.Pl} {w0:World}
def argsL:List (Int×Int)->List Int->List Int×Int
 | [],acc=>(acc,0)
 | r::rs,acc=>if r.2=0 then argsL rs (acc++[r.1])else (acc,r.2)
theorem tp (rs:List (Int×Int)) (k:Nat) (d:k < rs.length) (acc:List Int):argsL (rs.drop k) acc=if rs[k].2=0 then argsL (rs.drop (k+1)) (acc++[rs[k].1])else (acc,rs[k].2):=by
 rw[zZ d,argsL]
theorem cutP {Goal:Prop} {Z:Nat->Nat->World->Prop} {R:Code} {post:Exit->Act->World->Prop} {fr:Nat->Nat->Act} (d:(∀g c wy,Z g c wy->Code.wp Tryz.prog R post (fr g c) wy)->Goal) (f:∀g c wy,Z g c wy->Code.wp Tryz.prog R post (fr g c) wy):Goal:=d f
theorem rG {w1 wr w4:World} {F D:Nat} {xad:Option Addr} {xcap g' cap':Nat} {av:Value} {acc:List Int} {o:Obj} {cF:Array Value} {tF:TypeId} (h:JW w0 w1 S g cap ls P p X) (H:Below w1.heap.size w1 wr) (y:X.fv=.slice xad p.zH.length xcap) (G:wr.ownsRow w1.heap.size 3 1 av acc.length (xR acc))
  (x:(wr.alloc o).drew.grownBy w4 (Value.slice xad p.zH.length xcap).ownBlock) (j:w4.ownsRow 0 130 3 (.slice (some ⟨g',0,none⟩) (p.zH.length+1) cap') (p.zH.length+1) (frCells X.xg p.zH++[.int .i64 ((D:Int)+1),av,.int .i64 p.line])) (hat:(Value.slice xad p.zH.length xcap).ownBlock=some g'\/g'=wr.heap.size+1)
  (A:wr.heap[F]?=some (.cells cF tF (0,0))) (I:w1.heap.size<=F) :
  JW w0 (w4.setCell ⟨P,0,none⟩ (.slice (some ⟨g',0,none⟩) (p.zH.length+1) cap')) S g cap ls P { p with zH:=p.zH++[⟨D+1,acc,p.line⟩] } { X with fv:=.slice (some ⟨g',0,none⟩) (p.zH.length+1) cap',xg:=X.xg++[av] }/\(w4.setCell ⟨P,0,none⟩ (.slice (some ⟨g',0,none⟩) (p.zH.length+1) cap')).heap[F]?=some (.cells cF tF (0,0)):=by
 have i:Below wr.heap.size wr (wr.alloc o).drew:=((zI _ wr).alloc (zB _) o).drew
 rw[<-y]at x hat
 have f:=h.pl.cU h.iB.size H i av ⟨D+1,acc,p.line⟩ G x (.slice (some ⟨g',0,none⟩) (p.zH.length+1) cap') j (fun k hk=>by simp[Value.ownBlock]at hk;subst hk;rcases hat with e | e;exact Or.inl e;exact Or.inr (by omega))
 have z:=zQ h.pl.block
 have d:=zQ A
 refine⟨h.to f,?_⟩
 rw[zO w4 ⟨P,0,none⟩ _ F (by show ¬F=P;omega),x.block F (zX d i.size) (fun e=>by have:=(h.pl.Jq.lt F e.symm).2;omega)]
 exact(i.block F d).trans A
theorem rF {w:World} (D:Nat) {v:Value} {t:List ByteArray} (rs:List (Int×Int)) (h:JW w0 w S g cap ls P p X) (hV:xA w0 v t) (hf:Y8 t) (hL:Lawful ls) (f1:Rf.V9 ls p) (a2:Rf.nested ls=0) (f6:2<=t.length) (j5:D < ls.length) (hd:Rf.decl ls t[1]=D+1) (m6:p.zH.length<=6)
    (d9:rs.length=(Rf.parts (t.drop 2)).length) (d8:∀j (h1:j < rs.length) (h2:j < (Rf.parts (t.drop 2)).length),Z5 ls p rs[j] (Rf.parts (t.drop 2))[j]) (m7:(Rf.parts (t.drop 2)).length<=1000)
    (te:Int) (p':Rf.Pl) (d7:te=if (argsL rs []).2=0 then (if 6<=p.zH.length then 5 else 0)else (argsL rs []).2) (f0:p'=if (argsL rs []).2=0 then (if 6<=p.zH.length then p else { p with zH:=p.zH++[⟨D+1,(argsL rs []).1,p.line⟩],line:=(Rf.jc ls (D+1):Nat) })else p) :
    Calls Tryz.prog 97 #[.pointer (some ⟨S,0,none⟩),.pointer (some ⟨P,0,none⟩),v] w fun e w'=>e=.returned (.int .i64 te)/\∃X',JW w0 w' S g cap ls P p' X':=by
  obtain⟨i0,j4,i2,i1,h9⟩:=yi Tryz.XL
  obtain⟨j0,j3,i5,i4,i3⟩:=yi Tryz.Vz
  have HI:=zD h
  have f5:=hL.len
  have k4:=zD hL
  have HF:=zD hf
  have j9:=zD f1
  have HE:=qG d7 f0
  have j8:=zD d8
  have h3:=zD d9
  have HG:=zD (JM ls D j5 f5 a2 S g cap)
  have HD:=zD hd
  have g3:=hV.zP h.iB
  obtain⟨ad,cp,rfl,l6⟩:=hV.form
  obtain⟨tb,d,rfl⟩:=hV.qZ (by intro h;rw[h]at f6;simp at f6)
  have hl:=hf.1
  have j2:1 < t.length:=by omega
  have g8:=zD (show ∀w',Below w0.heap.size w0 w'->w'.cell? ⟨tb,d+1,none⟩=some (.string t[1])from fun w' hb=>Xm (hV.zP hb) j2)
  have HV:=zD g3
  have l5:(1:Int) < (t.length:Int):=by omega
  have l4:(2:Int)<=(t.length:Int):=by omega
  clear h hV hL f1 f0 d7 g3 a2 d8 d9 hd hf
  generalize t[1]=x1 at *
  go_enter Tryz.func97,Tryz.ntmps97
  go_wp2_with fail
  all_goals
    refine(cY (by first | exact xA.gone (by omega) rfl | exact HV.u.drop 2 _ _ rfl (by omega)) (HF.u.drop 2)).mono ?_
    rintro e w1 ⟨g0,lv,l9,rfl,U,J⟩
    have z:=XX (HI.u.zP g0) U J
    obtain⟨m3,l1,rfl⟩:=zK U
    have ct:=g8.u _ z.u.1.iB
    have c5:w1.cell? ⟨P,5,none⟩=some (.int .i64 p.line):=zC z.u.1.pl.block 5 (by simp[jh])
    clear g0 U J
    go_wp2_with fail
    have h0:=zD (show ∀w',Below w1.heap.size w1 w'->jA w' S g cap ls from fun w' hb=>z.u.1.JZ.zP hb)
    have R:=zD (show ∀w',Below w1.heap.size w1 w'->w'.cell? ⟨tb,d+1,none⟩=some (.string x1)/\w'.cell? ⟨P,5,none⟩=some (.int .i64 p.line)from fun w' hb=>⟨cell_later hb ct,cell_later hb c5⟩)
    have i9:=World.new_ne _ _ ct
    have i8:=World.new_ne _ _ c5
    go_region_held3 (fun w'=>w'.cell? ⟨tb,d+1,none⟩=some (.string x1)/\w'.cell? ⟨P,5,none⟩=some (.int .i64 p.line)) (first | exact⟨by go_keep,by go_keep⟩| exact R.u _ hbx2 | exact⟨by simp[World.cell?_alloc_some,(R.u _ hbx2).1],by simp[World.cell?_alloc_some,(R.u _ hbx2).2]⟩| exact⟨(World.cell?_setCell_far _ _ _ _ (by simp;omega)).trans (by simp[World.cell?_alloc_some,(R.u _ hbx2).1]),(World.cell?_setCell_far _ _ _ _ (by simp;omega)).trans (by simp[World.cell?_alloc_some,(R.u _ hbx2).2])⟩) ((go_at_call 84;refine(qg x1 (h0.u _ (by first | exact zI _ _ | exact zh _ | exact(zI _ _).alloc (zB _) _ | exact((zI _ _).alloc (zB _) _).drew | exact(zh _).alloc (by simp) _)) k4.u).mono ?_;rintro e w2 ⟨rfl,a1⟩;have hbx2:Below w1.heap.size w1 w2:=(by first | exact a1 | exact yh a1 | exact((zI _ _).alloc (zB _) _).drew.trans (a1.mono (by simp))| exact((zI _ _).alloc (zB _) _).trans (a1.mono (by simp)));have i7:=World.new_ne _ _ (R.u _ hbx2).1;have i6:=World.new_ne _ _ (R.u _ hbx2).2;first | (have b2:w2.heap[w1.heap.size]?=some (.cells #[.int .i64 0,.slice none 0 0,.int .i64 0] 130 (0,0)):=zU (by exact zN w1 _) a1;obtain⟨k0,k1,k2⟩:=yb b2;have kz:=zS b2)| skip;rw[HD.u]))
    all_goals
      first
      | (obtain⟨F,V⟩:∃F,F=w2.heap.size:=⟨_,rfl⟩
         have W:=zN w2 (.cells #[.int .i64 ((D:Int)+1),.slice none 0 0,.int .i64 p.line] 130)
         have a3:=hbx2.alloc hbx2.size (.cells #[.int .i64 ((D:Int)+1),.slice none 0 0,.int .i64 p.line] 130)
         have L:w1.heap.size<=F:=by rw[V];exact hbx2.size
         rw[<-V]at W ⊢
         have HX3:=XX W a3 L
         clear W a3 L V
         generalize w2.alloc (.cells #[.int .i64 ((D:Int)+1),.slice none 0 0,.int .i64 p.line] 130)=w3 at *)
      | (rw[HD.u,show ((D+1:Nat):Int)=(D:Int)+1 by omega]
         obtain⟨F,V⟩:∃F,F=w1.heap.size:=⟨_,rfl⟩
         have W:(((w2.setCell ⟨w1.heap.size,0,none⟩ (.int .i64 ((D:Int)+1))).setCell ⟨w1.heap.size,1,none⟩ (.slice none 0 0)).setCell ⟨w1.heap.size,2,none⟩ (.int .i64 p.line)).heap[w1.heap.size]?=some (.cells #[.int .i64 ((D:Int)+1),.slice none 0 0,.int .i64 p.line] 130 (0,0)):=zf (zf (zf b2 0 (.int .i64 ((D:Int)+1))) 1 (.slice none 0 0)) 2 (.int .i64 p.line)
         have a3:=yx (yx (yx hbx2 (zB _) 0 (.int .i64 ((D:Int)+1))) (zB _) 1 (.slice none 0 0)) (zB _) 2 (.int .i64 p.line)
         have L:w1.heap.size<=F:=by rw[V];exact zB _
         generalize ((w2.setCell ⟨w1.heap.size,0,none⟩ (.int .i64 ((D:Int)+1))).setCell ⟨w1.heap.size,1,none⟩ (.slice none 0 0)).setCell ⟨w1.heap.size,2,none⟩ (.int .i64 p.line)=w3 at *
         rw[<-V]at W ⊢
         have HX3:=XX W a3 L
         clear W a3 L V b2 k0 k1 k2 kz)
    all_goals
      clear hbx2 a1 i9 i8 i7 i6 ct c5 h0 R
      have l2:=zQ HX3.u.1
      go_wp2_with fail
      go_loopw [9,10,11] (fun i _ _ wr=>∃(k:Nat) (acc:List Int) (av:Value),k<=(Rf.parts (t.drop 2)).length/\i=.int .i64 k/\acc.length=k/\argsL (rs.drop k) acc=argsL rs []/\wr.heap[F]?=some (.cells #[.int .i64 ((D:Int)+1),av,.int .i64 p.line] 130 (0,0))/\wr.ownsRow w1.heap.size 3 1 av acc.length (xR acc)/\Below w1.heap.size w1 wr)
        (fun i _ _ _=>(Rf.parts (t.drop 2)).length-(intOf i).toNat)
      case atStart=>exact⟨0,[],_,zo _,rfl,rfl,rfl,HX3.u.1,zW _ _ _ _,HX3.u.2.1⟩
      case round=>
        obtain⟨k,acc,av,hk,rfl,g2,hT,hF,M,x⟩:=hrel
        subst g2
        obtain⟨a5,O,g1⟩:=zK M
        subst g1
        obtain⟨k0,k1,k2⟩:=yb hF
        have kz:=zS hF
        have L:=HX3.u.2.2
        by_cases hlt:acc.length < (Rf.parts (t.drop 2)).length
        · have f4:(acc.length:Int) < ((Rf.parts (t.drop 2)).length:Int):=by omega
          have m8:(0:Int)<=(acc.length:Int):=by omega
          have f7:acc.length < rs.length:=by rw[h3.u];exact hlt
          obtain⟨uv,d6,b6⟩:=(z.u.2.2.zP x).2 acc.length hlt
          obtain⟨lg,h8,j1,_,_,cu⟩:=yD (yG z.u.2.1 x) d6
          injection j1 with e1 _ e2
          subst e1 e2
          obtain⟨l8,l0,d4,_⟩:=b6.form
          have d2:=tp rs acc.length f7 acc
          rw[hT]at d2
          have HT:=zD d2
          have g7:=zD (j8.u acc.length f7 hlt)
          have HU:=zD b6
          have HX:=XX hF M x
          generalize rs[acc.length]=y at *
          rw[d4]at cu HU
          clear d2 hT hF M x d6 b6 d4
          go_wp2_with fail
          refine(g7.u _ S g cap P _ ((z.u.1.zP HX.u.2.2).JZ) ((z.u.1.zP HX.u.2.2).read j9.u) HU.u).mono ?_
          rintro e w4 ⟨rfl,a9⟩
          obtain⟨hF,M,x⟩:=HX.u
          have G:=yG M a9
          have H:=zU hF a9
          have A:=x.trans (a9.mono (B':=w1.heap.size) x.size)
          obtain⟨m0,m1,m2⟩:=yb H
          have mz:=zS H
          have d1:=zQ H
          have m5:=A.size
          have g6:=XX H G A
          clear hF M x a9 HX g7 HU cu k0 k1 k2 kz H A
          obtain⟨v1,v2⟩:=y
          by_cases hv:v2=0
          · subst hv
            have a0:=zD (HT.u.trans (zE (by first | rfl | trivial)))
            clear HT
            go_wp2_with (at_builtin;refine wpList_append_lies _ rfl _ _ 24 rfl w1.heap.size 3 i0 _ 1 8 Tryz.underlying24 j4 i2 i1 h9 rfl (by decide) _ _ _ rfl (G.alloc _) ⟨w4.heap.size,0,none⟩ 1 1 [.int .i64 v1] rfl rfl (cell_one_new _ _ _) (by simp[Value.oneCell']) (by omega) (by unfold maxLen;omega) (by omega) (by simp;omega) (w4.heap.size+1) (by simp) ?_)
            intro g' cap' w5 T f b9 f3
            obtain⟨H,_,A⟩:=g6.u
            have f2:some F≠(Value.slice a5 acc.length O).ownBlock:=fun e=>by
              obtain⟨c',o⟩:=yW G e.symm
              rw[H]at o
              injection o with o
              injection o with _ o
              exact absurd o (by decide)
            have a4:=(f.block F (by simp;omega) f2).trans ((ki w4 _ d1).trans H)
            have f8:Below w1.heap.size w4 w5:=Below.grown ((zI w1.heap.size w4).alloc (by omega) _) f (by simp;omega) (fun q hq=>(G.lt q hq).1)
            have b5:∀q,(Value.slice (some ⟨g',0,none⟩) (acc.length+1) cap').ownBlock=some q->q≠F:=fun q hq e=>by
              obtain⟨c',o⟩:=yW T hq
              rw[e,a4]at o
              injection o with o
              injection o with _ o
              exact absurd o (by decide)
            have b4:=yP T (w':=w5.setCell ⟨F,1,none⟩ (.slice (some ⟨g',0,none⟩) (acc.length+1) cap')) (fun q hq=>zO w5 ⟨F,1,none⟩ _ q (b5 q hq))
            have b3:=zf a4 1 (.slice (some ⟨g',0,none⟩) (acc.length+1) cap')
            obtain⟨n0,n1,n2⟩:=yb a4
            have nz:=zS a4
            have k6:=XX b4 b3 (yx (A.trans f8) L 1 (.slice (some ⟨g',0,none⟩) (acc.length+1) cap'))
            clear b4 b3 b5 f8 a4 f2 H A T f b9 f3 G m0 m1 m2 mz
            go_wp2_with fail
            go_roundw
            case rel=>
              obtain⟨q1,q2,q3⟩:=k6.u
              exact⟨acc.length+1,acc++[v1],_,by omega,by go_num,by simp,a0.u.symm,q2,by rw[ze,xR,yB];exact q1,q3⟩
            case measure=>simp[intOf];omega
          · have m4:(v2 != 0)=true:=by simpa using hv
            have a0:=zD (HT.u.trans (zA hv))
            have I:=qG (HE.u.1.trans (zA (by rw[a0.u];exact hv))) (HE.u.2.trans (zA (by rw[a0.u];exact hv)))
            clear HT G m0 m1 m2 mz
            go_wp2_with fail
            go_ret
            exact⟨by rw[I.u.1,a0.u];rfl,X,by rw[I.u.2];exact z.u.1.zP g6.u.2.2⟩
        · have f4:¬(acc.length:Int) < ((Rf.parts (t.drop 2)).length:Int):=by omega
          have b0:argsL rs []=(acc,0):=by rw[<-hT,zp (by rw[h3.u];omega)];rfl
          have a0:=zD b0
          have N:=z.u.1.zP x
          obtain⟨h7,d3,a7⟩:=zK N.pl.Jq
          have c0:wr.cell? ⟨P,0,none⟩=some X.fv:=zC N.pl.block 0 (by simp[jh])
          rw[a7]at c0
          have I:=qG (HE.u.1.trans (zE (by rw[b0]))) (HE.u.2.trans (zE (by rw[b0])))
          have a8:=N.pl.Jq
          rw[a7]at a8
          have l7:=zQ N.pl.block
          have HX:=DA hF M x N a7
          clear hT b0 hF M x N a7
          by_cases h6:6<=p.zH.length
          · have j6:((p.zH.length:Int)==6)=true:=by rw[xw];omega
            have a6:=qG (I.u.1.trans (zE h6)) (I.u.2.trans (zE h6))
            clear I a8
            go_wp2_with fail
            go_ret
            exact⟨by rw[a6.u.1];rfl,X,by rw[a6.u.2];exact HX.u.2.2.2.1⟩
          · have j6:((p.zH.length:Int)==6)=false:=by rw[zV];omega
            have a6:=qG (I.u.1.trans (zA h6)) (I.u.2.trans (zA h6))
            clear I
            have k5:=zD a8
            have k3:=zD (show some P≠(Value.slice h7 p.zH.length d3).ownBlock from fun e=>by
              have N:=HX.u.2.2.2.1
              rw[<-HX.u.2.2.2.2]at e
              exact N.pl.apart (qU (r:=jy X.fv X.xg p.zH) (by simp[yO]) e.symm) rfl)
            have k7:=zD HX.u.2.2.2.1.pl.block
            clear a8
            go_wp2_with fail
            apply cutP (Z:=fun g' c' wy=>JW w0 wy S g cap ls P { p with zH:=p.zH++[⟨D+1,acc,p.line⟩] } { X with fv:=.slice (some ⟨g',0,none⟩) (p.zH.length+1) c',xg:=X.xg++[.slice a5 acc.length O] }/\wy.heap[F]?=some (.cells #[.int .i64 ((D:Int)+1),.slice a5 acc.length O,.int .i64 p.line] 130 (0,0)))
            · intro g9
              have j7:=zD g9
              clear g9
              go_region_law
                ((refine step_append_lies _ (by rfl) _ _ _ (by rfl) 0 130 j0 _ 3 40 Tryz.underlying70 j3 i5 i4 i3 rfl (by omega) _ p.zH.length (frCells X.xg p.zH) (by rfl) ((k5.u.alloc _).drew)
                        ⟨wr.heap.size,0,none⟩ 1 1 [.int .i64 ((D:Int)+1),.slice a5 acc.length O,.int .i64 p.line] (by rfl) (by rfl)
                        (World.news_of_block (cs:=#[.int .i64 ((D:Int)+1),.slice a5 acc.length O,.int .i64 p.line]) (t:=130) (fr:=(0,0)) (zN wr _)) (by simp[Value.oneCell'])
                        (by omega) (by unfold maxLen;omega) (by omega) (zo _) (wr.heap.size+1) (by simp) ?_;intro g' cap' w4 b8 f b9 l3;have bM:=(f.block P (by simp;omega) k3.u).trans (yR k7.u _);have d0:w4.cell? ⟨P,0,none⟩=some X.fv:=(zC bM 0 (by simp[jh]));rw[HX.u.2.2.2.2]at d0;have e0:=zS bM 0))
              all_goals
                rename_i hKK
                refine hKK _ _ ?_
                have hwy:=rG (D:=D) z.u.1 HX.u.2.2.1 HX.u.2.2.2.2 HX.u.2.1 f b8 b9 HX.u.1 L
                revert hwy
                generalize w4.setCell ⟨P,0,none⟩ (.slice (some ⟨g',0,none⟩) (p.zH.length+1) cap')=wy
                intro hwy
                exact j7.u _ _ _ hwy
            · intro g' c' wy hR
              obtain⟨g4,g5⟩:=hR
              obtain⟨y0,y1,y2⟩:=yb g5
              have h4:=zD g4
              have m9:IntKind.i64.wrap ((D:Int)+1+1)=(D:Int)+1+1:=zl _ ⟨by omega,by omega⟩
              clear g4 g5
              go_wp2_with fail
              refine(HG.u _ h4.u.JZ).mono ?_
              rintro e w6 ⟨rfl,f9⟩
              have b1:=h4.u.zP f9
              have b7:=b1.pl.block
              have d5:w6.cell? ⟨P,5,none⟩=some (.int .i64 p.line):=zC b7 5 (by simp[jh])
              have z6:=zS b7
              have h5:=zD (b1.to (b1.pl.Qj (Rf.jc ls (D+1):Nat)))
              clear b1 b7 f9
              go_wp2_with fail
              go_ret
              exact⟨by rw[a6.u.1];rfl,_,by rw[a6.u.2,a0.u];exact h5.u⟩
end Go.Proofs.YthleadfkfnnadaaGreat
