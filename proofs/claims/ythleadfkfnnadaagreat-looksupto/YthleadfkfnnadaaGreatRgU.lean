/- The document's answer: a step. -/
import Derived.Test.YthleadfkfnnadaaGreatRgA
import Derived.Deep.DeepCutAuto
set_option maxHeartbeats 4000000
set_option maxRecDepth 100000
set_option linter.unusedSimpArgs false
namespace Go.Proofs.YthleadfkfnnadaaGreat
open Rf Go.Proofs.Tryz
open Go.RowKit
variable {ls:List (List ByteArray)} {t:List ByteArray} {S g cap P B:Nat} {X:Qg} {p:Rf.Pl} {w0 w:World}
def argsL:List (Int×Int)->List Int->List Int×Int
 | [],acc=>(acc,0)
 | r::rs,acc=>if r.2=0 then argsL rs (acc++[r.1])else (acc,r.2)
theorem tp (rs:List (Int×Int)) (k:Nat) (d:k < rs.length) (acc:List Int):argsL (rs.drop k) acc=if rs[k].2=0 then argsL (rs.drop (k+1)) (acc++[rs[k].1])else (acc,rs[k].2):=by
 rw[zZ d,argsL]
theorem cutP {Goal:Prop} {Z:Nat->Nat->World->Prop} {R:Code} {post:Exit->Act->World->Prop} {fr:Nat->Nat->Act} (d:(∀g c wy,Z g c wy->Code.wp Tryz.prog R post (fr g c) wy)->Goal) (f:∀g c wy,Z g c wy->Code.wp Tryz.prog R post (fr g c) wy):Goal:=d f
theorem rG {w1 wr w4:World} {F D:Nat} {xad:Option Addr} {xcap g' cap':Nat} {av:Value} {acc:List Int} {o:Obj} {cF:Array Value} {tF:TypeId} (h:JW w0 w1 S g cap ls P p X) (H:Below w1.heap.size w1 wr) (y:X.fv=.slice xad p.zH.length xcap) (G:wr.ownsRow w1.heap.size 3 1 av acc.length (xR acc)) (x:(wr.alloc o).drew.grownBy w4 (Value.slice xad p.zH.length xcap).ownBlock) (j:w4.ownsRow 0 130 3 (.slice (some ⟨g',0,none⟩) (p.zH.length+1) cap') (p.zH.length+1) (frCells X.xg p.zH++[.int .i64 ((D:Int)+1),av,.int .i64 p.line])) (hat:(Value.slice xad p.zH.length xcap).ownBlock=some g'\/g'=wr.heap.size+1) (A:wr.heap[F]?=some (.cells cF tF (0,0))) (I:w1.heap.size<=F):JW w0 (w4.setCell ⟨P,0,none⟩ (.slice (some ⟨g',0,none⟩) (p.zH.length+1) cap')) S g cap ls P { p with zH:=p.zH++[⟨D+1,acc,p.line⟩] } { X with fv:=.slice (some ⟨g',0,none⟩) (p.zH.length+1) cap',xg:=X.xg++[av] }/\(w4.setCell ⟨P,0,none⟩ (.slice (some ⟨g',0,none⟩) (p.zH.length+1) cap')).heap[F]?=some (.cells cF tF (0,0)):=by
 have i:Below wr.heap.size wr (wr.alloc o).drew:=((zI _ wr).alloc (zB _) o).drew;rw[<-y]at x hat;have f:=h.pl.cU h.iB.size H i av ⟨D+1,acc,p.line⟩ G x (.slice (some ⟨g',0,none⟩) (p.zH.length+1) cap') j (fun k hk=>by simp[Value.ownBlock]at hk;subst hk;rcases hat with e | e;exact Or.inl e;exact Or.inr (by omega));have z:=zQ h.pl.block;have d:=zQ A;refine⟨h.to f,?_⟩;rw[zO w4 ⟨P,0,none⟩ _ F (by show ¬F=P;omega),x.block F (zX d i.size) (fun e=>by have:=(h.pl.Jq.lt F e.symm).2;omega)];exact(i.block F d).trans A
theorem rF (D:Nat) {v:Value} (rs:List (Int×Int)) (h:JW w0 w S g cap ls P p X) (hV:xA w0 v t) (hf:Y8 t) (hL:Lawful ls) (f1:V9 ls p) (a2:Rf.nested ls=0) (f6:2<=t.length) (j5:D < ls.length) (hd:Rf.decl ls t[1]=D+1) (m6:p.zH.length<=6) (d9:rs.length=(Rf.parts (t.drop 2)).length) (d8:∀j (h1:j < rs.length) (h2:j < (Rf.parts (t.drop 2)).length),Z5 ls p rs[j] (Rf.parts (t.drop 2))[j]) (m7:(Rf.parts (t.drop 2)).length<=1000) (te:Int) {p':Rf.Pl} (d7:te=if (argsL rs []).2=0 then (if 6<=p.zH.length then 5 else 0)else (argsL rs []).2) (f0:p'=if (argsL rs []).2=0 then (if 6<=p.zH.length then p else { p with zH:=p.zH++[⟨D+1,(argsL rs []).1,p.line⟩],line:=(Rf.jc ls (D+1):Nat) })else p):Calls Tryz.prog 97 #[.pointer (some ⟨S,0,none⟩),.pointer (some ⟨P,0,none⟩),v] w fun e w'=>e=.returned (.int .i64 te)/\∃X',JW w0 w' S g cap ls P p' X':=by
  obtain⟨i0,j4,i2,i1,h9⟩:=yi XL;obtain⟨j0,j3,i5,i4,i3⟩:=yi Vz;have HI:=zD h;have f5:=hL.len;have k4:=zD hL;have HF:=zD hf;have j9:=zD f1;have HE:=qG d7 f0;have j8:=zD d8;have h3:=zD d9;have HG:=zD (JM ls D j5 f5 a2 S g cap);have HD:=zD hd;have g3:=hV.zP h.iB;obtain⟨ad,cp,rfl,l6⟩:=hV.form;obtain⟨tb,d,rfl⟩:=hV.qZ (by intro h;rw[h]at f6;simp at f6);have hl:=hf.1;have j2:1 < t.length:=by omega
  have g8:=zD (show ∀w',Below w0.heap.size w0 w'->w'.cell? ⟨tb,d+1,none⟩=some (.string t[1])from fun w' hb=>Xm (hV.zP hb) j2);have HV:=zD g3;have l5:(1:Int) < (t.length:Int):=by omega
  have l4:(2:Int)<=(t.length:Int):=by omega
  clear h hV hL f1 f0 d7 g3 a2 d8 d9 hd hf;generalize t[1]=x1 at *;go_enter func97,ntmps97;go_wp2_with fail
  all_goals
    refine(cY (by first | exact xA.gone (by omega) rfl | exact HV.u.drop 2 _ _ rfl (by omega)) (HF.u.drop 2)).mono ?_;rintro e w1 ⟨g0,lv,l9,rfl,U,J⟩;have z:=XX (HI.u.zP g0) U J;obtain⟨m3,l1,rfl⟩:=zK U;have ct:=g8.u _ z.u.1.iB;have c5:w1.cell? ⟨P,5,none⟩=some (.int .i64 p.line):=zC z.u.1.pl.block 5 (by simp[jh]);clear g0 U J;go_wp2_with fail;have h0:=zD (show ∀w',Below w1.heap.size w1 w'->jA w' S g cap ls from fun w' hb=>z.u.1.JZ.zP hb);have R:=zD (show ∀w',Below w1.heap.size w1 w'->w'.cell? ⟨tb,d+1,none⟩=some (.string x1)/\w'.cell? ⟨P,5,none⟩=some (.int .i64 p.line)from fun w' hb=>⟨cell_later hb ct,cell_later hb c5⟩);have i9:=World.new_ne _ _ ct;have i8:=World.new_ne _ _ c5;go_region_held3 (fun w'=>w'.cell? ⟨tb,d+1,none⟩=some (.string x1)/\w'.cell? ⟨P,5,none⟩=some (.int .i64 p.line)) (first | exact⟨by go_keep,by go_keep⟩| exact R.u _ hbx2 | exact⟨by simp[World.cell?_alloc_some,(R.u _ hbx2).1],by simp[World.cell?_alloc_some,(R.u _ hbx2).2]⟩| exact⟨(World.cell?_setCell_far _ _ _ _ (by simp;omega)).trans (by simp[World.cell?_alloc_some,(R.u _ hbx2).1]),(World.cell?_setCell_far _ _ _ _ (by simp;omega)).trans (by simp[World.cell?_alloc_some,(R.u _ hbx2).2])⟩) ((go_at_call 84;refine(qg x1 (h0.u _ (by first | exact zI _ _ | exact zh _ | exact(zI _ _).alloc (zB _) _ | exact((zI _ _).alloc (zB _) _).drew | exact(zh _).alloc (by simp) _)) k4.u).mono ?_;rintro e w2 ⟨rfl,a1⟩;have hbx2:Below w1.heap.size w1 w2:=(by first | exact a1 | exact yh a1 | exact((zI _ _).alloc (zB _) _).drew.trans (a1.mono (by simp))| exact((zI _ _).alloc (zB _) _).trans (a1.mono (by simp)));have i7:=World.new_ne _ _ (R.u _ hbx2).1;have i6:=World.new_ne _ _ (R.u _ hbx2).2;first | (have b2:w2.heap[w1.heap.size]?=some (.cells #[.int .i64 0,.slice none 0 0,.int .i64 0] 130 (0,0)):=zU (by exact zN w1 _) a1;obtain⟨k0,k1,k2⟩:=yb b2;have kz:=zS b2)| skip;rw[HD.u]))
    all_goals
      first
      | (obtain⟨F,V⟩:∃F,F=w2.heap.size:=⟨_,rfl⟩
         have W:=zN w2 (.cells #[.int .i64 ((D:Int)+1),.slice none 0 0,.int .i64 p.line] 130);have a3:=hbx2.alloc hbx2.size (.cells #[.int .i64 ((D:Int)+1),.slice none 0 0,.int .i64 p.line] 130);have L:w1.heap.size<=F:=by rw[V];exact hbx2.size
         rw[<-V]at W ⊢;have HX3:=XX W a3 L;clear W a3 L V;generalize w2.alloc (.cells #[.int .i64 ((D:Int)+1),.slice none 0 0,.int .i64 p.line] 130)=w3 at *)
      | (rw[HD.u,show ((D+1:Nat):Int)=(D:Int)+1 by omega]
         obtain⟨F,V⟩:∃F,F=w1.heap.size:=⟨_,rfl⟩;have W:(((w2.setCell ⟨w1.heap.size,0,none⟩ (.int .i64 ((D:Int)+1))).setCell ⟨w1.heap.size,1,none⟩ (.slice none 0 0)).setCell ⟨w1.heap.size,2,none⟩ (.int .i64 p.line)).heap[w1.heap.size]?=some (.cells #[.int .i64 ((D:Int)+1),.slice none 0 0,.int .i64 p.line] 130 (0,0)):=zf (zf (zf b2 0 (.int .i64 ((D:Int)+1))) 1 (.slice none 0 0)) 2 (.int .i64 p.line);have a3:=yx (yx (yx hbx2 (zB _) 0 (.int .i64 ((D:Int)+1))) (zB _) 1 (.slice none 0 0)) (zB _) 2 (.int .i64 p.line);have L:w1.heap.size<=F:=by rw[V];exact zB _
         generalize ((w2.setCell ⟨w1.heap.size,0,none⟩ (.int .i64 ((D:Int)+1))).setCell ⟨w1.heap.size,1,none⟩ (.slice none 0 0)).setCell ⟨w1.heap.size,2,none⟩ (.int .i64 p.line)=w3 at *;rw[<-V]at W ⊢;have HX3:=XX W a3 L;clear W a3 L V b2 k0 k1 k2 kz)
    all_goals
      clear hbx2 a1 i9 i8 i7 i6 ct c5 h0 R;have l2:=zQ HX3.u.1;go_wp2_with fail;go_loopw [9,10,11] (fun i _ _ wr=>∃(k:Nat) (acc:List Int) (av:Value),k<=(Rf.parts (t.drop 2)).length/\i=.int .i64 k/\acc.length=k/\argsL (rs.drop k) acc=argsL rs []/\wr.heap[F]?=some (.cells #[.int .i64 ((D:Int)+1),av,.int .i64 p.line] 130 (0,0))/\wr.ownsRow w1.heap.size 3 1 av acc.length (xR acc)/\Below w1.heap.size w1 wr)
        (fun i _ _ _=>(Rf.parts (t.drop 2)).length-(intOf i).toNat)
      case atStart=>exact⟨0,[],_,zo _,rfl,rfl,rfl,HX3.u.1,zW _ _ _ _,HX3.u.2.1⟩
      case round=>
        obtain⟨k,acc,av,hk,rfl,g2,hT,hF,M,x⟩:=hrel;subst g2;obtain⟨a5,O,g1⟩:=zK M;subst g1;obtain⟨k0,k1,k2⟩:=yb hF;have kz:=zS hF;have L:=HX3.u.2.2;by_cases hlt:acc.length < (Rf.parts (t.drop 2)).length
        · have f4:(acc.length:Int) < ((Rf.parts (t.drop 2)).length:Int):=by omega
          have m8:(0:Int)<=(acc.length:Int):=by omega
          have f7:acc.length < rs.length:=by rw[h3.u];exact hlt
          obtain⟨uv,d6,b6⟩:=(z.u.2.2.zP x).2 acc.length hlt;obtain⟨lg,h8,j1,_,_,cu⟩:=yD (yG z.u.2.1 x) d6;injection j1 with e1 _ e2;subst e1 e2;obtain⟨l8,l0,d4,_⟩:=b6.form;have d2:=tp rs acc.length f7 acc;rw[hT]at d2;have HT:=zD d2;have g7:=zD (j8.u acc.length f7 hlt);have HU:=zD b6;have HX:=XX hF M x;generalize rs[acc.length]=y at *;rw[d4]at cu HU;clear d2 hT hF M x d6 b6 d4;go_wp2_with fail;refine(g7.u _ S g cap P _ ((z.u.1.zP HX.u.2.2).JZ) ((z.u.1.zP HX.u.2.2).read j9.u) HU.u).mono ?_;rintro e w4 ⟨rfl,a9⟩;obtain⟨hF,M,x⟩:=HX.u;have G:=yG M a9;have H:=zU hF a9;have A:=x.trans (a9.mono (B':=w1.heap.size) x.size);obtain⟨m0,m1,m2⟩:=yb H;have mz:=zS H;have d1:=zQ H;have m5:=A.size;have g6:=XX H G A;clear hF M x a9 HX g7 HU cu k0 k1 k2 kz H A;obtain⟨v1,v2⟩:=y;by_cases hv:v2=0
          · subst hv;have a0:=zD (HT.u.trans (zE (by first | rfl | trivial)));clear HT;go_wp2_with (at_builtin;refine wpList_append_lies _ rfl _ _ 24 rfl w1.heap.size 3 i0 _ 1 8 underlying24 j4 i2 i1 h9 rfl (by decide) _ _ _ rfl (G.alloc _) ⟨w4.heap.size,0,none⟩ 1 1 [.int .i64 v1] rfl rfl (cell_one_new _ _ _) (by simp[Value.oneCell']) (by omega) (by unfold maxLen;omega) (by omega) (by simp;omega) (w4.heap.size+1) (by simp) ?_);intro g' cap' w5 T f b9 f3;obtain⟨H,_,A⟩:=g6.u;have f2:some F≠(Value.slice a5 acc.length O).ownBlock:=fun e=>by
              obtain⟨c',o⟩:=yW G e.symm;rw[H]at o;injection o with o;injection o with _ o;exact absurd o (by decide)
            have a4:=(f.block F (by simp;omega) f2).trans ((G2 w4 _ d1).trans H);have f8:Below w1.heap.size w4 w5:=Below.grown ((zI w1.heap.size w4).alloc (by omega) _) f (by simp;omega) (fun q hq=>(G.lt q hq).1);have b5:∀q,(Value.slice (some ⟨g',0,none⟩) (acc.length+1) cap').ownBlock=some q->q≠F:=fun q hq e=>by
              obtain⟨c',o⟩:=yW T hq;rw[e,a4]at o;injection o with o;injection o with _ o;exact absurd o (by decide)
            have b4:=yP T (w':=w5.setCell ⟨F,1,none⟩ (.slice (some ⟨g',0,none⟩) (acc.length+1) cap')) (fun q hq=>zO w5 ⟨F,1,none⟩ _ q (b5 q hq));have b3:=zf a4 1 (.slice (some ⟨g',0,none⟩) (acc.length+1) cap');obtain⟨n0,n1,n2⟩:=yb a4;have nz:=zS a4;have k6:=XX b4 b3 (yx (A.trans f8) L 1 (.slice (some ⟨g',0,none⟩) (acc.length+1) cap'));clear b4 b3 b5 f8 a4 f2 H A T f b9 f3 G m0 m1 m2 mz;go_wp2_with fail;go_roundw
            case rel=>
              obtain⟨q1,q2,q3⟩:=k6.u;exact⟨acc.length+1,acc++[v1],_,by omega,by go_num,by simp,a0.u.symm,q2,by rw[ze,xR,yB];exact q1,q3⟩
            case measure=>simp[intOf];omega
          · have m4:(v2 != 0)=true:=by simpa using hv
            have a0:=zD (HT.u.trans (zA hv));have I:=qG (HE.u.1.trans (zA (by rw[a0.u];exact hv))) (HE.u.2.trans (zA (by rw[a0.u];exact hv)));clear HT G m0 m1 m2 mz;go_wp2;go_ret;exact⟨by rw[I.u.1,a0.u];rfl,X,by rw[I.u.2];exact z.u.1.zP g6.u.2.2⟩
        · have f4:¬(acc.length:Int) < ((Rf.parts (t.drop 2)).length:Int):=by omega
          have b0:argsL rs []=(acc,0):=by rw[<-hT,zp (by rw[h3.u];omega)];rfl
          have a0:=zD b0;have N:=z.u.1.zP x;obtain⟨h7,d3,a7⟩:=zK N.pl.Jq;have c0:wr.cell? ⟨P,0,none⟩=some X.fv:=zC N.pl.block 0 (by simp[jh]);rw[a7]at c0;have I:=qG (HE.u.1.trans (zE (by rw[b0]))) (HE.u.2.trans (zE (by rw[b0])));have a8:=N.pl.Jq;rw[a7]at a8;have l7:=zQ N.pl.block;have HX:=DA hF M x N a7;clear hT b0 hF M x N a7;by_cases h6:6<=p.zH.length
          · have j6:((p.zH.length:Int)==6)=true:=by rw[xw];omega
            have a6:=qG (I.u.1.trans (zE h6)) (I.u.2.trans (zE h6));clear I a8;go_wp2;go_ret;exact⟨by rw[a6.u.1];rfl,X,by rw[a6.u.2];exact HX.u.2.2.2.1⟩
          · have j6:((p.zH.length:Int)==6)=false:=by rw[zV];omega
            have a6:=qG (I.u.1.trans (zA h6)) (I.u.2.trans (zA h6));clear I;have k5:=zD a8;have k3:=zD (show some P≠(Value.slice h7 p.zH.length d3).ownBlock from fun e=>by
              have N:=HX.u.2.2.2.1;rw[<-HX.u.2.2.2.2]at e;exact N.pl.apart (qU (r:=jy X.fv X.xg p.zH) (by simp[yO]) e.symm) rfl)
            have k7:=zD HX.u.2.2.2.1.pl.block;clear a8;go_wp2_with fail;apply cutP (Z:=fun g' c' wy=>JW w0 wy S g cap ls P { p with zH:=p.zH++[⟨D+1,acc,p.line⟩] } { X with fv:=.slice (some ⟨g',0,none⟩) (p.zH.length+1) c',xg:=X.xg++[.slice a5 acc.length O] }/\wy.heap[F]?=some (.cells #[.int .i64 ((D:Int)+1),.slice a5 acc.length O,.int .i64 p.line] 130 (0,0)))
            · intro g9;have j7:=zD g9;clear g9;go_region_law
                ((refine step_append_lies _ (by rfl) _ _ _ (by rfl) 0 130 j0 _ 3 40 underlying70 j3 i5 i4 i3 rfl (by omega) _ p.zH.length (frCells X.xg p.zH) (by rfl) ((k5.u.alloc _).drew)
                        ⟨wr.heap.size,0,none⟩ 1 1 [.int .i64 ((D:Int)+1),.slice a5 acc.length O,.int .i64 p.line] (by rfl) (by rfl)
                        (World.news_of_block (cs:=#[.int .i64 ((D:Int)+1),.slice a5 acc.length O,.int .i64 p.line]) (t:=130) (fr:=(0,0)) (zN wr _)) (by simp[Value.oneCell'])
                        (by omega) (by unfold maxLen;omega) (by omega) (zo _) (wr.heap.size+1) (by simp) ?_;intro g' cap' w4 b8 f b9 l3;have bM:=(f.block P (by simp;omega) k3.u).trans (yR k7.u _);have d0:w4.cell? ⟨P,0,none⟩=some X.fv:=(zC bM 0 (by simp[jh]));rw[HX.u.2.2.2.2]at d0;have e0:=zS bM 0))
              all_goals
                rename_i hKK;refine hKK _ _ ?_;have hwy:=rG (D:=D) z.u.1 HX.u.2.2.1 HX.u.2.2.2.2 HX.u.2.1 f b8 b9 HX.u.1 L;revert hwy;generalize w4.setCell ⟨P,0,none⟩ (.slice (some ⟨g',0,none⟩) (p.zH.length+1) cap')=wy;intro hwy;exact j7.u _ _ _ hwy
            · intro g' c' wy hR;obtain⟨g4,g5⟩:=hR;obtain⟨y0,y1,y2⟩:=yb g5;have h4:=zD g4;have m9:IntKind.i64.wrap ((D:Int)+1+1)=(D:Int)+1+1:=zl _ ⟨by omega,by omega⟩;clear g4 g5;go_wp2_with fail;refine(HG.u _ h4.u.JZ).mono ?_;rintro e w6 ⟨rfl,f9⟩;have b1:=h4.u.zP f9;have b7:=b1.pl.block;have d5:w6.cell? ⟨P,5,none⟩=some (.int .i64 p.line):=zC b7 5 (by simp[jh]);have z6:=zS b7;have h5:=zD (b1.to (b1.pl.Qj (Rf.jc ls (D+1):Nat)));clear b1 b7 f9;go_wp2;go_ret;exact⟨by rw[a6.u.1];rfl,_,by rw[a6.u.2,a0.u];exact h5.u⟩
def PlW (w:World) (B:Nat) (fv vv cv ov:Value) (p:Rf.Pl):Prop:=0 < p.zH.length/\0 < p.cells.length/\∃xg kB,Xd w B p ⟨fv,vv,cv,ov,xg,kB⟩
def Y6 (p:Rf.Pl) (n:Int) (w:World) (e:Ending) (w':World):Prop:=Below w.heap.size w w'/\∃fv vv cv ov,e=.returned (.tuple #[.agg (jh fv vv cv ov p),.int .i64 n])/\PlW w' w.heap.size fv vv cv ov p
theorem Xd.val (h:Xd w B p X) (W:0 < p.zH.length) (Z:0 < p.cells.length):Bf w X.fv X.vv X.cv X.ov p:=by
 have M:=zN w (.cells (jh X.fv X.vv X.cv X.ov p) 72);have d:w.ownsRow 0 130 3 X.fv p.zH.length (frCells X.xg p.zH):=h.own.rows (jy X.fv X.xg p.zH) (by simp[yO]);have z:w.ownsRow 0 3 1 X.vv p.vars.length (xR p.vars):=h.own.rows (zz X.vv p.vars) (by simp[yO]);have o:w.ownsRow 0 24 1 X.cv p.cells.length X.kB:=h.own.rows (YF X.cv X.kB p.cells.length) (by simp[yO]);have A:w.ownsRow 0 3 1 X.ov p.out.length (xR p.out):=h.own.rows (zz X.ov p.out) (by simp[yO]);have F:∀i (hi:i < p.zH.length),∃av,X.xg[i]?=some av/\w.ownsRow 0 3 1 av p.zH[i].args.length (xR p.zH[i].args):=fun i hi=>by
  have k:i < X.xg.length:=by rw[h.fl];exact hi
  refine⟨X.xg[i],zJ k,h.own.rows (zz X.xg[i] p.zH[i].args) ?_⟩;unfold yO;refine zb _ (zY _ ?_);have:(List.zipWith zz X.xg (p.zH.map Rf.Fr.args))[i]?=some (zz X.xg[i] p.zH[i].args):=by
   rw[je,zJ k,yt,zJ hi];rfl
  exact qF this
 have D:∀i (hi:i < p.cells.length),∃av,X.kB[i]?=some av/\w.ownsRow 0 3 1 av p.cells[i].length (xR p.cells[i]):=fun i hi=>by
  have k:i < X.kB.length:=by rw[h.cl];exact hi
  refine⟨X.kB[i],zJ k,h.own.rows (zz X.kB[i] p.cells[i]) ?_⟩;unfold yO;refine zb _ (zb _ ?_);have:(List.zipWith zz X.kB p.cells)[i]?=some (zz X.kB[i] p.cells[i]):=by
   rw[je,zJ k,zJ hi]
  exact qF this
 clear M;obtain⟨g,cap,O,_,_,_⟩:=yD d (YN X.xg p.zH h.fl 0 W).1;obtain⟨g2,J,I,_,_,_⟩:=yD o (j:=0) (zJ (by rw[h.cl];exact Z));refine⟨⟨g,0,cap,O,fun i hi=>?_⟩,YX z,⟨g2,0,J,I,fun i hi=>?_⟩,YX A⟩
 ·obtain⟨av,H,G⟩:=F i hi;obtain⟨V,N,U⟩:=YN X.xg p.zH h.fl i hi;rw[<-zJ,H]at N;obtain⟨g1,c1,f,_,_,L⟩:=yD d V;obtain⟨g3,c3,y,_,_,T⟩:=yD d N;obtain⟨g4,c4,x,_,_,R⟩:=yD d U;rw[O]at f y x;injection f with f _ _;injection f with f;injection f with f;injection y with y _ _;injection y with y;injection y with y;injection x with x _ _;injection x with x;injection x with x;subst f y x;rw[xW];exact⟨av,L,T,R,YX G⟩
 ·obtain⟨av,H,G⟩:=D i hi;obtain⟨g1,c1,f,_,_,L⟩:=yD o H;rw[I]at f;injection f with f _ _;injection f with f;injection f with f;subst f;rw[xW];exact⟨av,L,YX G⟩
theorem Xd.whole (h:Xd w B p X) (d:0 < p.zH.length) (f:0 < p.cells.length):PlW w B X.fv X.vv X.cv X.ov p:=⟨d,f,X.xg,X.kB,h⟩
theorem Xd.mono {B':Nat} (h:Xd w B p X) (d:B'<=B):Xd w B' p X:=⟨h.own,h.fl,h.cl,fun k hk=>zi d (h.new k hk)⟩
abbrev W7 (w:World) (R:Nat) (a b c d e f g:Value):World:=((((((w.setCell ⟨R,0,none⟩ a).setCell ⟨R,1,none⟩ b).setCell ⟨R,2,none⟩ c).setCell ⟨R,3,none⟩ d).setCell ⟨R,4,none⟩ e).setCell ⟨R,5,none⟩ f).setCell ⟨R,6,none⟩ g
theorem Xd.w7 {N:Nat} {c:Array Value} (h:Xd w B p X) (D:w.heap[N]?=some (.cells c 72 (0,0))) (A:Below B w0 w) (d:B<=N) (y x o k j i f:Value):Xd (W7 w N y x o k j i f) B p X/\Below B w0 (W7 w N y x o k j i f):=by
 have L:=Xd.aside ⟨h,D,A⟩ d 0 y;have J:=Xd.aside L d 1 x;have I:=Xd.aside J d 2 o;have H:=Xd.aside I d 3 k;have G:=Xd.aside H d 4 j;have F:=Xd.aside G d 5 i;have z:=Xd.aside F d 6 f;exact⟨z.1,z.2.2⟩
theorem seven {R:Nat} {t:TypeId} {a b c d e f g:Value} (h:w.heap[R]?=some (.cells #[a,b,c,d,e,f,g] t (0,0))):w.cell? ⟨R,0,none⟩=some a/\w.cell? ⟨R,1,none⟩=some b/\w.cell? ⟨R,2,none⟩=some c/\w.cell? ⟨R,3,none⟩=some d/\w.cell? ⟨R,4,none⟩=some e/\w.cell? ⟨R,5,none⟩=some f/\w.cell? ⟨R,6,none⟩=some g:=
 ⟨zC h 0 (by simp),zC h 1 (by simp),zC h 2 (by simp),zC h 3 (by simp),zC h 4 (by simp),zC h 5 (by simp),zC h 6 (by simp)⟩
theorem vC.ZX (h:vC w B P p X):∃xa xc ya yc za zc oa oc,X.fv=.slice xa p.zH.length xc/\X.vv=.slice ya p.vars.length yc/\X.cv=.slice za p.cells.length zc/\X.ov=.slice oa p.out.length oc:=by
 obtain⟨xa,xc,i⟩:=zK h.Jq;obtain⟨ya,yc,f⟩:=zK h.wJ;obtain⟨za,zc,d⟩:=zK h.eB;obtain⟨oa,oc,j⟩:=zK h.CQ;exact⟨xa,xc,ya,yc,za,zc,oa,oc,i,f,d,j⟩
def rR (S g cap:Nat) (ls:List (List ByteArray)) (P:Nat) (p:Rf.Pl) (te:Int) (p1:Rf.Pl) (w0:World) (e:Ending) (w':World):Prop:=e=.returned (.int .i64 te)/\∃X',JW w0 w' S g cap ls P (if te=0 then p1 else p) X'
def Gv (w:World) (S g cap L:Nat) (ls:List (List ByteArray)) (t:List ByteArray) (iv:Value) (p:Rf.Pl) (te nn:Int) (p1:Rf.Pl) (x:ByteArray):Prop:=
 ((x.toList==[115,101,116])=true/\nn=2/\∃p0:Rf.Pl,(te=0->p0.line=(L:Int)+1)/\p1={ p0 with line:=(Rf.jc ls (L+1):Nat) }/\∀(w0 w':World) (P:Nat) (X:Qg) (tv:Value),JW w0 w' S g cap ls P p X->xA w0 tv t->Calls Tryz.prog 96 #[.pointer (some ⟨S,0,none⟩),.pointer (some ⟨P,0,none⟩),tv] w' (rR S g cap ls P p te p0 w0))\/
 (x.toList==[115,101,116])=false/\((x.toList==[99,97,108,108])=true/\nn=1/\(∀(w0 w':World) (P:Nat) (X:Qg) (tv:Value),JW w0 w' S g cap ls P p X->xA w0 tv t->Calls Tryz.prog 97 #[.pointer (some ⟨S,0,none⟩),.pointer (some ⟨P,0,none⟩),tv] w' (rR S g cap ls P p te p1 w0))\/
 (x.toList==[99,97,108,108])=false/\(((x.toList==[114,101,116,117,114,110])=true\/(x.toList==[114,101,116,117,114,110])=false/\(x.toList==[101,110,100])=true)/\nn=1+((Rf.top p).args.length:Int)/\(∀(w0 w':World) (P:Nat) (X:Qg),JW w0 w' S g cap ls P p X->Calls Tryz.prog 98 #[.pointer (some ⟨S,0,none⟩),.pointer (some ⟨P,0,none⟩)] w' (rR S g cap ls P p te p1 w0))\/
 (x.toList==[114,101,116,117,114,110])=false/\(x.toList==[101,110,100])=false/\((x.toList==[112,114,105,110,116])=true/\(x.toList==[114,101,97,100])=false/\nn=2\/(x.toList==[112,114,105,110,116])=false/\((x.toList==[114,101,97,100])=true/\nn=3\/(x.toList==[114,101,97,100])=false/\nn=1))/\∀(w0 w':World) (P:Nat) (X:Qg) (tv:Value),Below w.heap.size w w0->JW w0 w' S g cap ls P p X->xA w0 tv t->Calls Tryz.prog 99 #[.pointer (some ⟨S,0,none⟩),.pointer (some ⟨P,0,none⟩),tv,iv] w' (rR S g cap ls P p te p1 w0)))
theorem QC {L:Nat} {fv vv cv ov iv:Value} (hG:jA w S g cap ls) (hv:Bf w fv vv cv ov p) (hB:PlB p) (f6:V9 ls p) (hL:Lawful ls) (W:Rf.nested ls=0) (f8:p.line=(L:Int)+1) (g6:L < ls.length) (ht:ls[L]=t) (b7:0 < t.length) (i0:∃a n c,iv=.slice a n c) {te nn:Int} {p1:Rf.Pl} (f5:te=0->0 < p1.zH.length/\0 < p1.cells.length) (hk:Gv w S g cap L ls t iv p te nn p1 t[0]):Calls Tryz.prog 55 #[.pointer (some ⟨S,0,none⟩),.agg (jh fv vv cv ov p),iv] w (Y6 (if te=0 then p1 else { p with fin:=te }) (if te=0 then nn else 1) w):=by
 have HG:=zD hG;have HV:=zD hv;have d1:=zD hB;have a3:=zD f6;have f9:=hL.len;have i5:=zD (JM ls L g6 f9 W S g cap);have HK:=zD hk;obtain⟨fb,fo,N,rfl,h8⟩:=hv.zH;obtain⟨cb,co,O,rfl,h7⟩:=hv.cells;obtain⟨a4,J,rfl,h6⟩:=hv.vars;obtain⟨a5,M,rfl,h5⟩:=hv.out;obtain⟨j7,j6,i6,rfl⟩:=i0;have i3:=zD f8;have i1:=zD f5;have HT:=zD ht;obtain⟨q,hq⟩:∃q,q=(if te=0 then p1 else ({ p with fin:=te }:Rf.Pl)):=⟨_,rfl⟩;obtain⟨mm,hnn⟩:∃mm,mm=(if te=0 then nn else 1):=⟨_,rfl⟩;rw[<-hq,<-hnn];have HQ:=qG hq hnn;have H:=((zI w.heap.size w).alloc (zB _) (.cells (jh (.slice (some ⟨fb,fo,none⟩) p.zH.length N) (.slice a4 p.vars.length J) (.slice (some ⟨cb,co,none⟩) p.cells.length O) (.slice a5 p.out.length M) p) 72)).alloc (by simp) (.cells #[.slice none 0 0,.slice none 0 0,.slice none 0 0,.int .i64 0,.slice none 0 0,.int .i64 0,.int .i64 0] 72);have bB:=yR (zN w (.cells (jh (.slice (some ⟨fb,fo,none⟩) p.zH.length N) (.slice a4 p.vars.length J) (.slice (some ⟨cb,co,none⟩) p.cells.length O) (.slice a5 p.out.length M) p) 72)) (.cells #[.slice none 0 0,.slice none 0 0,.slice none 0 0,.int .i64 0,.slice none 0 0,.int .i64 0,.int .i64 0] 72);have bR:=qD w (.cells (jh (.slice (some ⟨fb,fo,none⟩) p.zH.length N) (.slice a4 p.vars.length J) (.slice (some ⟨cb,co,none⟩) p.cells.length O) (.slice a5 p.out.length M) p) 72) (.cells #[.slice none 0 0,.slice none 0 0,.slice none 0 0,.int .i64 0,.slice none 0 0,.int .i64 0,.int .i64 0] 72);have k7:((w.alloc (.cells (jh (.slice (some ⟨fb,fo,none⟩) p.zH.length N) (.slice a4 p.vars.length J) (.slice (some ⟨cb,co,none⟩) p.cells.length O) (.slice a5 p.out.length M) p) 72)).alloc (.cells #[.slice none 0 0,.slice none 0 0,.slice none 0 0,.int .i64 0,.slice none 0 0,.int .i64 0,.int .i64 0] 72)).heap.size=w.heap.size+2:=by simp
 clear hG hv hB f6 hL W hk h8 h7 h6 h5 f8 f5 hq hnn ht;unfold jh at *;go_enter func55,ntmps55;go_wp2_with fail;generalize (w.alloc _).alloc _=wA at *;have g8:=zD (HV.u.zP H);refine(gj g8.u d1.u).mono ?_;rintro e w1 ⟨g2,X,rfl,hQ⟩;have l1:=g2.size;have b9:=(zI w1.heap.size w1).alloc (zB _) (.cells (jh X.fv X.vv X.cv X.ov p) 72);have hO:=hQ.at b9 (zN w1 (.cells (jh X.fv X.vv X.cv X.ov p) 72)) (by omega);have hI:JW wA (w1.alloc (.cells (jh X.fv X.vv X.cv X.ov p) 72)) S g cap ls w1.heap.size p X:=⟨HG.u.zP H,g2.trans (b9.mono (B':=wA.heap.size) (by omega)),hO⟩;obtain⟨D,A,d4⟩:=zK hO.Jq;obtain⟨z,y,d3⟩:=zK hO.wJ;obtain⟨o,k,d2⟩:=zK hO.eB;obtain⟨G,F,f7⟩:=zK hO.CQ;have i:jh X.fv X.vv X.cv X.ov p=(G5 D A z y o k G F p):=by rw[d4,d3,d2,f7];rfl
 rw[i]at hI ⊢;have h9:(w1.alloc (.cells (G5 D A z y o k G F p) 72)).heap.size=w1.heap.size+1:=by simp
 have c5:(w1.alloc (.cells (G5 D A z y o k G F p) 72)).cell? ⟨w1.heap.size,5,none⟩=some (.int .i64 ((L:Int)+1)):=by
  have:=zC (zN w1 (.cells (G5 D A z y o k G F p) 72)) 5 (by simp);rw[this];exact qB (fun x=>some (Value.int .i64 x)) i3.u
 have hT:=hI.JZ.top;obtain⟨h0,tc,c7,d8⟩:=HG.u.row L g6;have g7:=cell_later H c7;have c8:=cell_later hI.iB g7;have U:=zD (d8.zP H);rw[HT.u]at c8 U;have HI:=zD hI;have j9:IntKind.i64.wrap ((L:Int)+1-1)=L:=by rw[show (L:Int)+1-1=(L:Int) by omega];exact zl _ ⟨by omega,by omega⟩
 have j8:IntKind.i64.wrap (L:Int)=L:=zl _ ⟨by omega,by omega⟩;have l4:(0:Int)<=(L:Int):=by omega
 have l3:(L:Int) < (ls.length:Int):=by omega
 have l6:w1.heap.size+1<=(w1.alloc (.cells (G5 D A z y o k G F p) 72)).heap.size:=by simp
 clear hO b9 hQ hI d4 d3 d2 f7 i c7 g7 d8 h9;go_wp2_with fail;generalize d6:w1.alloc (.cells (G5 D A z y o k G F p) 72)=w2 at *;clear d6;obtain⟨tb,tq,rfl⟩:∃tb tq,h0=some ⟨tb,tq,none⟩:=U.u.qZ (by intro e;rw[e]at b7;simp at b7);have i8:(0:Int) < (t.length:Int):=by omega
 have g9:=zD (show ∀w',Below wA.heap.size wA w'->w'.cell? ⟨tb,tq,none⟩=some (.string t[0])from fun w' hb=>by have:=Xm (U.u.zP hb) b7;rw[qO]at this;exact this);go_region_held3 (fun w'=>w'.cell? ⟨S,0,none⟩=some (.slice (some ⟨g,0,none⟩) ls.length cap)/\w'.cell? ⟨w1.heap.size,5,none⟩=some (.int .i64 ((L:Int)+1))/\w'.cell? ⟨g,L,none⟩=some (.slice (some ⟨tb,tq,none⟩) t.length tc)) (go_keep) (fail);have V:=zD (HI.u.zP (zh w2));have ct:=g9.u _ V.u.iB;clear HI c5 hT c8;generalize w2.drew=w3 at *;generalize t[0]=x0 at *;generalize w1.heap.size=P at *;go_upto_region 5 with (fail);go_cut [26] (fun v wx=>v=.string x0/\wx=w3)
 case first=>
  go_wp2_with fail;go_meet
  case rel=>exact⟨rfl,rfl⟩
 case rest=>
  obtain⟨rfl,rfl⟩:=hcut;rename_i hr hh;clear hh;refine hr _ _ ?_;go_cut [10,11] (fun ev nv wx=>ev=.int .i64 te/\nv=.int .i64 nn/\∃X',JW wA wx S g cap ls P (if te=0 then p1 else p) X')
  case first=>
   rcases HK.u with⟨k1,rfl,p0,hp0,rfl,hin⟩| ⟨k1,⟨k2,rfl,hin⟩| ⟨k2,⟨k3,hnn,hin⟩| ⟨k3,k4,k5,hin⟩⟩⟩
   case inl=>
    have I:=zD hin;have i2:=zD hp0;clear hin hp0 HK;go_wp2_with fail;refine(I.u wA wc P X _ V.u U.u).mono ?_;rintro e w4 ⟨rfl,X4,hI4⟩;by_cases hte:te=0
    case neg=>
     rw[zA hte]at hI4;have j:=zD hI4;have d7:(te==0)=false:=by simpa using hte
     clear hI4;go_wp2_with fail;go_meet
     case rel=>exact⟨rfl,rfl,X4,by rw[zA hte];exact j.u⟩
    case pos=>
     subst hte;rw[zE rfl]at hI4;have c5:w4.cell? ⟨P,5,none⟩=some (.int .i64 ((L:Int)+1)):=by have:=zC hI4.pl.block 5 (by simp[jh]);rw[this];exact qB (fun x=>some (Value.int .i64 x)) (i2.u rfl)
     have j:=zD hI4;have l5:IntKind.i64.wrap ((L:Int)+1+1)=(L:Int)+1+1:=zl _ ⟨by omega,by omega⟩;clear hI4;go_wp2_with fail;refine(i5.u _ j.u.JZ).mono ?_;rintro e w5 ⟨rfl,R⟩;have a2:=j.u.zP R;have d5:w5.cell? ⟨P,5,none⟩=some (.int .i64 p0.line):=zC a2.pl.block 5 (by simp[jh]);have z5:=zS a2.pl.block;have i4:=zD (a2.to (a2.pl.Qj (Rf.jc ls (L+1):Nat)));clear a2 R c5;go_wp2_with fail;go_meet
     case rel=>exact⟨rfl,rfl,X4,by rw[zE (by simp)];exact i4.u⟩
   case inr.inl=>
    have I:=zD hin;clear hin HK;go_wp2_with fail;refine(I.u wA wc P X _ V.u U.u).mono ?_;rintro e w4 ⟨rfl,hI4⟩;go_wp2_with fail;go_meet
    case rel=>exact⟨rfl,rfl,hI4⟩
   case inr.inr.inl=>
    have I:=zD hin;clear hin HK;obtain⟨fk,g1⟩:∃fk,p.zH.length=fk+1:=⟨p.zH.length-1,by have:=a3.u.some;omega⟩;obtain⟨l8,l7,l9,g4,_,k0,_,h4,_,a7⟩:=V.u.pl.top g1;obtain⟨m0,j5,g3⟩:=zK a7;rw[g3]at h4;have g0:=a3.u.VJ;have j3:fk<=1000:=by omega
    have j0:IntKind.i64.wrap ((fk:Int)+1-1)=fk:=by rw[show (fk:Int)+1-1=(fk:Int) by omega];exact zl _ ⟨by omega,by omega⟩
    have i9:IntKind.i64.wrap (fk:Int)=fk:=zl _ ⟨by omega,by omega⟩;have j2:(0:Int)<=(fk:Int):=by omega
    have j1:(fk:Int) < (fk:Int)+1:=by omega
    have j4:(Rf.top p).args.length<=1000:=d1.u.args (Rf.top p) (by
     have h1:=a3.u.some;unfold Rf.top;rw[xL,zJ (by omega)];exact zj _)
    have l2:IntKind.i64.wrap (1+((Rf.top p).args.length:Int))=1+((Rf.top p).args.length:Int):=zl _ ⟨by omega,by omega⟩;generalize (Rf.top p).args.length=al at *;subst hnn;clear g1 g4 a7 g3 g0;rcases k3 with k3 | ⟨k3,k4⟩
    all_goals
     go_wp2_with fail;refine(I.u wA wc P X V.u).mono ?_;rintro e w4 ⟨rfl,hI4⟩;go_wp2_with fail;go_meet
     case rel=>exact⟨rfl,rfl,hI4⟩
   case inr.inr.inr=>
    have I:=zD hin;clear hin HK;rcases k5 with⟨k5,k6,rfl⟩| ⟨k5,⟨k6,rfl⟩| ⟨k6,rfl⟩⟩
    all_goals
     go_wp2_with fail;refine(I.u wA wc P X _ H V.u U.u).mono ?_;rintro e w4 ⟨rfl,hI4⟩;go_wp2_with fail;go_meet
     case rel=>exact⟨rfl,rfl,hI4⟩
  case rest=>
   obtain⟨rfl,rfl,X4,hI4⟩:=hcut;have f:=hI4.iB;have i7:=f.size;have c0:=(f.block w.heap.size (by omega)).trans bB;have T:=(f.block (w.heap.size+1) (by omega)).trans bR;by_cases hte:te=0
   ·subst hte;rw[zE rfl]at hI4;obtain⟨d9,f0⟩:=i1.u rfl;have d0:=qG (HQ.u.1.trans (zE rfl)) (HQ.u.2.trans (zE rfl));obtain⟨D,A,z,y,o,k,G,F,f1,f2,f3,f4⟩:=hI4.pl.ZX;have h:=hI4.pl.block;have i:jh X4.fv X4.vv X4.cv X4.ov p1=(G5 D A z y o k G F p1):=by rw[f1,f2,f3,f4];rfl
    rw[i]at h;obtain⟨q0,q1,q2,q3,q4,q5,q6⟩:=seven h;obtain⟨n0,n1,n2,n3,n4,n5,n6⟩:=seven T;have zn:=zS T;have d:=Xd.w7 (w0:=w) (hI4.pl.rows.mono (B':=w.heap.size) (by omega)) T (H.trans (f.mono (B':=w.heap.size) (by omega))) (by omega) (.slice D p1.zH.length A) (.slice z p1.vars.length y) (.slice o p1.cells.length k) (.int .i64 p1.read) (.slice G p1.out.length F) (.int .i64 p1.line) (.int .i64 p1.fin);have HF:=XX d.2 (d.1.whole d9 f0) i;clear hI4 f c0 T HQ h i d f1 f2 f3 f4;go_wp2_with fail;refine zT (v:=.tuple #[.agg (G5 D A z y o k G F p1),.int .i64 nn]) ?_ rfl ?_
    ·simp[results,results55,go_sem,n0,n1,n2,n3,n4,n5,n6]
    ·obtain⟨h1,h2,h3⟩:=HF.u;obtain⟨e1,e2⟩:=d0.u;rw[e1,e2];exact⟨h1,_,_,_,_,qB (fun a=>Ending.returned (Value.tuple #[Value.agg a,Value.int .i64 nn])) h3.symm,h2⟩
   ·rw[zA hte]at hI4;have d7:(te==0)=false:=by simpa using hte
    have d0:=qG (HQ.u.1.trans (zA hte)) (HQ.u.2.trans (zA hte));obtain⟨b0,b1,b2,b3,b4,b5,b6⟩:=seven c0;have j:=XX hI4 T (g8.u.zP f);clear hI4 f c0 T HQ;go_wp2_with fail;refine(gj j.u.2.2 d1.u).mono ?_;rintro e w5 ⟨R,X5,rfl,a1⟩;have l0:=R.size;have g5:Xd w5 wc.heap.size { p with fin:=te } X5:=⟨a1.own,a1.fl,a1.cl,a1.new⟩;have b8:=(zI w5.heap.size w5).alloc (zB _) (.cells (jh X5.fv X5.vv X5.cv X5.ov { p with fin:=te }) 72);have a6:=g5.at b8 (zN w5 (.cells (jh X5.fv X5.vv X5.cv X5.ov { p with fin:=te }) 72)) (by omega);obtain⟨D,A,z,y,o,k,G,F,f1,f2,f3,f4⟩:=a6.ZX;have i:jh X5.fv X5.vv X5.cv X5.ov p=(G5 D A z y o k G F p):=by rw[f1,f2,f3,f4];rfl
    have a9:jh X5.fv X5.vv X5.cv X5.ov { p with fin:=te }=#[.slice D p.zH.length A,.slice z p.vars.length y,.slice o p.cells.length k,.int .i64 p.read,.slice G p.out.length F,.int .i64 p.line,.int .i64 te]:=by rw[f1,f2,f3,f4];rfl
    have Z:Below wA.heap.size wA (w5.alloc (.cells (jh X5.fv X5.vv X5.cv X5.ov { p with fin:=te }) 72)):=(j.u.1.iB.trans (R.mono (B':=wA.heap.size) j.u.1.iB.size)).trans (b8.mono (B':=wA.heap.size) (by omega));have a0:=(Z.block (w.heap.size+1) (by omega)).trans bR;have h:=a6.block;have d:=Xd.w7 (w0:=w) (a6.rows.mono (B':=w.heap.size) (by omega)) a0 (H.trans (Z.mono (B':=w.heap.size) (by omega))) (by omega) (.slice D p.zH.length A) (.slice z p.vars.length y) (.slice o p.cells.length k) (.int .i64 p.read) (.slice G p.out.length F) (.int .i64 p.line) (.int .i64 te);have a8:=d.1.whole a3.u.some (by have:=a3.u.cells;show 0 < p.cells.length;omega);rw[a9]at h a0 d a8;rw[i];obtain⟨q0,q1,q2,q3,q4,q5,q6⟩:=seven h;obtain⟨n0,n1,n2,n3,n4,n5,n6⟩:=seven a0;have zn:=zS a0;have HF:=XX d.2 a8 a9;clear a6 g5 b8 Z a0 h d a8 i a9 f1 f2 f3 f4 R a1 b0 b1 b2 b3 b4 b5 b6;go_wp2_with fail;refine zT (v:=.tuple #[.agg #[.slice D p.zH.length A,.slice z p.vars.length y,.slice o p.cells.length k,.int .i64 p.read,.slice G p.out.length F,.int .i64 p.line,.int .i64 te],.int .i64 1]) ?_ rfl ?_
    ·simp[results,results55,go_sem,n0,n1,n2,n3,n4,n5,n6]
    ·obtain⟨h1,h2,h3⟩:=HF.u;obtain⟨e1,e2⟩:=d0.u;rw[e1,e2];exact⟨h1,_,_,_,_,qB (fun a=>Ending.returned (Value.tuple #[Value.agg a,Value.int .i64 1])) h3.symm,h2⟩
end Go.Proofs.YthleadfkfnnadaaGreat
