/- The nesting of blocks: pass. -/
import Derived.Test.YthleadfkfnnadaaGreatLinec
set_option maxHeartbeats 4000000
set_option maxRecDepth 100000
set_option linter.unusedSimpArgs false
namespace Go.Proofs.YthleadfkfnnadaaGreat
open Rt Go.Proofs.Tryz
open Go.RowKit
variable {kind:Int} {cs:List (List Value)} {bs pre:List Rt.Zx} {zL:List Rt.PL} {c:List Value} {B B' P n S:Nat} {row:Option Nat} {b:Rt.Zx} {p:Rt.PL} {t:TypeId} {lv Ce bv:Value} {w w' w1 w2 wx:World}
def kZ (tv:Value) (fv:Array Value) (xe xf:Int) (pl:Rt.PL):List Value:=tv::(fv.toList++[.int .i64 pl.depth,.int .i64 pl.opener,.int .i64 xe,.int .i64 xf,.int .i64 pl.proc])
def Kq (w:World) (B:Nat) (pl:Rt.PL) (c:List Value):Prop:=
 ∃tv fv xe xf,c=kZ tv fv xe xf pl/\w.ownsRow B 188 2 tv pl.yY.length (qa pl.yY)/\qk w B fv pl.form
def ja (w:World) (B:Nat):List Rt.PL->List (List Value)->Prop
 | [],[]=>True
 | p::ps,c::cs=>Kq w B p c/\ja w B ps cs
 | _,_=>False
def Qc (w w':World) (B B':Nat):Prop:=∀(t:TypeId) (size n:Nat) (v:Value) (xs:List Value),t≠145->w.ownsRow B t size v n xs->w'.ownsRow B' t size v n xs
theorem Qc.exprs {w w':World} {B B':Nat} (d:Qc w w' B B'):∀xs os,qi w B xs os->qi w' B' xs os
 | [],[],_=>trivial
 | _::xs,_::os,⟨h1,h2⟩=>⟨d _ _ _ _ _ (by decide) h1,d.exprs xs os h2⟩
 | [],_::_,h=>h.elim
 | _::_,[],h=>h.elim
theorem Qc.form (d:Qc w w' B B') {v:Array Value} {fm:Rt.qS} (h:qk w B v fm):qk w' B' v fm:=by
 obtain⟨i,iv,vv,f,rfl,x,o,k,j⟩:=h;exact⟨i,iv,vv,f,rfl,d _ _ _ _ _ (by decide) x,d _ _ _ _ _ (by decide) o,d _ _ _ _ _ (by decide) k,d.exprs _ _ j⟩
theorem Qc.line (d:Qc w w' B B') {pl:Rt.PL} (h:Kq w B pl c):Kq w' B' pl c:=by
 obtain⟨tv,fv,i,f,rfl,k,j⟩:=h;exact⟨tv,fv,i,f,rfl,d _ _ _ _ _ (by decide) k,d.form j⟩
theorem Qc.lines {w w':World} {B B':Nat} (d:Qc w w' B B'):∀ps cs,ja w B ps cs->ja w' B' ps cs
 | [],[],_=>trivial
 | _::ps,_::cs,⟨h1,h2⟩=>⟨d.line h1,d.lines ps cs h2⟩
 | [],_::_,h=>h.elim
 | _::_,[],h=>h.elim
theorem ja.snoc {w:World} {B:Nat} {p:Rt.PL} {c:List Value} (h:Kq w B p c):∀ps cs,ja w B ps cs->ja w B (ps++[p]) (cs++[c])
 | [],[],_=>⟨h,trivial⟩
 | _::ps,_::cs,⟨h1,h2⟩=>⟨h1,ja.snoc h ps cs h2⟩
 | [],_::_,h=>h.elim
 | _::_,[],h=>h.elim
theorem xZ (d:Below w.heap.size w w'):Qc w w' B B:=fun _ _ _ _ _ _ h=>yG h d
structure qH (w:World) (P:Nat) (zL:List Rt.PL) (lv:Value) (cs:List (List Value)):Prop where
 block:w.heap[P]?=some (.cells #[lv] 76 (0,0))
 own:w.ownsRow (P+1) 145 12 lv zL.length cs.flatten
 lines:ja w (P+1) zL cs
theorem qH.zP (h:qH w P zL lv cs) (d:Below w.heap.size w w'):qH w' P zL lv cs:=
 ⟨zU h.block d,yG h.own d,(xZ d).lines _ _ h.lines⟩
theorem C3:(Tryz.prog.info? 145).map (fun i=>(i.zero,i.size,i.bytes))=some (some (.agg #[.slice none 0 0,.int .i64 0,.string ⟨#[]⟩,.int .i64 0,.slice none 0 0,.slice none 0 0,.slice none 0 0,.int .i64 0,.int .i64 0,.int .i64 0,.int .i64 0,.int .i64 0]),12,168):=by kernel_rfl
section
attribute [local go_sem ↓] Go.wp_at_zero Go.wp_at_succ
theorem qH.push {lv':Value} (h:qH w P zL lv cs) (J:Kq w (P+1) p c) (o:Below w.heap.size w w1) (y:w2.ownsRow (P+1) 145 12 lv' (zL.length+1) (cs.flatten++c)) (d:w1.grownBy w2 lv.ownBlock):qH (w2.setCell ⟨P,0,none⟩ lv') P (zL++[p]) lv' (cs++[c])/\Below P w (w2.setCell ⟨P,0,none⟩ lv'):=by
 have z:=zQ h.block;have j:∀k,lv.ownBlock=some k->P < k:=fun k hk=>by have:=(h.own.lt k hk).1;omega
 have f:∀k,k < w.heap.size->some k≠lv.ownBlock->w2.heap[k]?=w.heap[k]?:=fun k hk hv=>by
  rw[d.block k (zX hk o.size) hv];exact o.block k hk
 have i:∀k,k≠P->(w2.setCell ⟨P,0,none⟩ lv').heap[k]?=w2.heap[k]?:=fun k hk=>zO w2 ⟨P,0,none⟩ _ k hk;have G:Qc w (w2.setCell ⟨P,0,none⟩ lv') (P+1) (P+1):=by
  intro t F n v xs I hv;have A:=Ys hv h.own I;obtain⟨H,h2⟩:=hv;refine⟨H,?_⟩;rcases h2 with h2 | ⟨g,cap,cur,x,hg,hh,r⟩
  ·exact Or.inl h2
  ·exact Or.inr ⟨g,cap,cur,x,hg,by rw[i g (by omega),f g (zQ hh) (fun e=>A g (by rw[x];rfl) e.symm)];exact hh,r⟩
 refine⟨⟨?_,?_,ja.snoc (G.line J) _ _ (G.lines _ _ h.lines)⟩,?_⟩
 ·have D:w2.heap[P]?=some (.cells #[lv] 76 (0,0)):=(f P z (fun e=>by have:=j P e.symm;omega)).trans h.block;have:=zf D 0 lv';simpa using this
 ·have:(cs++[c]).flatten=cs.flatten++c:=by simp
  rw[this,ze];exact qL y (by show P < P+1;omega) _
 ·refine⟨d.os.trans o.os,d.tape.trans o.tape,d.output.trans o.output,?_,fun k hk=>(i k (by omega)).trans (f k (by omega) (fun e=>by have:=j k e.symm;omega))⟩;have H:=d.size;have h2:=o.size;simp[World.setCell];omega
theorem DG (d:w.heap[P]?=some (.cells #[lv] 76 (0,0))) (i:Below w.heap.size w w1) (f:w1.grownBy w2 row) (j:row≠some P):w2.cell? ⟨P,0,none⟩=some lv/\w2.frozen? ⟨P,0,none⟩=false:=by
 have h:w2.heap[P]?=some (.cells #[lv] 76 (0,0)):=by
  rw[f.block P (zX (zQ d) i.size) (xK j),i.block P (zQ d)];exact d
 exact⟨zC h 0 (by simp),zS h 0⟩
abbrev ew:Array Value:=#[zg,.int .i64 0,.string ⟨#[]⟩,.int .i64 0,zg,zg,zg,.int .i64 0,.int .i64 0,.int .i64 0,.int .i64 0,.int .i64 0]
theorem qD (w:World) (d o2:Obj):((w.alloc d).alloc o2).heap[w.heap.size+1]?=some o2:=by
 have:=zN (w.alloc d) o2;simpa using this
theorem sE (f:w.heap[P]?=some (.cells #[Ce] 76 (0,0))):qH ((w.setCell ⟨P,0,none⟩ (.slice (some ⟨w.heap.size,0,none⟩) 1 1)).alloc (.cells ew 145)) P [Rt.kb] (.slice (some ⟨w.heap.size,0,none⟩) 1 1) [ew.toList]:=by
 have i:=zQ f;refine⟨?_,?_,⟨zg,yo,0,0,rfl,zW _ _ _ _,vM⟩,trivial⟩
 ·have:=zf f 0 (.slice (some ⟨w.heap.size,0,none⟩) 1 1);exact yR (by simpa using this) _
 ·have h:=zN (w.setCell ⟨P,0,none⟩ (.slice (some ⟨w.heap.size,0,none⟩) 1 1)) (.cells ew 145);have d:(w.setCell ⟨P,0,none⟩ (.slice (some ⟨w.heap.size,0,none⟩) 1 1)).heap.size=w.heap.size:=by simp[World.setCell]
  rw[d]at h;exact⟨rfl,Or.inr ⟨w.heap.size,1,ew,rfl,by omega,h,zB _,by unfold maxLen;omega,rfl,rfl⟩⟩
theorem AV (h:qH w P zL lv cs) (k:Below w.heap.size w w1) (d:w1.grownBy w2 lv.ownBlock) {size:Nat} {v:Value} {xs:List Value} (hv:w.ownsRow (P+1) t size v n xs) (o:t≠145) (i:Value):(w2.setCell ⟨P,0,none⟩ i).ownsRow (P+1) t size v n xs:=by
 have j:=Ys hv h.own o;obtain⟨x,h2⟩:=hv;refine⟨x,?_⟩;rcases h2 with h2 | ⟨g,cap,cur,f,hg,hh,r⟩
 ·exact Or.inl h2
 ·refine Or.inr ⟨g,cap,cur,f,hg,?_,r⟩;rw[zO w2 ⟨P,0,none⟩ _ g (by show g≠P;omega),d.block g (zX (zQ hh) k.size) (fun e=>j g (by rw[f];rfl) e.symm),k.block g (zQ hh)];exact hh
def Lk0 (cs:List (List Value)):Prop:=∀c∈cs,c[9]?=some (.int .i64 0)/\c[10]?=some (.int .i64 0)
theorem iU (s:ByteArray) (hP:w.heap[P]?=some (.cells #[Ce] 76 (0,0))) (hs:s.size<=40000) (h0:(Rt.lines s).length<=100):Calls Tryz.prog 75 #[.pointer (some ⟨P,0,none⟩),.string s] w fun e w'=>Below P w w'/\
      (((Rt.rForms 0 (Rt.lines s) [Rt.kb]).1=0/\e=.returned (.tuple #[.int .i64 0,.int .i64 0])/\∃lv cs,qH w' P (Rt.rForms 0 (Rt.lines s) [Rt.kb]).2 lv cs/\Lk0 cs)\/
       (¬(Rt.rForms 0 (Rt.lines s) [Rt.kb]).1=0/\e=.returned (.tuple #[.int .i64 2,.int .i64 (Rt.rForms 0 (Rt.lines s) [Rt.kb]).1])/\w'.heap.size≥w.heap.size)):=by
  obtain⟨i0,f5,f4,f3,f2⟩:=yi C3;have g8:=zQ hP;have c0:=zC hP 0 (by simp);have f0:=zS hP 0;simp at c0;go_enter func75,ntmps75;go_wp2_with fail;have hA:qH ((w.setCell ⟨P,0,none⟩ (.slice (some ⟨w.heap.size,0,none⟩) 1 1)).alloc (.cells ew 145)) P [Rt.kb] (.slice (some ⟨w.heap.size,0,none⟩) 1 1) [ew.toList]:=sE hP;have d7:Below P w ((w.setCell ⟨P,0,none⟩ (.slice (some ⟨w.heap.size,0,none⟩) 1 1)).alloc (.cells ew 145)):=((zI P w).setCell (p:=⟨P,0,none⟩) (zB _) _).alloc (by simp[World.setCell];omega) _;clear c0 f0 hP;refine(Al s hs).mono ?_;rintro e w1 ⟨b0,tx,rfl,z⟩;have hpr1:=hA.zP b0;have a8:=d7.trans (b0.mono (B':=P) (by simp[World.setCell];omega));have I:=yn (b':=P+1) z (by simp[World.setCell];omega);clear hA d7 b0 z;obtain⟨g3,d8,rfl⟩:=zK I;have d0:=Rt.YM hs;generalize hL:Rt.lines s=L at *;have HL:=zD hL;clear hL;have g4:=zD d0;clear d0;go_wp2_with fail;go_loopw [7,8,9,10] (fun i _ _ _ wr=>∃(k:Nat) (acc:List Rt.PL) (lv:Value) (cs:List (List Value)),k<=L.length/\i=.int .i64 k/\acc.length=k+1/\Rt.rForms k (L.drop k) acc=Rt.rForms 0 L [Rt.kb]/\
      qH wr P acc lv cs/\Lk0 cs/\wr.ownsRow (P+1) 9 1 (.slice g3 L.length d8) L.length (L.map Value.string)/\Below P w wr)
    (fun i _ _ _ _=>L.length-(intOf i).toNat)
  case atStart=>exact⟨0,[Rt.kb],_,_,zo _,rfl,rfl,rfl,hpr1,(fun c hc=>by rw[yN.mp hc];exact⟨rfl,rfl⟩),I,a8⟩
  case round=>
    clear hpr1 I a8;obtain⟨k,acc,lv,cs,hk,rfl,a9,hT,M,d4,z,F⟩:=hrel;have f1:=zD d4;clear d4;have HT:=zD hT;have HA:=zD a9;clear hT a9;have g6:=F.size;by_cases hlt:k < L.length
    · have d3:(k:Int) < (L.length:Int):=by omega
      obtain⟨gx,g2,b8,_,_,cx⟩:=yD z (j:=k) (u:=.string L[k]) (by simp[hlt]);have d1:=g4.u L[k] (zj hlt);simp at b8;obtain⟨rfl,rfl⟩:=b8;have d:L.drop k=L[k]::L.drop (k+1):=zZ hlt;go_wp2_with fail;refine(rh L[k] d1).mono ?_;rintro e w2 ⟨o,(⟨ht,rfl⟩| ⟨ts,tv,ht,rfl,b9⟩)⟩
      · have HE:Hd (Rt.rForms 0 L [Rt.kb]=(k+1,acc)):=by
          refine zD ?_;rw[<-HT.u,d,Rt.rForms,Rt.rdLine,ht]
        have HB:=zD (F.trans (o.mono (B':=P) (by omega)));clear M z F o ht d cx;go_wp2_with fail;go_ret2;have R:=HE.u;rw[<-HL.u]at R;refine⟨HB.u,Or.inr ⟨by rw[R];simp,by rw[R];simp,by have:=HB.u.size;omega⟩⟩
      · obtain⟨f8,f7⟩:=Rt.JY d1 ht;have J:=M.zP o;have H:=yG z o;have G:=F.trans (o.mono (B':=P) (by omega));have A:=yn (b':=P+1) b9 (by omega);clear M z F b9 cx;obtain⟨b4,T,rfl⟩:=zK A;go_wp2_with fail;refine(ie A f8 f7).mono ?_;rintro e w3 ⟨D,(⟨fm,fv,hp,rfl,d5⟩| ⟨hp,rfl⟩)⟩
        · have g7:=o.size;have f:=J.zP D;have a0:=yG H D;have a7:=G.trans (D.mono (B':=P) (by omega));have a1:=yG A D;have a5:qk w3 (P+1) fv fm:=Kr d5 (fun t size n v xs h=>yn h (by omega));have HE:Hd (Rt.rForms (k+1) (L.drop (k+1)) (acc++[⟨ts,fm,0,0,0⟩])=Rt.rForms 0 L [Rt.kb]):=by
            refine zD ?_;rw[<-HT.u,d,Rt.rForms,Rt.rdLine,ht];simp only;rw[hp]
          have a4:=a5;obtain⟨pv,iv,vv,vs,rfl,b1,b2,b3,_⟩:=a5;obtain⟨b7,W,rfl⟩:=zK b1;obtain⟨b6,V,rfl⟩:=zK b2;obtain⟨b5,U,rfl⟩:=zK b3;have Z:=(zI w3.heap.size w3).alloc (zB _) (.cells #[.int .i64 fm.kind,.string fm.name,.int .i64 fm.cells,.slice b7 fm.params.length W,.slice b6 fm.index.length V,.slice b5 fm.values.length U] 143);have g1:=zQ f.block;have cP:=zC f.block 0 (by simp);simp at cP;have x:=f.own;have a2:lv.ownBlock≠some P:=fun h=>by have:=(x.lt P h).1;omega
          clear J H G A d5 b1 b2 b3 hp ht o D d;have a3:=HA.u;have g5:=zD a3;have f9:acc.length<=101:=by omega
          clear a3;obtain⟨h1,g9,rfl⟩:=zK x;go_wp2_with fail;go_region_law
            ((refine step_append_lies _ (by rfl) _ _ _ (by rfl) (P+1) 145 i0 _ 12 168 underlying74 f5 f4 f3 f2 rfl (by omega) _ acc.length cs.flatten (by rfl) (((x.alloc _).alloc _).drew)
                ⟨w3.heap.size+1,0,none⟩ 1 1 [.slice b4 ts.length T,.int .i64 fm.kind,.string fm.name,.int .i64 fm.cells,.slice b7 fm.params.length W,.slice b6 fm.index.length V,.slice b5 fm.values.length U,.int .i64 0,.int .i64 0,.int .i64 0,.int .i64 0,.int .i64 0] (by rfl) (by rfl)
                (World.news_of_block (cs:=#[.slice b4 ts.length T,.int .i64 fm.kind,.string fm.name,.int .i64 fm.cells,.slice b7 fm.params.length W,.slice b6 fm.index.length V,.slice b5 fm.values.length U,.int .i64 0,.int .i64 0,.int .i64 0,.int .i64 0,.int .i64 0]) (t:=145) (fr:=(0,0)) (iC w3)) (by simp[Value.oneCell'])
                (by omega) (by unfold maxLen;omega) (by omega) (by simp;omega) (w3.heap.size+2) (by simp) ?_;intro gg d9 w4 N y g0 d2;obtain⟨d6,f6⟩:=DG f.block ((Z.alloc (by simp) _).drew) y a2))
          all_goals
            have a6:=f.push (p:=⟨ts,fm,0,0,0⟩) ⟨.slice b4 ts.length T,_,0,0,rfl,a1,a4⟩ ((Z.alloc (by simp) _).drew) N y;have O:=AV f ((Z.alloc (by simp) _).drew) y a0 (by decide) (.slice (some ⟨gg,0,none⟩) (acc.length+1) d9);have HF:=XX a6 O a7;clear a6 O y N f a0 a7 a1 a4 Z x d6 f6 g0 d2 a2 cP;go_wp2_with fail;go_roundw
            case rel=>
              obtain⟨⟨q1,q2⟩,q3,q4⟩:=HF.u;exact⟨k+1,_,_,_,by omega,by go_num,by simp;exact g5.u,HE.u,q1,(fun c hc=>by rcases zd.mp hc with hc | hc;exact f1.u c hc;rw[yN.mp hc];exact⟨rfl,rfl⟩),q3,q4.trans q2⟩
            case measure=>simp[intOf];omega
        · have HE:Hd (Rt.rForms 0 L [Rt.kb]=(k+1,acc)):=by
            refine zD ?_;rw[<-HT.u,d,Rt.rForms,Rt.rdLine,ht];simp only;rw[hp]
          have HB:=zD ((G.trans (D.mono (B':=P) (by have:=o.size;omega))).alloc (by have:=o.size;have:=D.size;omega) (.cells yo 143));clear J H G A D o ht hp d;go_wp2_with fail;go_ret2;have R:=HE.u;rw[<-HL.u]at R;refine⟨HB.u,Or.inr ⟨by rw[R];simp,by rw[R];simp,by have:=HB.u.size;omega⟩⟩
    · have HE:Hd (Rt.rForms 0 L [Rt.kb]=(0,acc)):=by
        refine zD ?_;rw[<-HT.u,zp (by omega),Rt.rForms]
      have d3:¬(k:Int) < (L.length:Int):=by omega
      have HF:=qG M F;clear M z F;go_wp2_with fail;go_ret2;have R:=HE.u;rw[<-HL.u]at R;obtain⟨q1,q2⟩:=HF.u;exact⟨q2,Or.inl ⟨by rw[R],rfl,lv,cs,by rw[R];exact q1,f1.u⟩⟩
theorem en (bs:List Rt.Zx):bs=[]\/∃pre b,bs=pre++[b]:=by
 rcases ZC bs with h | ⟨pre,b,h⟩
 ·exact Or.inl h
 ·exact Or.inr ⟨pre,b,by simpa using h⟩
structure vR (w:World) (S:Nat) (bs:List Rt.Zx) (bv:Value):Prop where
 block:w.heap[S]?=some (.cells #[bv] 181 (0,0))
 own:w.ownsRow (S+1) 212 3 bv bs.length (js bs)
theorem vR.zP (h:vR w S bs bv) (d:Below w.heap.size w w'):vR w' S bs bv:=⟨zU h.block d,yG h.own d⟩
theorem vR.last (h:vR w S (pre++[b]) bv):∃g cap,bv=.slice (some ⟨g,0,none⟩) (pre.length+1) cap/\S < g/\w.cell? ⟨g,pre.length*3,none⟩=some (.int .i64 b.line)/\w.cell? ⟨g,pre.length*3+1,none⟩=some (.int .i64 b.kind)/\w.cell? ⟨g,pre.length*3+2,none⟩=some (.bool b.aB):=by
 have d:=Y5 pre;have o:(js (pre++[b]))[pre.length*3]?=some (.int .i64 b.line):=by rw[kk,<-d];simp
 have k:(js (pre++[b]))[pre.length*3+1]?=some (.int .i64 b.kind):=by rw[kk,<-d];simp
 have j:(js (pre++[b]))[pre.length*3+2]?=some (.bool b.aB):=by rw[kk,<-d];simp
 obtain⟨g,cap,rfl,A,_,z⟩:=yD h.own o;obtain⟨_,_,i,_,_,y⟩:=yD h.own k;obtain⟨_,_,f,_,_,x⟩:=yD h.own j;simp at i f;obtain⟨rfl,_⟩:=i;obtain⟨rfl,_⟩:=f;exact⟨_,cap,by simp,by omega,z,y,x⟩
theorem Kb:Rt.jE (pre++[b])=b:=by simp[Rt.jE]
theorem bu (m:Nat) (h:m+1<=1000):IntKind.i64.wrap ((m:Int)+1-1)=(m:Int):=by
 rw[show (m:Int)+1-1=(m:Int) by omega,yv,yC _ (by omega)]
theorem bw (m:Nat) (h:m+1<=1000):IntKind.i64.wrap (m:Int)=(m:Int):=by
 rw[yv,yC _ (by omega)]
theorem tu (h:vR w S bs bv) (o:bs.length<=1000):Calls Tryz.prog 123 #[.pointer (some ⟨S,0,none⟩),.int .i64 kind] w fun e w'=>e=.returned (.bool (Rt.Yj bs kind))/\Below w.heap.size w w':=by
 have z:=zC h.block 0 (by simp);simp at z;by_cases k0:kind=0
 ·have y:(kind==0)=true:=by simpa using k0
  have d:=zD (show Rt.Yj bs kind=true by simp[Rt.Yj,k0]);clear k0 h;go_enter func123,ntmps123;go_wp2;go_ret;exact⟨by rw[d.u];simp,zI _ _⟩
 have y:(kind==0)=false:=by simpa using k0
 rcases en bs with rfl | ⟨pre,b,rfl⟩
 ·obtain⟨O,cap,rfl⟩:=zK h.own;simp only[qQ]at z;by_cases k1:kind=1
  ·have k:(kind==1)=true:=by simpa using k1
   have d:=zD (show Rt.Yj [] kind=true by simp[Rt.Yj,k1]);clear k0 k1 h;go_enter func123,ntmps123;go_wp2;go_ret;exact⟨by rw[d.u];simp,zI _ _⟩
  have k:(kind==1)=false:=by simpa using k1
  by_cases k2:kind=2
  ·have j:(kind==2)=true:=by simpa using k2
   have d:=zD (show Rt.Yj [] kind=true by simp[Rt.Yj,k2]);clear k0 k1 k2 h;go_enter func123,ntmps123;go_wp2;go_ret;exact⟨by rw[d.u];simp,zI _ _⟩
  have j:(kind==2)=false:=by simpa using k2
  by_cases k3:kind=3
  ·have i:(kind==3)=true:=by simpa using k3
   have d:=zD (show Rt.Yj [] kind=true by simp[Rt.Yj,k3]);clear k0 k1 k2 k3 h;go_enter func123,ntmps123;go_wp2;go_ret;exact⟨by rw[d.u];simp,zI _ _⟩
  have i:(kind==3)=false:=by simpa using k3
  have d:=zD (show Rt.Yj [] kind=false by simp[Rt.Yj,k0,k1,k2,k3]);clear k0 k1 k2 k3 h;go_enter func123,ntmps123;go_wp2;go_ret;exact⟨by rw[d.u];simp,zI _ _⟩
 ·obtain⟨g,cap,rfl,J,N,M,L⟩:=h.last;have f:pre.length+1<=1000:=by simpa using o
  have I:(((pre.length:Int)+1)==0)=false:=by rw[zV];omega
  by_cases k1:kind=1
  ·have k:(kind==1)=true:=by simpa using k1
   have d:=zD (show Rt.Yj (pre++[b]) kind=false by simp[Rt.Yj,k1]);clear k0 k1 h;go_enter func123,ntmps123;go_wp2;go_ret;exact⟨by rw[d.u];simp,zI _ _⟩
  have k:(kind==1)=false:=by simpa using k1
  by_cases k2:kind=2
  ·have j:(kind==2)=true:=by simpa using k2
   have d:=zD (show Rt.Yj (pre++[b]) kind=false by simp[Rt.Yj,k2]);clear k0 k1 k2 h;go_enter func123,ntmps123;go_wp2;go_ret;exact⟨by rw[d.u];simp,zI _ _⟩
  have j:(kind==2)=false:=by simpa using k2
  by_cases k3:kind=3
  ·have i:(kind==3)=true:=by simpa using k3
   have d:=zD (show Rt.Yj (pre++[b]) kind=false by simp[Rt.Yj,k3]);clear k0 k1 k2 k3 h;go_enter func123,ntmps123;go_wp2;go_ret;exact⟨by rw[d.u];simp,zI _ _⟩
  have i:(kind==3)=false:=by simpa using k3
  by_cases k6:kind=6
  ·have x:(kind==6)=true:=by simpa using k6
   have d:=zD (show Rt.Yj (pre++[b]) kind=(decide (b.kind=5) && !b.aB) by simp[Rt.Yj,k6,Kb]);clear k0 k1 k2 k3 k6 h;generalize pre.length=m at *;have H:(0:Int)<=(m:Int):=by omega
   have G:(m:Int) < (m:Int)+1:=by omega
   have F:(m:Int)<=1000:=by omega
   have D:=bu m f;have A:=bw m f;go_enter func123,ntmps123;go_wp2_with fail;go_region_held3 (fun w'=>w'.cell? ⟨S,0,none⟩=some (.slice (some ⟨g,0,none⟩) (m+1) cap)/\w'.cell? ⟨g,m*3,none⟩=some (.int .i64 b.line)/\w'.cell? ⟨g,m*3+1,none⟩=some (.int .i64 b.kind)/\w'.cell? ⟨g,m*3+2,none⟩=some (.bool b.aB)) (go_keep) (fail);go_wp2_with fail
   all_goals
    go_ret;exact⟨by rw[d.u];simp_all,((zI _ _).alloc (zB _) _).drew⟩
  ·have x:(kind==6)=false:=by simpa using k6
   have d:=zD (show Rt.Yj (pre++[b]) kind=true by simp[Rt.Yj,k0,k1,k2,k3,k6]);clear k0 k1 k2 k3 k6 h;go_enter func123,ntmps123;go_wp2;go_ret;exact⟨by rw[d.u];simp,zI _ _⟩
theorem Ek:(Tryz.prog.info? 212).map (fun i=>(i.zero,i.size,i.bytes))=some (some (.agg #[.int .i64 0,.int .i64 0,.bool false]),3,24):=by kernel_rfl
def mV (bs:List Rt.Zx) (S:Nat) (bv:Value) (w:World) (e:Ending) (w':World):Prop:=e=.returned (.tuple #[])/\∃bv',vR w' S bs bv'/\ZJ S bv bv' w w'
theorem vR.put {bs':List Rt.Zx} {bv':Value} (h:vR w S bs bv) (f:Below w.heap.size w wx) (x:wx.grownBy w1 row) (j:row=bv.ownBlock) (o:w1.ownsRow (S+1) 212 3 bv' bs'.length (js bs')) (A:∀g,bv'.ownBlock=some g->bv.ownBlock=some g\/w.heap.size<=g):vR (w1.setCell ⟨S,0,none⟩ bv') S bs' bv'/\ZJ S bv bv' w (w1.setCell ⟨S,0,none⟩ bv'):=by
 subst j;have z:=zQ h.block;have y:∀k,k<=S->some k≠bv.ownBlock:=fun k hk e=>by have:=(h.own.lt k e.symm).1;omega
 have d:∀k,k < w.heap.size->some k≠bv.ownBlock->w1.heap[k]?=w.heap[k]?:=fun k hk hv=>(x.block k (zX hk f.size) hv).trans (f.block k hk);have i:∀k,k≠S->(w1.setCell ⟨S,0,none⟩ bv').heap[k]?=w1.heap[k]?:=fun k hk=>zO w1 ⟨S,0,none⟩ _ k hk;refine⟨⟨?_,qL o (by show S < S+1;omega) _⟩,⟨x.os.trans f.os,x.tape.trans f.tape,x.output.trans f.output,?_,fun k hk h1 h2=>(i k h1).trans (d k hk h2),A⟩⟩
 ·have:=zf ((d S z (y S (zB _))).trans h.block) 0 bv';simpa using this
 ·have:=x.size;have:=f.size;simp[World.setCell];omega
theorem nP:w.grownBy w row:=⟨rfl,rfl,rfl,zB _,fun _ _ _=>rfl⟩
theorem CY (h:vR w S bs bv) (j:Below w.heap.size w wx) (k:wx.grownBy w1 row) (d:row=bv.ownBlock):w1.cell? ⟨S,0,none⟩=some bv/\w1.frozen? ⟨S,0,none⟩=false:=by
 subst d;have f:=zQ h.block;have i:w1.heap[S]?=some (.cells #[bv] 181 (0,0)):=by
  rw[k.block S (zX f j.size) (fun e=>by have:=(h.own.lt S e.symm).1;omega),j.block S f];exact h.block
 exact⟨zC i 0 (by simp),zS i 0⟩
theorem hH {a b c:Value}:∀j u,[a,b,c][j]?=some u->(w.alloc (.cells #[a,b,c] t)).cell? ((⟨w.heap.size,0,none⟩:Addr).add j)=some u:=by
 intro j u d
 match j,d with
 | 0,d=>simp at d;subst d;simp[Addr.add]
 | 1,d=>simp at d;subst d;simp[Addr.add]
 | 2,d=>simp at d;subst d;simp[Addr.add]
 | j+3,d=>simp at d
theorem Dg:(js (pre++[b])).set (pre.length*3+2) (.bool true)=js (pre++[⟨b.line,b.kind,true⟩]):=by
 have d:=Y5 pre;rw[kk,kk,<-d];rw[J5,zA (by omega)];simp
theorem AK (n:Nat) (d:Int) (h:vR w S bs bv) (A:bs.length<=1000) (hk:d=3\/d=5\/d=7):Calls Tryz.prog 126 #[.pointer (some ⟨S,0,none⟩),.int .i64 n,.int .i64 d] w (mV (bs++[⟨n,d,false⟩]) S bv w):=by
 obtain⟨H,y,x,o,k⟩:=yi Ek;have F:=zQ h.block;have J:=zC h.block 0 (by simp);simp at J;have j:=h.own;have G:=zD h;obtain⟨M,cap,rfl⟩:=zK h.own;clear h;rcases hk with rfl | rfl | rfl
 all_goals
  go_enter func126,ntmps126;go_wp2_with (at_builtin;refine wpList_append_lies _ rfl (.tmp 15) (.tmp 19) 179 rfl (S+1) 212 H _ 3 24 underlying179 y x o k rfl (by decide) _ _ _ rfl (j.alloc _) ⟨w.heap.size,0,none⟩ 1 1 [.int .i64 n,.int .i64 _,.bool false] rfl rfl (hH) (by simp[Value.oneCell']) (by omega) (by unfold maxLen;omega) (by omega) (by simp;omega) (w.heap.size+1) (by simp) ?_);intro g cap' w1 i f hat z;obtain⟨D,I⟩:=CY G.u ((zI _ _).alloc (zB _) _) f rfl;have L:=zD (G.u.put (bs':=bs++[⟨n,_,false⟩]) ((zI _ _).alloc (zB _) _) f rfl (by rw[kk,ze];exact i) (fun g' hg'=>by simp[Value.ownBlock]at hg';subst hg';rcases hat with h | h;exact Or.inl h;exact Or.inr (by omega)));clear i f hat j;go_wp2_with fail;go_end0;exact⟨rfl,_,L.u⟩
theorem AL (n:Nat) (h:vR w S (pre++[b]) bv) (f:pre.length+1<=1000):Calls Tryz.prog 126 #[.pointer (some ⟨S,0,none⟩),.int .i64 n,.int .i64 6] w (mV (pre++[⟨b.line,b.kind,true⟩]) S bv w):=by
 have G:=zC h.block 0 (by simp);simp at G;obtain⟨g,cap,rfl,I,N,M,L⟩:=h.last;have d:=h.own;simp only[ze,yE,qQ,xW]at d;have J:=d.frozenAt (pre.length*3+2);have H:Hd (vR ((w.setCell ⟨g,pre.length*3+2,none⟩ (.bool true)).drew) S (pre++[⟨b.line,b.kind,true⟩]) (.slice (some ⟨g,0,none⟩) (pre.length+1) cap)/\ZJ S (.slice (some ⟨g,0,none⟩) (pre.length+1) cap) (.slice (some ⟨g,0,none⟩) (pre.length+1) cap) w ((w.setCell ⟨g,pre.length*3+2,none⟩ (.bool true)).drew)):=by
  refine zD ?_;obtain⟨j,i⟩:=d.stored (pre.length*3+2) (.bool true);refine⟨⟨?_,?_⟩,⟨rfl,rfl,rfl,i.size,fun k hk _ h2=>i.block k hk (by simpa[Value.ownBlock] using h2),fun _ h=>Or.inl h⟩⟩
  ·show (w.setCell ⟨g,pre.length*3+2,none⟩ (.bool true)).heap[S]?=_;rw[zO w ⟨g,pre.length*3+2,none⟩ _ S (by show S≠g;omega)];exact h.block
  ·rw[Dg]at j;rw[ze];exact World.ownsRow.drew j
 clear h d;generalize pre.length=m at *;have D:(0:Int)<=(m:Int):=by omega
 have A:(m:Int) < (m:Int)+1:=by omega
 have z:(m:Int)<=1000:=by omega
 have y:=bu m f;have x:=bw m f;have o:(0:Int) < (m:Int)+1:=by omega
 have F:¬g=S:=by omega
 go_enter func126,ntmps126;go_wp2_with fail;go_region_held3 (fun w'=>w'.cell? ⟨S,0,none⟩=some (.slice (some ⟨g,0,none⟩) (m+1) cap)) (first | go_keep | (simp[xD, *];omega)) (fail);go_wp2_with fail;go_end0;exact⟨rfl,_,H.u⟩
theorem CK (n:Nat) (h:vR w S (pre++[b]) bv) (f:pre.length+1<=1000):Calls Tryz.prog 126 #[.pointer (some ⟨S,0,none⟩),.int .i64 n,.int .i64 4] w (mV pre S bv w):=by
 have I:=zC h.block 0 (by simp);have M:=zS h.block 0;simp at I;obtain⟨g,cap,rfl,L,H,G,F⟩:=h.last;have hown:=h.own;simp only[ze,yE,qQ,xW]at hown;have j:pre.length+1<=cap:=by
  rcases hown.2 with⟨i,_⟩| ⟨g',cap',cur,i,_,_,hn,_⟩
  ·cases i
  ·simp at i;omega
 have d:w.ownsRow (S+1) 212 3 (.slice (some ⟨g,0,none⟩) pre.length cap) pre.length (js pre):=by
  rw[kk]at hown;exact ownsRow_pop (Y5 pre) hown
 have J:=zD (h.put (bs':=pre) (below_drewN w 1) (nP) rfl d (fun g' hg'=>Or.inl hg'));clear h hown d H G F;generalize pre.length=m at *;have D:(0:Int)<=(m:Int):=by omega
 have A:(m:Int) < (m:Int)+1:=by omega
 have z:(m:Int)<=1000:=by omega
 have y:=bu m f;have x:=bw m f;have o:(0:Int) < (m:Int)+1:=by omega
 have k:(m:Int)<=(cap:Int):=by omega
 go_enter func126,ntmps126;go_wp2_with fail;go_region_law (fail)
 all_goals
  go_wp2_with fail;go_end0;exact⟨rfl,_,J.u⟩
theorem lL (n:Nat) (d:Int) (h:vR w S [] bv) (hk:d=4\/d=6):Calls Tryz.prog 126 #[.pointer (some ⟨S,0,none⟩),.int .i64 n,.int .i64 d] w (mV [] S bv w):=by
 have f:=zC h.block 0 (by simp);simp at f;have i:=zD h;obtain⟨j,cap,rfl⟩:=zK h.own;simp only[qQ]at f;clear h;rcases hk with rfl | rfl
 all_goals
  go_enter func126,ntmps126;go_wp2_with fail;go_end0;exact⟨rfl,_,i.u,ZJ.refl _ _ _⟩
theorem sL (n:Nat) (d:Int) (h:vR w S bs bv) (o:¬d=3) (j:¬d=5) (f:¬d=7) (i:¬d=6) (k:¬d=4):Calls Tryz.prog 126 #[.pointer (some ⟨S,0,none⟩),.int .i64 n,.int .i64 d] w (mV bs S bv w):=by
 have x:=zD h;clear h;have F:(d==3)=false:=by simpa using o
 have A:(d==5)=false:=by simpa using j
 have y:(d==7)=false:=by simpa using f
 have z:(d==6)=false:=by simpa using i
 have D:(d==4)=false:=by simpa using k
 clear o j f i k;go_enter func126,ntmps126;go_wp2_with fail;go_end0;exact⟨rfl,_,x.u,ZJ.refl _ _ _⟩
theorem CL (h:vR w S bs bv) (d:bs.length<=1000):Calls Tryz.prog 126 #[.pointer (some ⟨S,0,none⟩),.int .i64 n,.int .i64 kind] w (mV (Rt.qK bs n kind) S bv w):=by
 by_cases ho:kind=3\/kind=5\/kind=7
 ·rw[Rt.qK,zE ho];exact AK n kind h d ho
 by_cases h6:kind=6
 ·subst h6;rcases en bs with rfl | ⟨pre,b,rfl⟩
  ·exact lL n 6 h (Or.inr rfl)
  ·have e:Rt.qK (pre++[b]) n 6=pre++[⟨b.line,b.kind,true⟩]:=by simp[Rt.qK,Kb]
   rw[e];exact AL n h (by simpa using d)
 by_cases h4:kind=4
 ·subst h4;rcases en bs with rfl | ⟨pre,b,rfl⟩
  ·exact lL n 4 h (Or.inl rfl)
  ·have e:Rt.qK (pre++[b]) n 4=pre:=by simp[Rt.qK]
   rw[e];exact CK n h (by simpa using d)
 ·have e:Rt.qK bs n kind=bs:=by simp[Rt.qK,ho,h6,h4]
  rw[e];exact sL n kind h (fun x=>ho (Or.inl x)) (fun x=>ho (Or.inr (Or.inl x))) (fun x=>ho (Or.inr (Or.inr x))) h6 h4
end
end Go.Proofs.YthleadfkfnnadaaGreat
