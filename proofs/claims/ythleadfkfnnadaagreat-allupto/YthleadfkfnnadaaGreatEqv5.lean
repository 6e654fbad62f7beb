/- What stands in an expression; lists of expressions; the word to. -/
import Derived.Test.YthleadfkfnnadaaGreatMcH
import Derived.Test.YthleadfkfnnadaaGreatRows
import Derived.Test.YthleadfkfnnadaaGreatChecked
import Derived.ProofKit
import Derived.OpenShut
import Derived.SizedLaws
import Derived.Carry
import Derived.Deep.Slices
import Derived.Deep.CondSized
set_option maxHeartbeats 4000000
set_option maxRecDepth 100000
set_option linter.all false
namespace Go.Proofs.YthleadfkfnnadaaGreat
open Value renaming int->J,slice->I,string->O,pointer->H,bool->A,agg->L,tuple->E
open IntKind renaming i64->U
open Option renaming none->Z,some->Q
open Bool renaming true->D
open List renaming length->G
open Ending renaming returned->T
open Obj renaming cells->V
open Rf Go.Proofs.Tryz
variable {held:Bool} {l o x r:Ia} {lo hi l1 h1:Int} {b a q p sg t u c:Ib} {vs cs:List Value} {S base n len cap i j k f K:Nat} {a0:Option Addr} {pv lv v:Value} {w w' W:World}
section
open Go.RowKit
structure RunA where
 fin:Int
 steps:Int
 out:List Int
 err:Int
 at_:Int
def IQ (r:RunA) (w:World) (e:Ending) (w':World):Prop:=Below w.heap.size w w'/\∃v,e=T (E #[L #[J U r.fin,J U r.steps,v],J U r.err,J U r.at_])/\w'.ownsRow w.heap.size 3 1 v (G r.out) (ints r.out)
def IG (r:RunA) (w:World) (e:Ending) (w':World):Prop:=Below w.heap.size w w'/\∃v,e=T (E #[J U r.fin,J U r.steps,v,J U r.err,J U r.at_])/\kA w' v r.out
def RanG (S:Nat) (pv lv:Value) (vs:List Value) (w:World) (e:Ending) (w':World):Prop:=e=T (A D)/\Below S w w'/\(∀k,k < w.heap.size->k≠S->lv.ownBlock≠Q k->w'.heap[k]?=w.heap[k]?)/\∃lv' vs',LG w' S pv lv' (vs++vs')/\G vs'<=2/\(∀i (h:i < G vs') k,vs'[i].ownBlock=Q k->w.heap.size<=k)/\∀k,lv'.ownBlock=Q k->lv.ownBlock=Q k\/w.heap.size<=k
theorem RanG.after {wa:World} {e:Ending} (j:Below w.heap.size w wa) (G:S < w.heap.size) (h:RanG S pv lv vs wa e w'):RanG S pv lv vs w e w':=by
 obtain⟨D,A,z,f,d,y,x,o,h7⟩:=h;have F:=j.size;refine⟨D,(j.mono (by omega)).trans A,fun k hk a b=>(z k (by omega) a b).trans (j.block k hk),f,d,y,x,fun i hi k e=>by have:=o i hi k e;omega,fun k e=>?_⟩;rcases h7 k e with e | e
 ·exact Or.inl e
 ·exact Or.inr (by omega)
theorem row_ints2 {B:Nat} {l:List Int} (h:w.ownsRow B 3 1 v (G l) (ints l)):kA w v l:=by
 obtain⟨o,cap,rfl⟩:=zK h;by_cases e:l=[]
 ·exact⟨o,cap,rfl,Or.inl e⟩
 ·have i:0 < G l:=kO.mpr e;obtain⟨g,c,f,_⟩:=int_cell h i;injection f with h1 h2 h3;subst h1 h3;refine⟨Q ⟨g,0,Z⟩,cap,rfl,Or.inr ⟨g,0,rfl,fun j hj=>?_⟩⟩;obtain⟨g',x,d,k⟩:=int_cell h hj;injection d with h1 _ _;injection h1 with h1;injection h1 with h1;subst h1;rw[xW];exact k
theorem ran_ref (r:RunA) (s:Ia) {l:List Int} (d:Int) (h4:G r.out<=1000) (HP:∀(w:World) (v:Value),kA w v l->Calls Tryz.prog 25 #[O s,v,J U d] w (IQ r w)) (HR:∀(w:World) (v:Value),kA w v l->Calls Tryz.prog 27 #[O s,v,J U d] w (IG r w)) {k b c:Value} (h:LG w S pv lv vs) (hi:kA w v l) (hl:G l<=17592186044416) (g3:(G vs+2)*24<=140737488355328):Calls Tryz.prog 14 #[H (Q ⟨S,0,Z⟩),L #[k,J U d,b,c,O s,v]] w (RanG S pv lv vs w):=by
 have HH:=zD h;have HI:=zD hi;have g5:=zQ h.block;have g1:=zD HP;have g0:=zD HR;obtain⟨ad,ca,rfl⟩:=hi.form;have f3:=(zI w.heap.size w).alloc (zB _) (V #[k,J U d,b,c,O s,I ad (G l) ca] 32);have d9:=zN w (V #[k,J U d,b,c,O s,I ad (G l) ca] 32);have j:=qG f3 d9;have HC:Hd (∀w',Below (w.alloc (V #[k,J U d,b,c,O s,I ad (G l) ca] 32)).heap.size (w.alloc (V #[k,J U d,b,c,O s,I ad (G l) ca] 32)) w'->w'.cell? ⟨w.heap.size,1,Z⟩=Q (J U d)/\w'.cell? ⟨w.heap.size,4,Z⟩=Q (O s)/\w'.cell? ⟨w.heap.size,5,Z⟩=Q (I ad (G l) ca)):=zD (fun w' hb=>by
  have hh:=zU j.u.2 hb;exact⟨zC hh 1 (by simp),zC hh 4 (by simp),zC hh 5 (by simp)⟩)
 go_enter func14,ntmps14;go_wp2_with fail;refine(gO (HI.u.zP j.u.1) hl).mono ?_;generalize w.alloc (V #[k,J U d,b,c,O s,I ad (G l) ca] 32)=wa at *;rintro e w1 ⟨b9,g,h5,rfl,b7⟩;obtain⟨c1,c4,c5⟩:=HC.u _ b9;have g4:=zQ b7;have a3:=qG b9 b7;go_wp2_with fail;refine(g1.u _ _ (V0 a3.u.2)).mono ?_;rintro e w2 ⟨b0,v2,rfl,b3⟩;obtain⟨a2,d2,rfl⟩:=zK b3;have a1:=XX (a3.u.1.trans (b0.mono (B':=wa.heap.size) a3.u.1.size)) (zU a3.u.2 b0) b3;have b2:=b0.size;have h3:=zQ j.u.2;have N:=(zI w2.heap.size w2).alloc (zB _) (V #[J U r.fin,J U r.steps,I a2 (G r.out) d2] 52);have d8:=zN w2 (V #[J U r.fin,J U r.steps,I a2 (G r.out) d2] 52);obtain⟨e1,e4,e5⟩:=HC.u _ (a1.u.1.trans (N.mono (B':=wa.heap.size) (by omega)));have x:=gN (a1.u.1.trans (N.mono (B':=wa.heap.size) (by omega))) (zU a1.u.2.1 N) (yG a1.u.2.2 N) d8;go_wp2_with fail;refine(lA g x.u.2.1 (HI.u.zP (j.u.1.trans (x.u.1.mono (B':=w.heap.size) (by omega)))) hl).mono ?_;generalize w2.alloc (V #[J U r.fin,J U r.steps,I a2 (G r.out) d2] 52)=wb at *;rintro e w4 ⟨rfl,a0⟩;have a8:=x.u.1.trans (a0.mono (B':=wa.heap.size) x.u.1.size);obtain⟨e1,e4,e5⟩:=HC.u _ a8;have F:=gN a8 (zU x.u.2.1 a0) (yG x.u.2.2.1 a0) (zU x.u.2.2.2 a0);go_wp2_with fail;refine(g0.u _ _ (HI.u.zP (j.u.1.trans (F.u.1.mono (B':=w.heap.size) (by omega))))).mono ?_;rintro e w5 ⟨W,v5,rfl,b6⟩;obtain⟨a5,d5,rfl⟩:=b6.form;have b8:=F.u.1.trans (W.mono (B':=wa.heap.size) F.u.1.size);have c0:=zU F.u.2.2.2 W;obtain⟨r0,r1,r2⟩:=yb c0;have o:=DA b8 (zU F.u.2.1 W) (yG F.u.2.2.1 W) c0 b6;go_wp2_with fail;refine(oB (row_ints2 o.u.2.2.1) o.u.2.2.2.2 (by omega)).mono ?_;rintro e w6 ⟨rfl,R⟩;have a7:=o.u.1.trans (R.mono (B':=wa.heap.size) o.u.1.size);have a9:=zU o.u.2.1 R;have d7:=yG o.u.2.2.1 R;have f5:=zU o.u.2.2.2.1 R;have f8:=HH.u.zP (j.u.1.trans (a7.mono (B':=w.heap.size) (by omega)));have b5:∀q,lv.ownBlock=Q q->q < w.heap.size:=fun q hq=>(HH.u.own.lt q hq).2;have b1:∀k (hk:k < G vs) q,vs[k].ownBlock=Q q->q < w.heap.size:=fun k hk q hq=>(HH.u.lt k hk q hq).2;have f:=hd7 a7 a9 d7 f5 f8 b5 b1;go_wp2_with fail;refine(oT f.u.2.2.2.2.1 (lz f.u.2.1 (by omega) (by unfold maxLen;omega)) (fun k hk q hq e=>by
  have:=f.u.2.2.2.2.2.2 k hk q hq;simp[Value.ownBlock]at e;omega) (by omega)).mono ?_
 rintro e w7 ⟨rfl,f2,a6,g9,v7,f7,d4,b4⟩;have a9:=zQ f.u.2.1;have y:∀q,w1.heap.size<=q->q < w6.heap.size->w7.heap[q]?=w6.heap[q]?:=fun q hq1 hq2=>a6 q hq2 (by omega) (fun e=>by have:=f.u.2.2.2.2.2.1 q e;omega) (fun e=>by simp[Value.ownBlock]at e;omega);have M:w7.ownsRow w1.heap.size 3 1 (I a2 (G r.out) d2) (G r.out) (ints r.out):=by
  obtain⟨q1,q2⟩:=f.u.2.2.1;refine⟨q1,?_⟩;rcases q2 with q2 | ⟨gq,cap,cur,d6,hgB,hh,rr⟩
  ·exact Or.inl q2
  ·exact Or.inr ⟨gq,cap,cur,d6,hgB,by rw[y gq hgB (zQ hh)];exact hh,rr⟩
 have z:w7.heap[w2.heap.size]?=Q (V #[J U r.fin,J U r.steps,I a2 (G r.out) d2] 52 (0,0)):=by rw[y _ b2 (zQ f.u.2.2.2.1)];exact f.u.2.2.2.1
 obtain⟨r0,r1,r2⟩:=yb z;have f9:∀k,k < w.heap.size->k≠S->lv.ownBlock≠Q k->w7.heap[k]?=w.heap[k]?:=fun k hk h1 h2=>by
  rw[a6 k (by omega) h1 h2 (fun e=>by simp[Value.ownBlock]at e;omega),f.u.1.block k (by omega),j.u.1.block k hk]
 have g2:=zD f9;have HB7:=hd7 f2 f7 d4 M z b4 a9;go_wp2_with fail;refine(oT HB7.u.2.1 (yn HB7.u.2.2.2.1 (by omega)) (fun k hk q hq e=>by
  have h1:=(HB7.u.2.2.2.1.lt q e).1;by_cases hkv:k < G vs
  ·rw[xI hkv]at hq;have:=f.u.2.2.2.2.2.2 k hkv q hq;omega
  ·have:k=G vs:=by simp at hk;omega
   subst this;rw[xm (zB _)]at hq;simp only[jC,zv]at hq;rw[HB7.u.2.2.1]at hq;simp[Value.ownBlock]at hq;omega) (by simp;omega)).mono ?_
 rintro e w8 ⟨rfl,f1,a4,d0,v8,f6,d3,hlv8⟩;have f4:w8.heap[w2.heap.size]?=Q (V #[J U r.fin,J U r.steps,I a2 (G r.out) d2] 52 (0,0)):=by
  have z:=HB7.u.2.2.2.2.1;rw[a4 _ (zQ z) (by omega) (fun e=>by
   rcases HB7.u.2.2.2.2.2.1 _ e with h | h
   ·have:=f.u.2.2.2.2.2.1 _ h;omega
   ·have:=zQ f.u.2.2.2.1;omega) (fun e=>by
   obtain⟨c,hc⟩:=yW HB7.u.2.2.2.1 e;rw[z]at hc;injection hc with hc;injection hc with _ hc;exact absurd hc (by decide))]
  exact z
 obtain⟨g8,g7,g6⟩:=yb f4;have hF:RanG S pv lv vs w (T (A D)) w8:=by
  have M:=HB7.u.2.2.2.1;have h0:=f.u.1.size;refine⟨rfl,((j.u.1.trans (f.u.1.mono (B':=w.heap.size) (by omega))).mono (B':=S) (by omega)).trans (HB7.u.1.trans f1),fun k hk h1 h2=>?_,d0,[v7,v8],by simpa using f6,by simp,fun i hi k e=>?_,fun k e=>?_⟩
  ·have d1:=HB7.u.1.size;rw[a4 k (by omega) h1 (fun e=>?_) (fun e=>?_),g2.u k hk h1 h2]
   ·rcases HB7.u.2.2.2.2.2.1 _ e with h | h
    ·exact h2 h
    ·omega
   ·have:=(M.lt k e).1;omega
  ·have f0:i=0\/i=1:=by simp at hi;omega
   rcases f0 with rfl | rfl
   ·simp only[zv]at e;rw[HB7.u.2.2.1]at e;simp[Value.ownBlock]at e;omega
   ·simp only[yH,zv]at e;rw[d3]at e;have:=(M.lt k e).1;omega
  ·rcases hlv8 k e with h | h
   ·rcases HB7.u.2.2.2.2.2.1 _ h with h | h
    ·exact Or.inl h
    ·exact Or.inr (by omega)
   ·have d1:=HB7.u.1.size;exact Or.inr (by omega)
 have HF:=zD hF;generalize r.fin=rf at *;generalize r.steps=rs at *;generalize r.err=re at *;generalize r.at_=ra at *;go_wp2_with (go_at_call 20;refine(K3 re).mono ?_;rintro e w' ⟨rfl,rfl⟩)
 all_goals
  go_ret;exact⟨by first | rfl | simp,HF.u.2⟩
structure rS where
 kind:Int
 a:Int
 b:Int
 c:Int
 s:Ia
 v:Value
 l:List Int
def iO (o:rS):Value:=L #[J U o.kind,J U o.a,J U o.b,J U o.c,O o.s,o.v]
structure BX (w:World) (v:Value) (ops:List rS):Prop where
 cells:∃ad cap,v=.slice ad ops.length cap/\(ops=[]\/∃g o,ad=some ⟨g,o,none⟩/\∀j (h:j < ops.length),w.cell? ⟨g,o+j*6,none⟩=some (.int .i64 ops[j].kind)/\w.cell? ⟨g,o+j*6+1,none⟩=some (.int .i64 ops[j].a)/\w.cell? ⟨g,o+j*6+2,none⟩=some (.int .i64 ops[j].b)/\
  w.cell? ⟨g,o+j*6+3,none⟩=some (.int .i64 ops[j].c)/\w.cell? ⟨g,o+j*6+4,none⟩=some (.string ops[j].s)/\w.cell? ⟨g,o+j*6+5,none⟩=some ops[j].v)
 str:∀op∈ops,op.s.size<=maxLen
 lst:∀op∈ops,kA w op.v op.l/\op.l.length<=17592186044416
 FN:∀op∈ops,(-9223372036854775808<=op.a/\op.a<=9223372036854775807)/\(-9223372036854775808<=op.b/\op.b<=9223372036854775807)/\(-9223372036854775808<=op.c/\op.c<=9223372036854775807)
def GQ (w:World) (kg:Nat) (ks:List Int):Prop:=∀j (h:j < G ks),w.cell? ⟨kg,j,Z⟩=Q (J U ks[j])
structure FT (w0:World) (S:Nat) (ops:List rS) (ks:List Int) (I:World->Nat->Prop):Prop where
 zP:∀w w' k,I w k->Below w.heap.size w w'->I w' k
 skip:∀w k,k < ops.length->I w k->I w (k+1)
 lt:∀w k,I w k->S < w.heap.size
 step:∀w k (hk:k < ops.length),ops[k].kind∈ks->I w k->Below S w0 w->Calls Tryz.prog 10 #[.pointer (some ⟨S,0,none⟩),iO ops[k]] w fun e w'=>e=.returned (.bool true)/\Below S w w'/\I w' (k+1)
 looks:∀w k,k<=ops.length->I w k->Calls Tryz.prog 11 #[.pointer (some ⟨S,0,none⟩)] w fun e w'=>e=.returned (.bool true)/\Below w.heap.size w w'
theorem AB {ops:List rS} {ks:List Int} {kg:Nat} (I:World->Nat->Prop) (h:BX w v ops) (hk:GQ w kg ks) (a5:G ks<=100) (a2:G ops<=140737488355328) (h0:∀w',w'.heap[w.heap.size]?=Q (V #[.slice Z 0 0,.slice Z 0 0] 30 (0,0))->w'.heap.size=w.heap.size+1->I w' 0) (hP:FT w w.heap.size ops ks I):Calls Tryz.prog 9 #[v,.slice (Q ⟨kg,0,Z⟩) (G ks) (G ks)] w fun e w'=>e=T (A D)/\Below w.heap.size w w':=by
 have HH:=zD h;have HK:=zD hk;have HPP:=zD hP;obtain⟨ad,cap,rfl,_⟩:=h.cells;have HA:=zD (h0 _ (zN w (V #[.slice Z 0 0,.slice Z 0 0] 30)) (by simp));clear h hk hP h0;go_enter func9,ntmps9;go_wp2;go_loopw [6] (fun i wr=>∃(k:Nat),k<=G ops/\i=J U k/\I wr k/\Below w.heap.size w wr) (fun i _=>G ops-(intOf i).toNat)
 case atStart=>exact⟨0,zo _,rfl,HA.u,(zI _ _).alloc (zB _) _⟩
 case round=>
  obtain⟨k,a3,rfl,hL,R⟩:=hrel;have HL:=qG hL R;clear hL R;by_cases hlt:k < G ops
  ·have N:(k:Int) < (G ops:Int):=by omega
   have a6:(0:Int)<=(k:Int):=by omega
   obtain⟨a7,cap',he,hcells⟩:=HH.u.cells;simp at he;obtain⟨rfl,rfl⟩:=he;rcases hcells with hnil | ⟨g,o,hado,hcells⟩
   ·rw[hnil]at hlt;simp at hlt
   subst hado;have HC:Hd (∀w',Below w.heap.size w w'->w'.cell? ⟨g,o+k*6,Z⟩=Q (J U ops[k].kind)/\w'.cell? ⟨g,o+k*6+1,Z⟩=Q (J U ops[k].a)/\w'.cell? ⟨g,o+k*6+2,Z⟩=Q (J U ops[k].b)/\w'.cell? ⟨g,o+k*6+3,Z⟩=Q (J U ops[k].c)/\w'.cell? ⟨g,o+k*6+4,Z⟩=Q (O ops[k].s)/\w'.cell? ⟨g,o+k*6+5,Z⟩=Q ops[k].v):=zD (fun w' hb=>
    let ⟨h0,h1,h2,h3,h4,h5⟩:=hcells k hlt;⟨cell_later hb h0,cell_later hb h1,cell_later hb h2,cell_later hb h3,cell_later hb h4,cell_later hb h5⟩);have a1:=zD (show ∀w',ops[k].kind∈ks->I w' k->Below w.heap.size w w'->_ from fun w' h1 h2 h3=>HPP.u.step w' k hlt h1 h2 h3);have M:iO ops[k]=L #[J U ops[k].kind,J U ops[k].a,J U ops[k].b,J U ops[k].c,O ops[k].s,ops[k].v]:=rfl;rw[M]at a1;clear hcells M;generalize ops[k].kind=kd at *;generalize ops[k].a=oa at *;generalize ops[k].b=ob at *;generalize ops[k].c=oc at *;generalize ops[k].s=os at *;generalize ops[k].v=ol at *;go_wp2_with fail;go_loopw [7,8] (fun inb j wr2=>∃q:Nat,q<=G ks/\j=J U q/\inb=A ((ks.take q).any (fun x=>kd==x))/\I wr2 k/\Below w.heap.size w wr2) (fun _ j _=>G ks-(intOf j).toNat)
   case atStart=>exact⟨0,zo _,rfl,by simp,HL.u.1,HL.u.2⟩
   case round=>
    obtain⟨q,hq,rfl,rfl,f,d⟩:=hrel;obtain⟨c0,c1,c2,c3,c4,c5⟩:=HC.u _ d;have HL2:=qG f d;by_cases hql:q < G ks
    ·have H:(q:Int) < (G ks:Int):=by omega
     have a4:(0:Int)<=(q:Int):=by omega
     have cK:=cell_later d (HK.u q hql);have HT:=zD (show ((ks.take (q+1)).any (fun x=>kd==x))=(((ks.take q).any (fun x=>kd==x))|| (kd==ks[q])) by rw[kI,zJ hql,List.any_append,Option.toList_some,vw,bn,Bool.or_false]);clear f d c1 c2 c3 c4 c5;generalize ks[q]=kx at *;generalize (ks.take q).any (fun x=>kd==x)=ib at *;cases ib with
     | true=>
      go_wp2_with fail;go_region;go_wp2;go_roundw
      ·exact⟨q+1,by omega,by go_num,by rw[HT.u];first | rfl | simp,HPP.u.zP _ _ _ HL2.u.1 (zh _),HL2.u.2.trans ((zh _).mono HL2.u.2.size)⟩
      ·simp[intOf];omega
     | false=>
      go_wp2_with fail;go_region_held3 (fun w'=>w'.cell? ⟨kg,q,Z⟩=Q (J U kx)/\w'.cell? ⟨g,o+k*6,Z⟩=Q (J U kd)) (go_keep) (fail);go_wp2;go_roundw
      ·exact⟨q+1,by omega,by go_num,by rw[HT.u];first | rfl | simp,HPP.u.zP _ _ _ HL2.u.1 (zh _),HL2.u.2.trans ((zh _).mono HL2.u.2.size)⟩
      ·simp[intOf];omega
    ·have H:¬(q:Int) < (G ks:Int):=by omega
     have z:ks.take q=ks:=yw (by omega);rw[z];cases hz:ks.any (fun x=>kd==x)with
     | false=>
      clear f d c0 c1 c2 c3 c4 c5 z;go_wp2;go_roundw
      ·exact⟨k+1,by omega,by go_num,HPP.u.skip _ k hlt HL2.u.1,HL2.u.2⟩
      ·simp[intOf];omega
     | true=>
      have HM:=zD (show kd∈ks by simpa using hz);clear f d hz z;go_wp2_with fail;refine(a1.u _ HM.u HL2.u.1 HL2.u.2).mono ?_;rintro e w3 ⟨rfl,W,a0⟩;have y:=qG a0 (HL2.u.2.trans W);clear a0 W c0 c1 c2 c3 c4 c5;go_wp2_with fail;refine(HPP.u.looks _ (k+1) (by omega) y.u.1).mono ?_;rintro e w4 ⟨rfl,F⟩;have HL4:=qG (HPP.u.zP _ _ _ y.u.1 F) (y.u.2.trans (F.mono y.u.2.size));clear F;go_wp2;go_roundw
      ·exact⟨k+1,by omega,by go_num,HL4.u.1,HL4.u.2⟩
      ·simp[intOf];omega
  ·have N:¬(k:Int) < (G ops:Int):=by omega
   go_wp2;go_ret;exact⟨rfl,HL.u.2⟩
theorem BX.zP {w w':World} {v:Value} {ops:List rS} (h:BX w v ops) (d:Below w.heap.size w w'):BX w' v ops:=by
 obtain⟨⟨x,cap,rfl,h⟩,k,f,i⟩:=h;refine⟨⟨x,cap,rfl,?_⟩,k,fun op ho=>⟨(f op ho).1.zP d,(f op ho).2⟩,i⟩;rcases h with h | ⟨g,o,rfl,h⟩
 ·exact Or.inl h
 ·exact Or.inr ⟨g,o,rfl,fun j hj=>let ⟨h0,h1,k,f,i,h5⟩:=h j hj;⟨cell_later d h0,cell_later d h1,cell_later d k,cell_later d f,cell_later d i,cell_later d h5⟩⟩
structure RunsAs (r:Ia->List Int->Int->RunA):Prop where
 VJ:∀s l fuel,(r s l fuel).out.length<=1000
 prog:∀(s:Ia) (l:List Int) (fuel:Int) (w:World) (v:Value),s.size<=maxLen->kA w v l->Calls Tryz.prog 25 #[.string s,v,.int .i64 fuel] w (IQ (r s l fuel) w)
 doc:∀(s:Ia) (l:List Int) (fuel:Int) (w:World) (v:Value),s.size<=maxLen->kA w v l->Calls Tryz.prog 27 #[.string s,v,.int .i64 fuel] w (IG (r s l fuel) w)
theorem step_run {r:Ia->List Int->Int->RunA} (A:RunsAs r) {op:rS} (F:op.kind=3) (h:LG w S pv lv vs) (x:kA w op.v op.l) (D:G op.l<=17592186044416) (y:op.s.size<=maxLen) (j:(G vs+2)*24<=140737488355328):Calls Tryz.prog 10 #[H (Q ⟨S,0,Z⟩),iO op] w (RanG S pv lv vs w):=by
 obtain⟨kd,i,N,M,f,ov,o⟩:=op;simp only at F x D y;subst F;unfold iO;simp only;have HH:=zD h;have k:=zQ h.block;have W:=zD x;have z:=zD A;obtain⟨T,R,rfl⟩:=x.form;have d:=zD ((zI w.heap.size w).alloc (zB _) (V #[J U 3,J U i,J U N,J U M,O f,I T (G o) R] 32));clear h x A;go_enter func10,ntmps10;go_wp2_with fail;refine(ran_ref (r f o i) f i (z.u.VJ _ _ _) (fun w v h=>z.u.prog f o i w v y h) (fun w v h=>z.u.doc f o i w v y h) (HH.u.zP d.u) (W.u.zP d.u) D j).mono ?_;intro e w1 L;have HF:=zD (L.after d.u k);obtain⟨rfl,_⟩:=L;go_wp2;go_ret;exact HF.u
end
section
open Go.ChangeShapes Go.WideShapes Go.ChangeAt Go.RowKit
theorem Tryz.own:ownKnob Tryz.prog.godebug=Z:=by kernel_rfl
theorem Tryz.laidOut:laidOutB Tryz.prog=D:=by kernel_rfl
theorem Ez:Tryz.prog.bytesOf 32=72:=by kernel_rfl
theorem De:Tryz.prog.bytesOf 3=8:=by kernel_rfl
theorem rC:Tryz.prog.cellsOf 3=1:=by kernel_rfl
theorem DY:Tryz.prog.cellsOf 9=1:=by kernel_rfl
theorem BL:Tryz.prog.cellsOf 24=1:=by kernel_rfl
theorem wB:Tryz.prog.cellsOf 32=6:=by kernel_rfl
theorem Eh {H:Type} {enc:TypeId×Value->H} {spare:Nat->Bool} {x:DataW H×List MemPlace} (h:DataW.trod enc Tryz.prog W base spare held n 24 cs=Q x) (y:(x.1.weights Tryz.prog 24).all (·<=reachBytes)=true):∃v xs,cs=[v]/\kA W v xs/\G xs<=17592186044416:=by
 rcases Go.Deep.open_slice1 underlying24 rC h with⟨rfl,_⟩| ⟨a,len,cap,m,n,V,D,Pl,rfl,_,hl,hm,hmm,hx,hcells⟩
 ·exact⟨_,[],rfl,⟨Z,0,rfl,Or.inl rfl⟩,by simp⟩
 ·have I:len<=m:=by rw[hmm];split <;> omega
  obtain⟨f,z⟩:=Go.Deep.choose_lt (α:=Int) (n:=m) (p:=fun i k=>W.cell? (a.add i)=Q (J U k)) (fun i hi=>by
   obtain⟨F,L⟩:=hcells i hi;obtain⟨k,A,_,_⟩:=Yh underlying3 L;simp at A;rw[A]at F;exact⟨k,F⟩)
  refine⟨_,(List.range len).map f,rfl,⟨Q a,cap,by simp,?_⟩,?_⟩
  ·by_cases hl0:len=0
   ·subst hl0;exact Or.inl rfl
   ·obtain⟨b,off,o⟩:=a;have d:o=Z:=by
     have:=World.cell?_spot (z 0 (by omega));simpa[Addr.add] using this
    subst d;refine Or.inr ⟨b,off,rfl,fun j hj=>?_⟩;simp at hj;simp only[qc,vn];have:=z j (by omega);rw[show (⟨b,off,Z⟩:Addr).add j=⟨b,off+j,Z⟩ by simp[Addr.add]]at this;exact this
  ·rw[hx]at y;unfold DataW.weights at y;rw[underlying24]at y;simp only[kY,zy,yS,qR,Qy,De]at y;have:=reachBytes_lt;have:=y.1;simp;omega
theorem Fj (cs:List Value) (k a b c:Int) (s:Ia) (v:Value) (d:G cs=6) (x:(cs.drop 0).take 1=[J U k]) (o:(cs.drop 1).take 1=[J U a]) (j:(cs.drop 2).take 1=[J U b]) (i:(cs.drop 3).take 1=[J U c]) (h:(cs.drop 4).take 1=[O s]) (f:(cs.drop 5).take 1=[v]):cs=[J U k,J U a,J U b,J U c,O s,v]:=by
 match cs,d with
 | [c0,c1,c2,c3,c4,c5],_=>simp_all
def GP (w:World) (op:rS):Prop:=op.s.size<=maxLen/\(kA w op.v op.l/\G op.l<=17592186044416)/\(-9223372036854775808<=op.a/\op.a<=9223372036854775807)/\(-9223372036854775808<=op.b/\op.b<=9223372036854775807)/\(-9223372036854775808<=op.c/\op.c<=9223372036854775807)
theorem Ge {H:Type} {enc:TypeId×Value->H} {spare:Nat->Bool} {x:DataW H×List MemPlace} (h:DataW.trod enc Tryz.prog w base spare held n 32 cs=Q x) (y:(x.1.weights Tryz.prog 32).all (·<=reachBytes)=D):∃op:rS,cs=[J U op.kind,J U op.a,J U op.b,J U op.c,O op.s,op.v]/\GP w op:=by
 obtain⟨xs,m,rfl,A,W,z,o⟩:=DataW.trod_struct underlying32 h;rw[wB]at W;have a1:G xs=6:=z;have f:∀i (hi:i < 6),xs[i]?=Q xs[i]:=fun i hi=>zJ (by omega);have V:DataW.trod enc Tryz.prog w base spare held m 3 ((cs.drop 0).take (Tryz.prog.cellsOf 3))=xs[0]?:=o 0 _ rfl;have T:DataW.trod enc Tryz.prog w base spare held m 3 ((cs.drop 1).take (Tryz.prog.cellsOf 3))=xs[1]?:=o 1 _ rfl;have R:DataW.trod enc Tryz.prog w base spare held m 3 ((cs.drop 2).take (Tryz.prog.cellsOf 3))=xs[2]?:=o 2 _ rfl;have N:DataW.trod enc Tryz.prog w base spare held m 3 ((cs.drop 3).take (Tryz.prog.cellsOf 3))=xs[3]?:=o 3 _ rfl;have M:DataW.trod enc Tryz.prog w base spare held m 9 ((cs.drop 4).take (Tryz.prog.cellsOf 9))=xs[4]?:=o 4 _ rfl;have L:DataW.trod enc Tryz.prog w base spare held m 24 ((cs.drop 5).take (Tryz.prog.cellsOf 24))=xs[5]?:=o 5 _ rfl;rw[rC,f _ (by omega)]at V T R N;rw[DY,f _ (by omega)]at M;rw[BL,f _ (by omega)]at L;obtain⟨k,k0,_⟩:=Yh underlying3 V;obtain⟨a,a0,_,ab⟩:=Yh underlying3 T;obtain⟨b,b0,_,bb⟩:=Yh underlying3 R;obtain⟨c,c0,_,cb⟩:=Yh underlying3 N;obtain⟨s,s0,_,I⟩:=DataW.trod_string underlying9 M;obtain⟨v,l,Z,hv,F⟩:=Eh L (by
  rw[A]at y;unfold DataW.weights at y;rw[underlying32]at y;rw[vZ]at y ⊢;intro q hq;exact y q (DataW.weights_mem_each (j:=5) (t:=24) (d:=xs[5].1) rfl (by rw[yt,f 5 (by omega)];rfl) q hq))
 exact⟨⟨k,a,b,c,s,v,l⟩,Fj cs k a b c s v W k0 a0 b0 c0 s0 Z,I,⟨hv,F⟩,bounds_i64 ab,bounds_i64 bb,bounds_i64 cb⟩
theorem dN {H:Type} {e:TypeId}:∀{ds:List (DataW H)} {d:DataW H},d∈ds->∀q∈d.weights Tryz.prog e,q∈DataW.weightsAll Tryz.prog e ds
 | [],_,h,_,_=>by simp at h
 | a::r,d,h,q,hq=>by
  unfold DataW.weightsAll;rcases zw.mp h with rfl | h
  ·exact zY _ hq
  ·exact zb _ (dN h q hq)
theorem Fq {H:Type} {enc:TypeId×Value->H} {d0:DataW H} {p:List MemPlace} (h0:DataW.Trod enc Tryz.prog W 0 (fun _=>true) true 22 (I a0 len cap) d0 p) (F:(d0.weights Tryz.prog 22).all (·<=reachBytes)=true):∃ops,BX W (I a0 len cap) ops/\G ops=len/\len*72<=140737488351232:=by
 obtain⟨a1,hf⟩:=h0;rcases Go.Deep.open_slice underlying22 hf with⟨hcs,hx⟩| ⟨a,V,cap',m,n,D,Pl,hcs,_,hl,hm,hmm,hx,hcells⟩
 ·simp[Value.cells]at hcs;obtain⟨rfl,rfl,rfl⟩:=hcs;exact⟨[],⟨⟨Z,0,rfl,Or.inl rfl⟩,by simp,by simp,by simp⟩,rfl,by omega⟩
 ·simp[Value.cells]at hcs;obtain⟨rfl,rfl,rfl⟩:=hcs;simp only[yZ]at hx;obtain⟨hd,_⟩:=hx;simp only[if_true]at hmm;subst hmm;rw[hd]at F;unfold DataW.weights at F;rw[underlying22]at F;simp only[kY,zy,yS,qR,Qy,Ez]at F;obtain⟨R,z⟩:=F;rw[vZ]at z;rw[wB]at hcells;haveI:Inhabited rS:=⟨⟨0,0,0,0,⟨#[]⟩,A false,[]⟩⟩;obtain⟨f,x⟩:=Go.Deep.choose_lt (α:=rS) (n:=len) (p:=fun i op=>GP W op/\W.cell? (a.add (i*6))=Q (J U op.kind)/\W.cell? (a.add (i*6+1))=Q (J U op.a)/\W.cell? (a.add (i*6+2))=Q (J U op.b)/\W.cell? (a.add (i*6+3))=Q (J U op.c)/\W.cell? (a.add (i*6+4))=Q (O op.s)/\W.cell? (a.add (i*6+5))=Q op.v) (fun i hi=>by
   obtain⟨a2,N,M⟩:=hcells i (by omega);obtain⟨op,L,T⟩:=Ge M (by
    rw[vZ];intro q hq;exact z q (zY _ (dN (xr.mpr ⟨i,by simpa using hi,rfl⟩) q hq)))
   obtain⟨_,_,d⟩:=World.cells?_some N;subst L;have e:∀j,(a.add (i*6)).add j=a.add (i*6+j):=fun j=>Go.Deep.add_add a (i*6) j;exact⟨op,T,by have:=d 0 (by omega);rw[e]at this;simpa using this,by have:=d 1 (by omega);rw[e]at this;simpa using this,by have:=d 2 (by omega);rw[e]at this;simpa using this,by have:=d 3 (by omega);rw[e]at this;simpa using this,by have:=d 4 (by omega);rw[e]at this;simpa using this,by have:=d 5 (by omega);rw[e]at this;simpa using this⟩)
  have k:∀op∈(List.range len).map f,GP W op:=fun op hop=>by
   simp at hop;obtain⟨i,hi,rfl⟩:=hop;exact(x i hi).1
  refine⟨(List.range len).map f,⟨⟨Q a,m,by simp,?_⟩,fun op h=>(k op h).1,fun op h=>(k op h).2.1,fun op h=>(k op h).2.2⟩,by simp,by unfold reachBytes at R;omega⟩;by_cases hl0:len=0
  ·subst hl0;exact Or.inl rfl
  ·obtain⟨b,off,y⟩:=a;have o:y=Z:=by
    have:=World.cell?_spot (x 0 (by omega)).2.1;simpa[Addr.add] using this
   subst o;refine Or.inr ⟨b,off,rfl,fun j hj=>?_⟩;simp at hj;obtain⟨_,N,M,h3,h4,h5,h6⟩:=x j (by omega);simp only[qc,vn];have e:∀q,(⟨b,off,Z⟩:Addr).add q=⟨b,off+q,Z⟩:=fun q=>by simp[Addr.add]
   rw[e]at N M h3 h4 h5 h6;exact⟨N,by rw[vN];exact M,by rw[vN];exact h3,by rw[vN];exact h4,by rw[vN];exact h5,by rw[vN];exact h6⟩
theorem Df {H:Type} (d:DataW H):1<=Rows.uptoBulk d:=by
 cases d <;> first | simp[Rows.uptoBulk] | (rename_i l;cases l <;> simp[Rows.uptoBulk])
theorem rH {H:Type}:∀l:List (DataW H),G l<=Rows.uptoBulkAll l
 | []=>by simp[Rows.uptoBulkAll]
 | x::r=>by
  have f:=Df x;have d:=rH r;simp only[Rows.uptoBulkAll,yE];omega
theorem CA {H:Type} {enc:TypeId×Value->H} {d0:DataW H} {p:List MemPlace} (j:DataW.Trod enc Tryz.prog W 0 (fun _=>true) true 22 (I a0 len cap) d0 p) (i:Rows.uptoSmall H [d0]=true):len<=1048576:=by
 have d:Rows.uptoBulkAll [d0]<=1048576:=qf i;simp only[Rows.uptoBulkAll]at d;obtain⟨h,hf⟩:=j;rcases Go.Deep.open_slice underlying22 hf with⟨hcs,_⟩| ⟨a,f,cap',m,n,D,Pl,hcs,_,_,_,_,hx,_⟩
 ·simp[Value.cells]at hcs;omega
 ·simp[Value.cells]at hcs;obtain⟨_,rfl,_⟩:=hcs;simp only[yZ]at hx;rw[hx.1]at d;simp only[Rows.uptoBulk]at d;have:=rH ((List.range len).map D);rw[qR,Qy]at this;omega
end
namespace Rf
def QM:Ia:=⟨#[45]⟩
def aZ:Ia:=⟨#[40]⟩
def dS:Ia:=⟨#[41]⟩
def qI:Ia:=⟨#[91]⟩
def kM:Ia:=⟨#[93]⟩
inductive Is:Nat->List ByteArray->Prop
 | num (x:ByteArray):xi x=true->Is 3 [x]
 | br (x:ByteArray):yg x=true->Is 3 [x]
 | neg (p:List ByteArray):Is 3 p->Is 3 (QM::p)
 | par (p:List ByteArray):Is 0 p->Is 3 (aZ::(p++[dS]))
 | rE (x:ByteArray) (p:List ByteArray):yg x=true->Is 0 p->Is 3 (x::qI::(p++[kM]))
 | t1 (p:List ByteArray):Is 3 p->Is 2 p
 | t2 (p:List ByteArray) (o:ByteArray) (q:List ByteArray):Is 2 p->kp vJ o=true->Is 3 q->Is 2 (p++o::q)
 | s1 (p:List ByteArray):Is 2 p->Is 1 p
 | s2 (p:List ByteArray) (o:ByteArray) (q:List ByteArray):Is 1 p->kp kL o=true->Is 2 q->Is 1 (p++o::q)
 | e1 (p:List ByteArray):Is 1 p->Is 0 p
 | e2 (p:List ByteArray) (o:ByteArray) (q:List ByteArray):Is 1 p->kp kF o=true->Is 1 q->Is 0 (p++o::q)
theorem JO (h:kp vJ o=D):o=⟨#[42]⟩\/o=⟨#[47]⟩\/o=⟨#[37]⟩:=by
 simp[kp,vJ]at h;rcases h with h | h | h <;> simp[<-h]
theorem JT (h:kp kL o=D):o=⟨#[43]⟩\/o=⟨#[45]⟩:=by
 simp[kp,kL]at h;rcases h with h | h <;> simp[<-h]
theorem VD (h:kp kF o=D):o=⟨#[60]⟩\/o=⟨#[61]⟩:=by
 simp[kp,kF]at h;rcases h with h | h <;> simp[<-h]
structure Bd (o:Ia):Prop where
 J9:J9 o=0
 opd:KX o=false
theorem eP (b:UInt8) (h:b∈[42,47,37,43,45,60,61]):Bd ⟨#[b]⟩:=by
 have e:∀l:List UInt8,((⟨#[b]⟩:Ia).toList==l)=([b]==l):=fun l=>by rw[show (⟨#[b]⟩:Ia).toList=[b]from Zw [b]]
 have d:Rt.qC ⟨#[b]⟩ 0=(b.toNat:Int):=by rw[Rt.jB (by show 0 < 1;decide)];rfl
 constructor
 ·simp only[J9,e];simp at h;rcases h with rfl | rfl | rfl | rfl | rfl | rfl | rfl <;> decide
 ·simp only[KX,yg,xi,d,e];simp at h;rcases h with rfl | rfl | rfl | rfl | rfl | rfl | rfl <;> simp[qt,jo]
theorem ay (h:kp vJ o=D):Bd o:=by
 rcases JO h with rfl | rfl | rfl <;> exact eP _ (by decide)
theorem ba (h:kp kL o=D):Bd o:=by
 rcases JT h with rfl | rfl <;> exact eP _ (by decide)
theorem eb (h:kp kF o=D):Bd o:=by
 rcases VD h with rfl | rfl <;> exact eP _ (by decide)
theorem Kl {b:UInt8}:J9 ⟨#[b]⟩=if b=40 then 1 else if b=91 then 1 else if b=41 then -1 else if b=93 then -1 else 0:=by
 simp[J9]
theorem JS (h:i < G a):ve (a++b) i=ve a i:=by
 simp[ve,yp h]
theorem Za (a b:Ib) (j:Nat):ve (a++b) (G a+j)=ve b j:=by
 simp[ve,yU]
theorem at_one:ve [x] 0=x:=rfl
theorem YO (a b:Ib):∀i,i<=G a->depth (a++b) i=depth a i
 | 0,_=>rfl
 | i+1,h=>by rw[depth,depth,YO a b i (by omega),JS (by omega)]
theorem vi (a b:Ib):∀j,depth (a++b) (G a+j)=depth a (G a)+depth b j
 | 0=>by rw[qO,YO a b _ (zB _)];simp[depth]
 | j+1=>by rw[<-vN,depth,depth,vi a b j,Za];omega
theorem VC:depth [x] 1=J9 x:=by simp[depth,ve]
structure eH (p:Ib):Prop where
 ne:0 < p.length
 zero:depth p p.length=0
 nn:∀i,i<=p.length->0<=depth p i
 fin:KX (ve p (p.length-1))=true
theorem jq:depth (x::q) (j+1)=J9 x+depth q j:=by
 have:=vi [x] q j;rw[ZB,yl,VC]at this;rw[Xs j 1,this]
theorem vK (x:Ia) (q:Ib) (j:Nat):ve (x::q) (j+1)=ve q j:=by simp[ve]
theorem VF:ve (x::q) 0=x:=rfl
theorem eH.app (f:eH p) (d:eH q) (x:Bd o):eH (p++o::q):=by
 have k:(p++o::q).length=G p+(G q+1):=by simp
 refine⟨by rw[k];omega,?_,fun i hi=>?_,?_⟩
 ·rw[k,vi,jq,f.zero,x.J9,d.zero];rfl
 ·by_cases h:i<=G p
  ·rw[YO p _ i h];exact f.nn i h
  ·obtain⟨j,rfl⟩:∃j,i=G p+(j+1):=⟨i-G p-1,by omega⟩;rw[vi,jq,f.zero,x.J9];have:=d.nn j (by omega);omega
 ·have y:=d.ne;rw[k,show (G p)+(G q+1)-1=G p+((G q-1)+1) by omega,Za,vK];exact d.fin
theorem eH.neg (d:eH p):eH (QM::p):=by
 have h:=d.ne;have f:J9 QM=0:=by rw[QM,Kl];decide
 refine⟨by simp,?_,fun i hi=>?_,?_⟩
 ·rw[yE,jq,d.zero,f];rfl
 ·cases i with
  | zero=>simp[depth]
  | succ j=>
   rw[jq,f];have:=d.nn j (by simpa using hi);omega
 ·rw[yE,show (G p)+1-1=(G p-1)+1 by omega,vK];exact d.fin
theorem V5 (l r:Ia) (p:Ib) (j:Nat) (h:j<=G p):depth (l::(p++[r])) (j+1)=J9 l+depth p j:=by
 rw[jq,YO p _ j h]
theorem Ki (l r:Ia) (p:Ib):depth (l::(p++[r])) (G p+2)=J9 l+depth p (G p)+J9 r:=by
 have:=vi p [r] 1;rw[VC]at this;rw[show (G p)+2=(G p+1)+1 by omega,jq,this];omega
theorem lS {b:UInt8} (h:b=41\/b=93):KX ⟨#[b]⟩=D:=by
 have e:∀l:List UInt8,((⟨#[b]⟩:Ia).toList==l)=([b]==l):=fun l=>by rw[show (⟨#[b]⟩:Ia).toList=[b]from Zw [b]]
 simp only[KX,e];rcases h with rfl | rfl <;> simp
theorem eH.wrap (d:eH p) (f:J9 l=1) (k:J9 r=-1) (o:KX r=D):eH (l::(p++[r])):=by
 refine⟨by simp,?_,fun i hi=>?_,?_⟩
 ·rw[show (l::(p++[r])).length=G p+2 by simp,Ki,d.zero,f,k];rfl
 ·cases i with
  | zero=>simp[depth]
  | succ j=>
   by_cases h:j<=G p
   ·rw[V5 l r p j h,f];have:=d.nn j h;omega
   ·have:j+1=G p+2:=by simp at hi;omega
    rw[this,Ki,d.zero,f,k];decide
 ·rw[show (l::(p++[r])).length-1=G p+1 by simp,vK,show (G p)=G p+0 from rfl,Za];exact o
theorem eH.one (h:KX x=D) (d:J9 x=0):eH [x]:=by
 refine⟨by simp,by rw[yl,VC,d],fun i hi=>?_,h⟩
 match i with
 | 0=>simp[depth]
 | 1=>rw[VC,d];decide
 | i+2=>simp at hi
theorem gi (h:yg x=D\/xi x=D):J9 x=0:=by
 have d:qt (Rt.qC x 0)=D\/jo (Rt.qC x 0)=D:=by
  rcases h with h | h
  ·simp[yg]at h;exact Or.inl h.1.2
  ·simp[xi]at h;exact Or.inr h.2
 have e:∀b:UInt8,b∈[40,41,91,93]->¬x=⟨#[b]⟩:=by
  rintro b hm rfl;rw[Rt.jB (by show 0 < 1;decide)]at d;change qt (b.toNat:Int)=D\/jo (b.toNat:Int)=D at d;simp at hm;rcases hm with rfl | rfl | rfl | rfl <;> simp[qt,jo]at d
 have k:=e 40 (by decide);have j:=e 41 (by decide);have i:=e 91 (by decide);have f:=e 93 (by decide);simp[J9,Rt.ZF,k,j,i,f]
theorem CR (h:yg x=D\/xi x=D):KX x=D:=by
 rcases h with h | h <;> simp[KX,h]
theorem rK (h:yg x=D\/xi x=D):eH [x]:=eH.one (CR h) (gi h)
theorem eH.rE (k:eH p) (h:yg x=D):eH (x::qI::(p++[kM])):=by
 have d:eH (qI::(p++[kM])):=k.wrap (by rw[qI,Kl];decide) (by rw[kM,Kl];decide) (lS (Or.inr rfl));have f:=gi (Or.inl h);have o:=d.ne;refine⟨by simp,?_,fun i hi=>?_,?_⟩
 ·rw[yE,jq,f,d.zero];rfl
 ·cases i with
  | zero=>simp[depth]
  | succ j=>
   rw[jq,f];have:=d.nn j (by simpa using hi);omega
 ·rw[yE,show (qI::(p++[kM])).length+1-1=((qI::(p++[kM])).length-1)+1 by omega,vK];exact d.fin
theorem kh (h:Is k p):eH p:=by
 induction h with
 | num x h=>exact rK (Or.inr h)
 | br x h=>exact rK (Or.inl h)
 | neg p _ ih=>exact ih.neg
 | par p _ ih=>exact ih.wrap (by rw[aZ,Kl];decide) (by rw[dS,Kl];decide) (lS (Or.inl rfl))
 | rE x p hx _ ih=>exact ih.rE hx
 | t1 p _ ih=>exact ih
 | t2 p o q _ ho _ ih1 ih2=>exact ih1.app ih2 (ay ho)
 | s1 p _ ih=>exact ih
 | s2 p o q _ ho _ ih1 ih2=>exact ih1.app ih2 (ba ho)
 | e1 p _ ih=>exact ih
 | e2 p o q _ ho _ ih1 ih2=>exact ih1.app ih2 (eb ho)
def cond (sg t:Ib) (i:Nat):Prop:=kp sg (ve t i)=D/\depth t (i+1)=0/\0 < i/\KX (ve t (i-1))=D
theorem dg {sg t:Ib}:∀n,(∀i,i < n->¬cond sg t i)->kQ sg t n=-1
 | 0,_=>rfl
 | n+1,h=>by
  have d:=h n (by omega);unfold cond at d;rw[kQ,zA d];exact dg n (fun i hi=>h i (by omega))
theorem de {sg t:Ib} {k:Nat} (d:cond sg t k):∀n,k < n->(∀i,k < i->i < n->¬cond sg t i)->kQ sg t n=k
 | 0,h,_=>by omega
 | n+1,h,h'=>by
  by_cases e:k=n
  ·subst e;unfold cond at d;rw[kQ,zE d]
  ·have f:=h' n (by omega) (by omega);unfold cond at f;rw[kQ,zA f];exact de d n (by omega) (fun i h1 h2=>h' i h1 (by omega))
def bp (sg p:Ib):Prop:=∀i,i < G p->¬cond sg p i
theorem bp.last {sg p:Ib} (h:bp sg p):last sg p=-1:=dg _ h
theorem BI (d:i < G p):cond sg (p++o::q) i↔cond sg p i:=by
 unfold cond;rw[JS d,YO p _ (i+1) (by omega),JS (by omega)]
theorem gk (f:depth p (G p)=0) (d:Bd o):cond sg (p++o::q) (G p+(j+1))↔cond sg q j:=by
 unfold cond;rw[Za,vK,show (G p)+(j+1)+1=G p+((j+1)+1) by omega,vi,jq,f,d.J9,show (G p)+(j+1)-1=G p+j by omega,Za];cases j with
 | zero=>rw[VF,d.opd];simp
 | succ j=>rw[vK];simp;omega
theorem pd (f:eH p) (k:Bd o) (h:kp sg o=false) (z:bp sg p) (y:bp sg q):bp sg (p++o::q):=by
 intro i x;by_cases hl:i < G p
 ·rw[BI hl];exact z i hl
 ·by_cases he:i=G p
  ·subst he;rintro ⟨d,_⟩;rw[show (G p)=G p+0 from rfl,Za,VF,h]at d;cases d
  ·obtain⟨j,rfl⟩:∃j,i=G p+(j+1):=⟨i-G p-1,by omega⟩;rw[gk f.zero k];exact y j (by simp at x;omega)
theorem JL (d:eH p) (f:Bd o) (h:kp sg o=D) (k:bp sg q):last sg (p++o::q)=G p:=by
 refine de ?_ _ (by simp) (fun i h3 h4=>?_)
 ·refine⟨?_,?_,d.ne,?_⟩
  ·rw[show (G p)=G p+0 from rfl,Za,VF];exact h
  ·rw[vi p _ 1,d.zero,show (1:Nat)=0+1 from rfl,jq,f.J9];rfl
  ·have:=d.ne;rw[JS (by omega)];exact d.fin
 ·obtain⟨j,rfl⟩:∃j,i=G p+(j+1):=⟨i-G p-1,by omega⟩;rw[gk d.zero f];exact k j (by simp at h4;omega)
theorem DB (h:bp sg p):bp sg (QM::p):=by
 intro i k;have d:Bd QM:=eP 45 (by decide);rintro ⟨f,o,x,c4⟩;obtain⟨j,rfl⟩:∃j,i=j+1:=⟨i-1,by omega⟩;rw[vK]at f;rw[jq,d.J9]at o;rw[zu]at c4;cases j with
 | zero=>rw[VF,d.opd]at c4;cases c4
 | succ j=>
  rw[vK]at c4;exact h (j+1) (by simpa using k) ⟨f,by omega,by omega,c4⟩
theorem A4 (f:eH p) (h:J9 l=1) (d:kp sg r=false):bp sg (l::(p++[r])):=by
 intro i k;rintro ⟨c1,o,y,x⟩;obtain⟨j,rfl⟩:∃j,i=j+1:=⟨i-1,by omega⟩;by_cases hj:j < G p
 ·rw[V5 l r p (j+1) (by omega),h]at o;have:=f.nn (j+1) (by omega);omega
 ·have:j=G p:=by simp at k;omega
  subst this;rw[vK,show (G p)=G p+0 from rfl,Za,at_one,d]at c1;cases c1
theorem DC (o:eH p) (h:J9 x=0) (y:J9 l=1) (d:kp sg l=false) (k:kp sg r=false):bp sg (x::l::(p++[r])):=by
 intro i z;rintro ⟨c1,f,D,A⟩;obtain⟨j,rfl⟩:∃j,i=j+1:=⟨i-1,by omega⟩;rw[vK]at c1;rw[jq,h]at f;cases j with
 | zero=>rw[VF,d]at c1;cases c1
 | succ j=>
  by_cases hj:j < G p
  ·rw[V5 l r p (j+1) (by omega),y]at f;have:=o.nn (j+1) (by omega);omega
  ·have:j=G p:=by simp at z;omega
   subst this;rw[vK,show (G p)=G p+0 from rfl,Za,at_one,k]at c1;cases c1
theorem pZ (x:Ia):bp sg [x]:=by
 intro i d;rintro ⟨_,_,f,_⟩;simp at d;omega
theorem C6 (d:Ib) (h:d=vJ\/d=kL\/d=kF):kp d dS=false/\kp d kM=false/\kp d qI=false:=by
 rcases h with rfl | rfl | rfl <;> simp[kp,vJ,kL,kF,dS,kM,qI]
theorem vh (h:Is k p) (d:Ib) (o:d=vJ\/d=kL\/d=kF):k=3->bp d p:=by
 obtain⟨j,i,f⟩:=C6 d o
 induction h with
 | num x h=>intro _;exact pZ x
 | br x h=>intro _;exact pZ x
 | neg p _ ih=>intro _;exact DB (ih rfl)
 | par p hp _=>intro _;exact A4 (kh hp) (by rw[aZ,Kl];decide) j
 | rE x p hx hp _=>intro _;exact DC (kh hp) (gi (Or.inl hx)) (by rw[qI,Kl];decide) f i
 | _=>intro h;omega
theorem fj (h:kp vJ o=D):kp kL o=false/\kp kF o=false:=by
 rcases JO h with rfl | rfl | rfl <;> simp[kp,kL,kF]
theorem se (h:kp kL o=D):kp kF o=false:=by
 rcases JT h with rfl | rfl <;> simp[kp,kF]
theorem Yy (h:Is k p) (d:Ib) (hs:d=kL\/d=kF):k=2->bp d p:=by
 induction h with
 | t1 p hp _=>intro _;exact vh hp d (Or.inr hs) rfl
 | t2 p o q hp ho hq ih1 _=>intro _;exact pd (kh hp) (ay ho) (by rcases hs with rfl | rfl;exact(fj ho).1;exact(fj ho).2) (ih1 rfl) (vh hq d (Or.inr hs) rfl)
 | _=>intro h;omega
theorem aj (h:Is k p):k=1->bp kF p:=by
 induction h with
 | s1 p hp _=>intro _;exact Yy hp kF (Or.inr rfl) rfl
 | s2 p o q hp ho hq ih1 _=>intro _;exact pd (kh hp) (ba ho) (se ho) (ih1 rfl) (Yy hq kF (Or.inr rfl) rfl)
 | _=>intro h;omega
theorem nR (h:5*G u+4<=f):gr f 1 u=J1 u:=vy _ _ _ _ (by omega) (by omega) (by omega)
theorem nQ (h:5*G u+3<=f):gr f 2 u=isTerm u:=vy _ _ _ _ (by omega) (by omega) (by omega)
theorem cz (h:5*G u+2<=f):gr f 3 u=vI u:=vy _ _ _ _ (by omega) (by omega) (by omega)
theorem uh (h:5*G u+5<=f):gr f 0 u=qX u:=vy _ _ _ _ (by omega) (by omega) (by omega)
theorem Em (h:5*G u+1<=f):gr f 4 u=Jp u:=vy _ _ _ _ (by omega) (by omega) (by omega)
theorem Ep (h:last kF t=-1):qX t=J1 t:=by
 show Qa (gr (5*G t+4) 1) t=_;rw[aq h];exact nR (zB _)
theorem Er (h:last kF t=k):qX t=(J1 (t.take k) && J1 (t.drop (k+1))):=by
 show Qa (gr (5*G t+4) 1) t=_;rw[ar rfl h,nR (by simp;omega),nR (by simp;omega)]
theorem FW (h:last kL t=-1):J1 t=isTerm t:=by
 show Vk (gr (5*G t+3) 1) (gr (5*G t+3) 2) t=_;rw[eL h];exact nQ (zB _)
theorem FX (h:last kL t=k) (d:k < G t):J1 t=(J1 (t.take k) && isTerm (t.drop (k+1))):=by
 show Vk (gr (5*G t+3) 1) (gr (5*G t+3) 2) t=_;rw[eM h,nR (by simp;omega),nQ (by simp;omega)]
theorem D6 (h:last vJ t=-1):isTerm t=vI t:=by
 show X8 (gr (5*G t+2) 2) (gr (5*G t+2) 3) t=_;rw[aF h];exact cz (zB _)
theorem D7 (h:last vJ t=k) (d:k < G t):isTerm t=(isTerm (t.take k) && vI (t.drop (k+1))):=by
 show X8 (gr (5*G t+2) 2) (gr (5*G t+2) 3) t=_;rw[aG h,nQ (by simp;omega),cz (by simp;omega)]
theorem VB:vI t=kR vI qX Jp t:=by
 show kR (gr (5*G t+1) 3) (gr (5*G t+1) 0) (gr (5*G t+1) 4) t=_;exact gX (fun h=>cz (by simp;omega)) (fun h=>uh (by simp;omega)) (Em (zB _))
theorem Ew:Jp t=kX qX t:=by
 show kX (gr (5*G t) 0) t=_;exact rD (fun h=>uh (by simp;omega))
theorem tA (b:UInt8):((⟨#[b]⟩:Ia).toList==[b])=D:=by simp
theorem gV (h:yg x=D\/xi x=D):vI [x]=D:=by
 rw[VB,kR,zA (by simp),zE (by simp)];show (yg x || xi x)=D;rcases h with h | h <;> simp[h]
theorem tW (d:0 < G p):vI (QM::p)=vI p:=by
 rw[VB,kR,zA (by simp),zA (by simp;intro h;simp[h]at d),zE (show ((first (QM::p)).toList==[45])=D from tA 45)];rfl
theorem wO (l r:Ia) (p:Ib):((l::(p++[r])).take ((l::(p++[r])).length-1)).drop 1=p:=by
 simp
theorem V7 (a b:Ib):ve (a++b) (G a)=ve b 0:=Za a b 0
theorem tU:final (l::(p++[r]))=r:=by
 rw[final,show (l::(p++[r])).length-1=G p+1 by simp,vK,V7];rfl
theorem tV:vI (aZ::(p++[dS]))=qX p:=by
 rw[VB,kR,zA (by simp),zA (by simp),zA (by show ¬((⟨#[40]⟩:Ia).toList==[45])=D;simp),zE ⟨show ((first (aZ::(p++[dS]))).toList==[40])=D from tA 40,by rw[tU];exact tA 41⟩,wO]
theorem mY (h:yg x=D\/xi x=D) (b:UInt8) (f:qt (b.toNat:Int)=false) (d:jo (b.toNat:Int)=false):(x.toList==[b])=false:=by
 rw[Rt.ZF,kH];rintro rfl;have e:Rt.qC ⟨#[b]⟩ 0=(b.toNat:Int):=by rw[Rt.jB (by show 0 < 1;decide)];rfl
 change yg ⟨#[b]⟩=D\/xi ⟨#[b]⟩=D at h;rcases h with h | h
 ·simp[yg,e,f]at h
 ·simp[xi,e,d]at h
theorem hJ (o:0 < G p) (d:yg x=D):Jp (x::qI::(p++[kM]))=qX p:=by
 have i:(x::qI::(p++[kM])).length=G p+3:=by simp
 have j:final (x::qI::(p++[kM]))=kM:=by
  rw[final,i,show (G p)+3-1=G p+1+1 by omega,vK,vK,V7];rfl
 have f:((x::qI::(p++[kM])).take ((x::qI::(p++[kM])).length-1)).drop 2=p:=by simp
 have k:¬((x::qI::(p++[kM])).length < 4\/((ve (x::qI::(p++[kM])) 1).toList==[91])=false\/((final (x::qI::(p++[kM]))).toList==[93])=false):=by
  rintro (h | h | h)
  ·omega
  ·change ((⟨#[91]⟩:Ia).toList==[91])=false at h;simp at h
  ·rw[j]at h;change ((⟨#[93]⟩:Ia).toList==[93])=false at h;simp at h
 rw[Ew,kX,zA k,f];show (yg x && qX p)=_;rw[d];rfl
theorem tX (f:0 < G p) (d:yg x=D):vI (x::qI::(p++[kM]))=qX p:=by
 have i:(x::qI::(p++[kM])).length=G p+3:=by simp
 rw[VB,kR,zA (by omega),zA (by omega),zA (by show ¬(x.toList==[45])=D;rw[mY (Or.inl d) 45 (by decide) (by decide)];simp),zA,hJ f d];rintro ⟨h,_⟩;change (x.toList==[40])=D at h;rw[mY (Or.inl d) 40 (by decide) (by decide)]at h;cases h
theorem Kc (h:Is k p):(k=3->vI p=D)/\(2<=k->isTerm p=D)/\(1<=k->J1 p=D)/\qX p=D:=by
 have j:∀{q},Is 3 q->vI q=D->isTerm q=D:=fun h h'=>by rw[D6 (vh h _ (Or.inl rfl) rfl).last];exact h'
 have i:∀{q},Is 2 q->isTerm q=D->J1 q=D:=fun h h'=>by rw[FW (Yy h _ (Or.inl rfl) rfl).last];exact h'
 have f:∀{q},Is 1 q->J1 q=D->qX q=D:=fun h h'=>by rw[Ep (aj h rfl).last];exact h'
 have d:∀{q},Is 3 q->vI q=D->(3=3->vI q=D)/\(2<=3->isTerm q=D)/\(1<=3->J1 q=D)/\qX q=D:=fun h h'=>
  have a:=j h h';have b:=i (.t1 _ h) a
  ⟨fun _=>h',fun _=>a,fun _=>b,f (.s1 _ (.t1 _ h)) b⟩
 induction h with
 | num x h=>exact d (.num x h) (gV (Or.inr h))
 | br x h=>exact d (.br x h) (gV (Or.inl h))
 | neg p hp ih=>exact d (.neg p hp) (by rw[tW (kh hp).ne];exact ih.1 rfl)
 | par p hp ih=>exact d (.par p hp) (by rw[tV];exact ih.2.2.2)
 | rE x p hx hp ih=>exact d (.rE x p hx hp) (by rw[tX (kh hp).ne hx];exact ih.2.2.2)
 | t1 p hp ih=>exact⟨by omega,fun _=>ih.2.1 (by omega),fun _=>ih.2.2.1 (by omega),ih.2.2.2⟩
 | t2 p o q hp ho hq ih1 ih2=>
  have h:Is 2 (p++o::q):=.t2 p o q hp ho hq;have a:isTerm (p++o::q)=D:=by
   rw[D7 (JL (kh hp) (ay ho) ho (vh hq _ (Or.inl rfl) rfl)) (by simp)];simp[ih1.2.1 (by omega),ih2.1 rfl]
  have b:=i h a;exact⟨by omega,fun _=>a,fun _=>b,f (.s1 _ h) b⟩
 | s1 p hp ih=>exact⟨by omega,by omega,fun _=>ih.2.2.1 (by omega),ih.2.2.2⟩
 | s2 p o q hp ho hq ih1 ih2=>
  have h:Is 1 (p++o::q):=.s2 p o q hp ho hq;have b:J1 (p++o::q)=D:=by
   rw[FX (JL (kh hp) (ba ho) ho (Yy hq _ (Or.inl rfl) rfl)) (by simp)];simp[ih1.2.2.1 (by omega),ih2.2.1 (by omega)]
  exact⟨by omega,by omega,fun _=>b,f h b⟩
 | e1 p hp ih=>exact⟨by omega,by omega,by omega,ih.2.2.2⟩
 | e2 p o q hp ho hq ih1 ih2=>
  refine⟨by omega,by omega,by omega,?_⟩;rw[Er (JL (kh hp) (eb ho) ho (aj hq rfl))];simp[ih1.2.2.1 (by omega),ih2.2.2.1 (by omega)]
theorem nL (h:last sg t=k):k < G t/\kp sg (ve t k)=D:=by
 have d:∀n,kQ sg t n=k->k < n/\kp sg (ve t k)=D:=by
  intro n
  induction n with
  | zero=>intro h;simp[kQ]at h
  | succ n ih=>
   intro h;rw[kQ]at h;split at h
   ·rename_i hc;have:n=k:=by omega
    subst this;exact⟨by omega,hc.1⟩
   ·have:=ih h;exact⟨by omega,this.2⟩
 exact d _ h
theorem mf (h:k < G t):t.take k++ve t k::t.drop (k+1)=t:=by
 rw[qq h,<-zZ h,kt]
theorem YE {b:UInt8} (h:(x.toList==[b])=D):x=⟨#[b]⟩:=by
 rw[Rt.ZF]at h;simpa using h
theorem uE (h:2<=G t):first t::((t.take (G t-1)).drop 1++[final t])=t:=by
 rw[first,final,qq (show 0 < G t by omega),qq (show G t-1 < G t by omega)];apply qw
 ·simp;omega
 ·intro i f d;cases i with
  | zero=>simp
  | succ i=>
   simp only[yH];by_cases hi:i < ((t.take (G t-1)).drop 1).length
   ·rw[xI hi];simp
   ·rw[xm (by omega)];simp at hi d ⊢;congr 1;omega
theorem ke:∀(f r:Nat) (t:Ib),gr f r t=D->(r<=3->Is r t)/\(r=4->∃x p,t=x::qI::(p++[kM])/\yg x=D/\Is 0 p)
 | 0,_,_,h=>by simp[gr]at h
 | f+1,0,t,h=>by
  refine⟨fun _=>?_,by omega⟩;have h:Qa (gr f 1) t=D:=h;rcases Yx kF t with hk | ⟨k,hk,_,_⟩
  ·rw[aq hk]at h;exact .e1 _ ((ke f 1 t h).1 (by omega))
  ·rw[ar rfl hk,zy]at h;have hc:=nL hk;have:=Is.e2 _ _ _ ((ke f 1 _ h.1).1 (by omega)) hc.2 ((ke f 1 _ h.2).1 (by omega));rw[mf hc.1]at this;exact this
 | f+1,1,t,h=>by
  refine⟨fun _=>?_,by omega⟩;have h:Vk (gr f 1) (gr f 2) t=D:=h;rcases Yx kL t with hk | ⟨k,hk,_,_⟩
  ·rw[eL hk]at h;exact .s1 _ ((ke f 2 t h).1 (by omega))
  ·rw[eM hk,zy]at h;have hc:=nL hk;have:=Is.s2 _ _ _ ((ke f 1 _ h.1).1 (by omega)) hc.2 ((ke f 2 _ h.2).1 (by omega));rw[mf hc.1]at this;exact this
 | f+1,2,t,h=>by
  refine⟨fun _=>?_,by omega⟩;have h:X8 (gr f 2) (gr f 3) t=D:=h;rcases Yx vJ t with hk | ⟨k,hk,_,_⟩
  ·rw[aF hk]at h;exact .t1 _ ((ke f 3 t h).1 (by omega))
  ·rw[aG hk,zy]at h;have hc:=nL hk;have:=Is.t2 _ _ _ ((ke f 2 _ h.1).1 (by omega)) hc.2 ((ke f 3 _ h.2).1 (by omega));rw[mf hc.1]at this;exact this
 | f+1,3,t,h=>by
  refine⟨fun _=>?_,by omega⟩;have h:kR (gr f 3) (gr f 0) (gr f 4) t=D:=h;rw[kR]at h;split at h
  ·cases h
  split at h
  ·rename_i h0 h1
   match t,h1 with
   | [x],_=>
    rw[YC]at h;rcases h with h | h
    ·exact .br x h
    ·exact .num x h
  rename_i h0 h1;have i:2<=G t:=by omega
  split at h
  ·rename_i hm;have e:t=QM::t.drop 1:=by
    have:=YE hm
    match t,i with
    | x::r,_=>change x=_ at this;rw[this];rfl
   rw[e];exact .neg _ ((ke f 3 _ h).1 (by omega))
  split at h
  ·rename_i hm hp;have e:=uE i;rw[YE hp.1,YE hp.2]at e;rw[<-e];exact .par _ ((ke f 0 _ h).1 (by omega))
  ·obtain⟨x,p,e,j,hp⟩:=(ke f 4 t h).2 rfl;rw[e];exact .rE x p j hp
 | f+1,r+4,t,h=>by
  refine⟨by omega,fun _=>?_⟩;have h:kX (gr f 0) t=D:=h;rw[kX]at h;split at h
  ·cases h
  rename_i hc;have z:¬G t < 4:=fun h=>hc (Or.inl h);have y:((ve t 1).toList==[91])=true:=by cases hh:((ve t 1).toList==[91])with | true=>rfl | false=>exact absurd (Or.inr (Or.inl hh)) hc
  have o:((final t).toList==[93])=true:=by cases hh:((final t).toList==[93])with | true=>rfl | false=>exact absurd (Or.inr (Or.inr hh)) hc
  rw[zy]at h;refine⟨first t,(t.take (G t-1)).drop 2,?_,h.1,(ke f 0 _ h.2).1 (by omega)⟩;have e:=uE (t:=t) (by omega);rw[show kM=final t from (YE o).symm,show qI=ve t 1 from (YE y).symm]
  conv=>lhs;rw[<-e]
  congr 1;rw[<-yF];congr 1
  match t,z with
  | a::b::c::d::r,_=>simp[ve]
  | [],h=>simp at h
  | [_],h=>simp at h
  | [_,_],h=>simp at h
  | [_,_,_],h=>simp at h
theorem gZ (t:Ib):qX t=D↔Is 0 t:=⟨fun h=>(ke _ 0 t h).1 (by omega),fun h=>(Kc h).2.2.2⟩
theorem DZ:Jp t=D↔∃x p,t=x::qI::(p++[kM])/\yg x=D/\Is 0 p:=by
 constructor
 ·intro h;exact(ke _ 4 t h).2 rfl
 ·rintro ⟨x,p,rfl,f,d⟩;rw[hJ (kh d).ne f];exact(Kc d).2.2.2
open Rt
structure GM (t:Tk):Prop where
 num:t.kind=2↔xi t.text=true
 br:(t.kind=1/\aL t.text=false)↔yg t.text=true
def jf (ts:List Tk):Prop:=∀t∈ts,GM t
theorem jf.right {a b:List Tk} (h:jf (a++b)):jf b:=fun t ht=>h t (by simp[ht])
theorem jf.tail {t:Tk} {b:List Tk} (h:jf (t::b)):jf b:=fun u hu=>h u (by simp[hu])
theorem jf.head {t:Tk} {b:List Tk} (h:jf (t::b)):GM t:=h t (by simp)
theorem ZP {a b:List Tk}:tx (a++b)=tx a++tx b:=by simp[tx]
theorem xq {t:Tk} {b:List Tk}:tx (t::b)=t.text::tx b:=rfl
theorem KE {a:List Tk}:(tx a).length=G a:=by simp[tx]
def toksOK (V A:Ia->Bool):Ib->Bool
 | []=>true
 | x::r=>(if yg x=true then (if first r=qI then A x else V x)else true) && toksOK V A r
def ZG (V A:Ia->Bool) (e:List qM):Bool:=e.all (fun o=>if o.code=2 then V o.name else if o.code=3 then A o.name else D)
theorem jm (V A:Ia->Bool) (a b:List qM):ZG V A (a++b)=(ZG V A a && ZG V A b):=by simp[ZG]
theorem A8 (h:0 < G p):first (p++q)=first p:=JS h
theorem ZQ (V A:Ia->Bool) {q:Ib} (h:¬first q=qI):∀p:Ib,toksOK V A (p++q)=(toksOK V A p && toksOK V A q)
 | []=>by simp[toksOK]
 | x::r=>by
  rw[yF,toksOK,toksOK,ZQ V A h r,Bool.and_assoc];cases r with
  | nil=>rw[xN,zA h,zA (show ¬first []=qI by simp[first,ve,qI])]
  | cons y s=>rw[A8 (by simp)]
theorem px (x:Ia):(7<=yI x/\yI x<=9)↔kp vJ x=D:=by
 simp only[yI,ZF,kp,vJ,yS];by_cases h1:x=⟨#[43]⟩
 ·subst h1;simp
 by_cases h2:x=⟨#[45]⟩
 ·subst h2;simp
 by_cases h3:x=⟨#[42]⟩
 ·subst h3;simp
 by_cases h4:x=⟨#[47]⟩
 ·subst h4;simp
 by_cases h5:x=⟨#[37]⟩
 ·subst h5;simp
 by_cases h6:x=⟨#[60]⟩
 ·subst h6;simp
 by_cases h7:x=⟨#[61]⟩
 ·subst h7;simp
 simp[h1,h2,h3,h4,h5,h6,h7,eY]
theorem iE (x:Ia):(5<=yI x/\yI x<=6)↔kp kL x=D:=by
 simp only[yI,ZF,kp,kL,yS];by_cases h1:x=⟨#[43]⟩
 ·subst h1;simp
 by_cases h2:x=⟨#[45]⟩
 ·subst h2;simp
 by_cases h3:x=⟨#[42]⟩
 ·subst h3;simp
 by_cases h4:x=⟨#[47]⟩
 ·subst h4;simp
 by_cases h5:x=⟨#[37]⟩
 ·subst h5;simp
 by_cases h6:x=⟨#[60]⟩
 ·subst h6;simp
 by_cases h7:x=⟨#[61]⟩
 ·subst h7;simp
 simp[h1,h2,h3,h4,h5,h6,h7,eY]
theorem gn (x:Ia):(10<=yI x/\yI x<=11)↔kp kF x=D:=by
 simp only[yI,ZF,kp,kF,yS];by_cases h1:x=⟨#[43]⟩
 ·subst h1;simp
 by_cases h2:x=⟨#[45]⟩
 ·subst h2;simp
 by_cases h3:x=⟨#[42]⟩
 ·subst h3;simp
 by_cases h4:x=⟨#[47]⟩
 ·subst h4;simp
 by_cases h5:x=⟨#[37]⟩
 ·subst h5;simp
 by_cases h6:x=⟨#[60]⟩
 ·subst h6;simp
 by_cases h7:x=⟨#[61]⟩
 ·subst h7;simp
 simp[h1,h2,h3,h4,h5,h6,h7,eY]
inductive Cm:Nat->List ByteArray->List qM->Prop
 | num (x:ByteArray):xi x=true->Cm 3 [x] [⟨1,val x,⟨#[]⟩⟩]
 | br (x:ByteArray):yg x=true->Cm 3 [x] [⟨2,0,x⟩]
 | neg (p:List ByteArray) (e:List qM):Cm 3 p e->Cm 3 (QM::p) (e++[⟨4,0,⟨#[]⟩⟩])
 | par (p:List ByteArray) (e:List qM):Cm 0 p e->Cm 3 (aZ::(p++[dS])) e
 | rE (x:ByteArray) (p:List ByteArray) (e:List qM):yg x=true->Cm 0 p e->Cm 3 (x::qI::(p++[kM])) (e++[⟨3,0,x⟩])
 | t1 (p:List ByteArray) (e:List qM):Cm 3 p e->Cm 2 p e
 | t2 (p:List ByteArray) (o:ByteArray) (q:List ByteArray) (e f:List qM):Cm 2 p e->kp vJ o=true->Cm 3 q f->Cm 2 (p++o::q) (e++f++[⟨yI o,0,⟨#[]⟩⟩])
 | s1 (p:List ByteArray) (e:List qM):Cm 2 p e->Cm 1 p e
 | s2 (p:List ByteArray) (o:ByteArray) (q:List ByteArray) (e f:List qM):Cm 1 p e->kp kL o=true->Cm 2 q f->Cm 1 (p++o::q) (e++f++[⟨yI o,0,⟨#[]⟩⟩])
 | e1 (p:List ByteArray) (e:List qM):Cm 1 p e->Cm 0 p e
 | e2 (p:List ByteArray) (o:ByteArray) (q:List ByteArray) (e f:List qM):Cm 1 p e->kp kF o=true->Cm 1 q f->Cm 0 (p++o::q) (e++f++[⟨yI o,0,⟨#[]⟩⟩])
theorem Cm.is {e:List qM} (h:Cm k p e):Is k p:=by
 induction h with
 | num x h=>exact .num x h
 | br x h=>exact .br x h
 | neg p _ _ ih=>exact .neg p ih
 | par p _ _ ih=>exact .par p ih
 | rE x p _ hx _ ih=>exact .rE x p hx ih
 | t1 p _ _ ih=>exact .t1 p ih
 | t2 p o q _ _ _ ho _ ih1 ih2=>exact .t2 p o q ih1 ho ih2
 | s1 p _ _ ih=>exact .s1 p ih
 | s2 p o q _ _ _ ho _ ih1 ih2=>exact .s2 p o q ih1 ho ih2
 | e1 p _ _ ih=>exact .e1 p ih
 | e2 p o q _ _ _ ho _ ih1 ih2=>exact .e2 p o q ih1 ho ih2
structure Level (sg:Ib) (lo hi:Int) (k K:Nat):Prop where
 code:∀x,(lo<=yI x/\yI x<=hi)↔kp sg x=true
 base:∀p,Is k p->Is K p
 up:∀p o q,Is K p->kp sg o=true->Is k q->Is K (p++o::q)
 sgn:∀o,kp sg o=true->Bd o
 nob:∀o,kp sg o=true->¬o=qI
 Gq:∀p e,Cm k p e->Cm K p e
 cup:∀p o q e f,Cm K p e->kp sg o=true->Cm k q f->Cm K (p++o::q) (e++f++[⟨yI o,0,⟨#[]⟩⟩])
theorem mK:Level vJ 7 9 3 2:=⟨px,.t1,fun p o q=>.t2 p o q,fun _=>ay,fun o h=>by rcases JO h with rfl | rfl | rfl <;> simp[qI],.t1,.t2⟩
theorem mS:Level kL 5 6 2 1:=⟨iE,.s1,fun p o q=>.s2 p o q,fun _=>ba,fun o h=>by rcases JT h with rfl | rfl <;> simp[qI],.s1,.s2⟩
theorem uz (h:kp kF o=D):¬o=qI:=by rcases VD h with rfl | rfl <;> simp[qI]
theorem Bd.CV (h:Bd o):yg o=false:=by
 have:=h.opd;simp[KX]at this;exact this.1.1.1
theorem jI (V A:Ia->Bool) (h:yg o=false) (q:Ib):toksOK V A (o::q)=toksOK V A q:=by
 rw[toksOK,zA (by rw[h];simp)];rfl
def Sound (pf:List Tk->JX) (k:Nat):Prop:=∀ts e r,jf ts->pf ts=Q (e,r)->∃p,ts=p++r/\Is k (tx p)/\(∀V A,ZG V A e=toksOK V A (tx p))/\Cm k (tx p) e
theorem gB {pf:List Tk->JX} {sg:Ib} {lo hi:Int} {k K:Nat} (L:Level sg lo hi k K) (h:Sound pf k):∀(g:Nat) (a:Ib) (ea:List qM) (ts:List Tk) (e:List qM) (r:List Tk),jf ts->Is K a->Cm K a ea->pLoop pf lo hi g ts=Q (e,r)->
  ∃p,ts=p++r/\Is K (a++tx p)/\(¬first (tx p)=qI)/\(∀V A,ZG V A e=toksOK V A (tx p))/\Cm K (a++tx p) (ea++e)
 | 0,_,_,_,_,_,_,_,_,h'=>by simp[pLoop]at h'
 | g+1,a,ea,[],e,r,_,ha,hca,h'=>by
  simp[pLoop]at h';obtain⟨rfl,rfl⟩:=h';exact⟨[],rfl,by simpa[tx] using ha,by simp[tx,first,ve,qI],fun V A=>rfl,by simpa[tx] using hca⟩
 | g+1,a,ea,t::ts,e,r,hok,ha,hca,h'=>by
  rw[pLoop]at h';split at h'
  ·rename_i hc;have o:=(L.code _).mp hc;cases h1:pf ts with
   | none=>rw[h1]at h';cases h'
   | some x=>
    obtain⟨I,r1⟩:=x;rw[h1]at h';simp only at h';obtain⟨z,j,W,O,T⟩:=h ts I r1 hok.tail h1;cases h2:pLoop pf lo hi g r1 with
    | none=>rw[h2]at h';cases h'
    | some y=>
     obtain⟨H,J⟩:=y;rw[h2]at h';simp only[zx,yZ]at h';obtain⟨rfl,rfl⟩:=h';have f:jf r1:=by rw[j]at hok;exact hok.tail.right
     have F:=L.up a t.text (tx z) ha o W;have i:=L.cup a t.text (tx z) ea I hca o T;obtain⟨M,G,U,n2,N,R⟩:=gB L h g _ _ r1 H J f F i h2;refine⟨t::(z++M),by rw[j,G];simp,?_,?_,fun V A=>?_,by rw[xq,ZP];simpa using R⟩
     ·rw[xq,ZP];simpa using U
     ·rw[xq];exact L.nob _ o
     ·rw[xq,jI V A (L.sgn _ o).CV,ZP,ZQ V A n2,jm,O V A];congr 1;show ((if yI t.text=2 then _ else if yI t.text=3 then _ else D) && ZG V A H)=_;have d:¬yI t.text=2/\¬yI t.text=3:=by
       unfold yI
       repeat' split
       all_goals omega
      rw[zA d.1,zA d.2,N V A];rfl
  ·simp only[zx,yZ]at h';obtain⟨rfl,rfl⟩:=h';exact⟨[],rfl,by simpa[tx] using ha,by simp[tx,first,ve,qI],fun V A=>rfl,by simpa[tx] using hca⟩
theorem dw {pf:List Tk->JX} (L:Level sg lo hi k K) (h:Sound pf k):Sound (Xa pf lo hi) K:=by
 intro ts e r f d;unfold Xa at d;cases h1:pf ts with
 | none=>rw[h1]at d;cases d
 | some x=>
  obtain⟨R,r1⟩:=x;rw[h1]at d;simp only at d;obtain⟨F,j,N,H,J⟩:=h ts R r1 f h1;cases h2:pLoop pf lo hi 25 r1 with
  | none=>rw[h2]at d;simp[Yb]at d
  | some y=>
   obtain⟨O,z⟩:=y;rw[h2]at d;simp only[Yb,zx,yZ]at d;obtain⟨rfl,rfl⟩:=d;have i:jf r1:=by rw[j]at f;exact f.right
   obtain⟨D,o,M,n2,G,I⟩:=gB L h 25 _ _ r1 O z i (L.base _ N) (L.Gq _ _ J) h2;refine⟨F++D,by rw[j,o];simp,by rw[ZP];exact M,fun V A=>?_,by rw[ZP];exact I⟩;rw[ZP,ZQ V A n2,jm,H V A,G V A]
theorem V6 {pf:List Tk->JX} (h:Sound pf 3):Sound (pComp pf) 0:=by
 have J:Sound (VI pf) 1:=dw mS (dw mK h);intro ts e r j d;unfold pComp at d;cases h1:VI pf ts with
 | none=>rw[h1]at d;cases d
 | some x=>
  obtain⟨U,r1⟩:=x;rw[h1]at d;obtain⟨z,i,H,F,G⟩:=J ts U r1 j h1;cases r1 with
  | nil=>
   simp only[zx,yZ]at d;obtain⟨rfl,rfl⟩:=d;exact⟨z,i,.e1 _ H,F,.e1 _ _ G⟩
  | cons t r1=>
   simp only at d;split at d
   ·rename_i hc;have f:=(gn _).mp hc;cases h2:VI pf r1 with
    | none=>rw[h2]at d;cases d
    | some y=>
     obtain⟨T,L⟩:=y;rw[h2]at d;simp only[zx,yZ]at d;obtain⟨rfl,rfl⟩:=d;have o:jf r1:=by rw[i]at j;exact j.right.tail
     obtain⟨M,I,R,N,O⟩:=J r1 T L o h2;refine⟨z++t::M,by rw[i,I];simp,by rw[ZP,xq];exact .e2 _ _ _ H f R,fun V A=>?_,by rw[ZP,xq];exact .e2 _ _ _ _ _ G f O⟩;rw[ZP,xq,ZQ V A (by exact uz f),jI V A (eb f).CV,jm,jm,F V A,N V A];have k:¬yI t.text=2/\¬yI t.text=3:=by omega
     show (_ && ((if yI t.text=2 then _ else if yI t.text=3 then _ else D) && D))=_;rw[zA k.1,zA k.2];simp
   ·simp only[zx,yZ]at d;obtain⟨rfl,rfl⟩:=d;exact⟨z,i,.e1 _ H,F,.e1 _ _ G⟩
theorem ZV (b:UInt8) (h:qt (b.toNat:Int)=false):yg ⟨#[b]⟩=false:=by
 have e:qC ⟨#[b]⟩ 0=(b.toNat:Int):=by rw[jB (by show 0 < 1;decide)];rfl
 simp[yg,e,h]
theorem bU {last:List qM} {y:JX} {e:List qM} {r:List Tk} (h:closed x last y=Q (e,r)):∃e1 t,y=Q (e1,t::r)/\t.text=x/\e=e1++last:=by
 unfold closed at h;split at h
 ·cases h
 ·cases h
 ·rename_i e1 t r1;split at h
  ·rename_i ht;simp only[zx,yZ]at h;obtain⟨rfl,rfl⟩:=h;exact⟨e1,t,rfl,ht,rfl⟩
  ·cases h
theorem ak:∀f,Sound (yV f) 3
 | 0=>by intro ts e r _ h;simp[yV]at h
 | f+1=>by
  intro ts e r i h;have G:=ak f;cases ts with
  | nil=>simp[yV]at h
  | cons t ts=>
   rw[yV]at h;split at h
   ·rename_i hm;cases h1:yV f ts with
    | none=>rw[h1]at h;cases h
    | some x=>
     obtain⟨y,H⟩:=x;rw[h1]at h;simp only[zx,yZ]at h;obtain⟨rfl,rfl⟩:=h;obtain⟨j,k,F,z,D⟩:=G ts y H i.tail h1;refine⟨t::j,by rw[k];rfl,by rw[xq,hm];exact .neg _ F,fun V A=>?_,by rw[xq,hm];exact .neg _ _ D⟩;rw[xq,hm,jI V A (ZV 45 (by decide)),jm,z V A];simp[ZG]
   ·split at h
    ·rename_i hm hp;obtain⟨y,c,h1,o,rfl⟩:=bU h;obtain⟨j,k,F,z,D⟩:=V6 G ts y (c::r) i.tail h1;refine⟨t::(j++[c]),by rw[k];simp,?_,fun V A=>?_,?_⟩
     ·rw[xq,ZP,hp];show Is 3 (aZ::(tx j++[c.text]));rw[o];exact .par _ F
     ·rw[xq,hp,jI V A (ZV 40 (by decide)),ZP];show _=toksOK V A (tx j++[c.text]);rw[o,ZQ V A (by show ¬(⟨#[41]⟩:Ia)=⟨#[91]⟩;simp),jI V A (ZV 41 (by decide)),jm,z V A];rfl
     ·rw[xq,ZP,hp,yX];show Cm 3 (aZ::(tx j++[c.text])) y;rw[o];exact .par _ _ D
    ·split at h
     ·rename_i hm hp hk;simp only[zx,yZ]at h;obtain⟨rfl,rfl⟩:=h;have hn:=i.head.num.mp hk;refine⟨[t],rfl,.num _ hn,fun V A=>?_,.num _ hn⟩;have:yg t.text=false:=by
       cases hq:yg t.text with
       | false=>rfl
       | true=>have:=i.head.br.mpr hq;omega
      show _=toksOK V A [t.text];rw[jI V A this];simp[ZG,toksOK]
     ·split at h
      ·rename_i hm hp hk hn;have d:=i.head.br.mp hn;cases ts with
       | nil=>
        simp only[pVar,zx,yZ]at h;obtain⟨rfl,rfl⟩:=h;refine⟨[t],rfl,.br _ d,fun V A=>?_,.br _ d⟩;show _=toksOK V A [t.text];rw[toksOK,zE d,zA (by simp[first,ve,qI])];simp[ZG,toksOK]
       | cons u ts=>
        rw[pVar]at h;split at h
        ·rename_i hu;obtain⟨y,c,h1,o,rfl⟩:=bU h;obtain⟨j,k,F,z,D⟩:=V6 G ts y (c::r) i.tail.tail h1;refine⟨t::u::(j++[c]),by rw[k];simp,?_,fun V A=>?_,?_⟩
         ·rw[xq,xq,ZP,hu];show Is 3 (t.text::qI::(tx j++[c.text]));rw[o];exact .rE _ _ d F
         ·rw[xq,xq,hu,ZP];show _=toksOK V A (t.text::⟨#[91]⟩::(tx j++[c.text]));rw[toksOK,zE d,zE (show first (⟨#[91]⟩::(tx j++[c.text]))=qI from rfl),jI V A (ZV 91 (by decide)),o,ZQ V A (by show ¬(⟨#[93]⟩:Ia)=⟨#[91]⟩;simp),jI V A (ZV 93 (by decide)),jm,z V A];simp[ZG,toksOK,Bool.and_comm]
         ·rw[xq,xq,ZP,hu];show Cm 3 (t.text::qI::(tx j++[c.text])) _;rw[o];exact .rE _ _ _ d D
        ·rename_i hu;simp only[zx,yZ]at h;obtain⟨rfl,rfl⟩:=h;refine⟨[t],rfl,.br _ d,fun V A=>?_,.br _ d⟩;show _=toksOK V A [t.text];rw[toksOK,zE d,zA (by simp[first,ve,qI])];simp[ZG,toksOK]
      ·cases h
theorem Jt:Sound Z1 0:=V6 (ak 24)
open Rt
inductive eD (sg:List ByteArray) (k:Nat):List ByteArray->Prop
 | nil:eD sg k []
 | cons (o:ByteArray) (q r:List ByteArray):kp sg o=true->Is k q->eD sg k r->eD sg k (o::(q++r))
theorem eD.snoc (h:eD sg k t) (o:Ia) (q:Ib) (f:kp sg o=D) (d:Is k q):eD sg k (t++o::q):=by
 induction h with
 | nil=>have:=eD.cons o q [] f d .nil;simpa using this
 | cons o' q' r' ho' hq' _ ih=>have:=eD.cons o' q' _ ho' hq' ih;simpa using this
theorem wN (h:Is k p):k=2->∃a t,p=a++t/\Is 3 a/\eD vJ 3 t:=by
 induction h with
 | t1 p hp _=>intro _;exact⟨p,[],by simp,hp,.nil⟩
 | t2 p o q hp ho hq ih _=>
  intro _;obtain⟨a,t,rfl,f,d⟩:=ih rfl;exact⟨a,t++o::q,by simp,f,d.snoc o q ho hq⟩
 | _=>intro h;omega
theorem Br (h:Is k p):k=1->∃a t,p=a++t/\Is 2 a/\eD kL 2 t:=by
 induction h with
 | s1 p hp _=>intro _;exact⟨p,[],by simp,hp,.nil⟩
 | s2 p o q hp ho hq ih _=>
  intro _;obtain⟨a,t,rfl,f,d⟩:=ih rfl;exact⟨a,t++o::q,by simp,f,d.snoc o q ho hq⟩
 | _=>intro h;omega
theorem tZ (h:Is k p):k=0->Is 1 p\/∃a o b,p=a++o::b/\Is 1 a/\kp kF o=D/\Is 1 b:=by
 intro d;cases h with
 | e1 p hp=>exact Or.inl hp
 | e2 p o q hp ho hq=>exact Or.inr ⟨p,o,q,rfl,hp,ho,hq⟩
 | _=>omega
theorem nV (h:Is k p):k=3->(∃x,p=[x]/\xi x=D)\/(∃x,p=[x]/\yg x=D)\/(∃q,p=QM::q/\Is 3 q)\/(∃q,p=aZ::(q++[dS])/\Is 0 q)\/(∃x q,p=x::qI::(q++[kM])/\yg x=D/\Is 0 q):=by
 intro d;cases h with
 | num x h=>exact Or.inl ⟨x,rfl,h⟩
 | br x h=>exact Or.inr (Or.inl ⟨x,rfl,h⟩)
 | neg p h=>exact Or.inr (Or.inr (Or.inl ⟨p,rfl,h⟩))
 | par p h=>exact Or.inr (Or.inr (Or.inr (Or.inl ⟨p,rfl,h⟩)))
 | rE x p hx h=>exact Or.inr (Or.inr (Or.inr (Or.inr ⟨x,p,rfl,hx,h⟩)))
 | _=>omega
def Ends (lo hi:Int) (r:List Tk):Prop:=(¬first (tx r)=qI)/\¬(lo<=yI (first (tx r))/\yI (first (tx r))<=hi)
def rU (pf:List Tk->JX) (k n:Nat) (lo hi:Int):Prop:=∀p r,jf (p++r)->Is k (tx p)->G p<=n->Ends lo hi r->∃e,pf (p++r)=Q (e,r)
theorem X3 {p:List Tk} (h:tx p=a++b):∃p1 p2,p=p1++p2/\tx p1=a/\tx p2=b:=by
 obtain⟨p1,p2,i,f,d⟩:=List.map_eq_append_iff.mp h;exact⟨p1,p2,i,f,d⟩
theorem jj {p:List Tk} (h:tx p=x::b):∃t p2,p=t::p2/\t.text=x/\tx p2=b:=by
 obtain⟨t,p2,i,f,d⟩:=List.map_eq_cons_iff.mp h;exact⟨t,p2,i,f,d⟩
theorem cC {p:List Tk} (h:tx p=[]):p=[]:=by simpa[tx] using h
theorem sZ:yI (first [])=0:=by
 simp[first,ve,yI]
theorem Ai {pf:List Tk->JX} (L:Level sg lo hi k K) (h:rU pf k n l1 h1) (z:∀o,kp sg o=D->¬(l1<=yI o/\yI o<=h1)):∀(g:Nat) (p r:List Tk),jf (p++r)->eD sg k (tx p)->G p<=n->G p < g->Ends lo hi r->Ends l1 h1 r->∃e,pLoop pf lo hi g (p++r)=Q (e,r):=by
 intro g
 induction g with
 | zero=>intro p r _ _ _ O;omega
 | succ g ih=>
  intro p r y ht T O N i;generalize f:tx p=l at ht;cases ht with
  | nil=>
   have:=cC f;subst this;cases r with
   | nil=>exact⟨_,rfl⟩
   | cons t r=>
    refine⟨[],?_⟩;show pLoop pf lo hi (g+1) (t::r)=_;rw[pLoop,zA (show ¬(lo<=yI t.text/\yI t.text<=hi)from N.2)]
  | cons o q rest ho hq hrest=>
   obtain⟨t,V,rfl,I,H⟩:=jj f;obtain⟨J,pr,rfl,U,R⟩:=X3 H;simp only[yE,ze]at T O;have x:Ends l1 h1 (pr++r):=by
    cases pr with
    | nil=>simpa using i
    | cons u pr=>
     have M:kp sg u.text=D:=by
      rw[<-R]at hrest;generalize j:tx (u::pr)=l2 at hrest;cases hrest with
      | nil=>simp[tx]at j
      | cons o' q' r' ho' _ _=>rw[xq]at j;injection j with j;rw[j];exact ho'
     exact⟨L.nob _ M,z _ M⟩
   have d:jf (J++(pr++r)):=by
    have:=y;simp only[yF,yK]at this;exact this.tail
   obtain⟨Z,F⟩:=h J (pr++r) d (by rw[U];exact hq) (by omega) x;obtain⟨W,A⟩:=ih pr r d.right (by rw[R];exact hrest) (by omega) (by omega) N i;apply Exists.intro;simp only[yF,yK];rw[pLoop,zE ((L.code _).mpr (by rw[I];exact ho)),F];simp only;rw[A]
theorem gz {pf:List Tk->JX} (L:Level sg lo hi k K) (h:rU pf k n l1 h1) (i:∀o,kp sg o=D->¬(l1<=yI o/\yI o<=h1)) (y:∀p,Is K p->∃a t,p=a++t/\Is k a/\eD sg k t) (W:n<=24) {p r:List Tk} (d:jf (p++r)) (M:Is K (tx p)) (N:G p<=n) (J:Ends lo hi r) (f:Ends l1 h1 r):∃e,Xa pf lo hi (p++r)=Q (e,r):=by
 obtain⟨a,t,O,R,ht⟩:=y _ M;obtain⟨I,pt,rfl,T,H⟩:=X3 O;simp only[ze]at N;rw[yK]at d ⊢;have x:Ends l1 h1 (pt++r):=by
  cases pt with
  | nil=>simpa using f
  | cons u pt=>
   have F:kp sg u.text=D:=by
    rw[<-H]at ht;generalize j:tx (u::pt)=l2 at ht;cases ht with
    | nil=>simp[tx]at j
    | cons o' q' r' ho' _ _=>rw[xq]at j;injection j with j;rw[j];exact ho'
   exact⟨L.nob _ F,i _ F⟩
 obtain⟨V,A⟩:=h I (pt++r) d (by rw[T];exact R) (by omega) x;obtain⟨U,z⟩:=Ai L h i 25 pt r d.right (by rw[H];exact ht) (by omega) (by omega) J f;refine⟨V++U,?_⟩;unfold Xa;rw[A];simp only;rw[z];rfl
theorem Ends.sub {lo' hi':Int} {r:List Tk} (h:Ends lo hi r) (f:lo<=lo') (d:hi'<=hi):Ends lo' hi' r:=⟨h.1,fun ⟨a,b⟩=>h.2 ⟨by omega,by omega⟩⟩
theorem mL {pf:List Tk->JX} (y:n<=24) (h:rU pf 3 n 100 0):rU (pComp pf) 0 n 5 11:=by
 have A:rU (VQ pf) 2 n 7 9:=fun p r hok hp hl hr=>gz mK h (fun o _=>by omega) (fun p hp=>wN hp rfl) y hok hp hl hr ⟨hr.1,by omega⟩;have d:∀o,kp kL o=D->¬(7<=yI o/\yI o<=9):=fun o ho hc=>by
  have J:=(iE o).mpr ho;omega
 have f:rU (VI pf) 1 n 5 9:=fun p r hok hp hl hr=>gz mS A d (fun p hp=>Br hp rfl) y hok hp hl (hr.sub (by omega) (by omega)) (hr.sub (by omega) (by omega));intro p r hok hp hl hr;rcases tZ hp rfl with hp | ⟨a,o,b,he,ha,ho,hb⟩
 ·obtain⟨e,he⟩:=f p r hok hp hl (hr.sub (by omega) (by omega));refine⟨e,?_⟩;unfold pComp;rw[he];cases r with
  | nil=>rfl
  | cons t r=>
   simp only;rw[zA];intro hc;exact hr.2 ⟨by show 5<=yI t.text;omega,by show yI t.text<=11;omega⟩
 ·obtain⟨z,I,rfl,H,G⟩:=X3 he;obtain⟨t,x,rfl,k,F⟩:=jj G;simp only[ze,yE]at hl;rw[yK]at hok ⊢;rw[yF]at hok ⊢;have hc:=(gn o).mpr ho;obtain⟨M,j⟩:=f z (t::(x++r)) hok (by rw[H];exact ha) (by omega) ⟨by show ¬t.text=qI;rw[k];exact uz ho,by
   show ¬(5<=yI t.text/\yI t.text<=9);rw[k];omega⟩
  obtain⟨L,i⟩:=f x r hok.right.tail (by rw[F];exact hb) (by omega) (hr.sub (by omega) (by omega));apply Exists.intro;unfold pComp;rw[j];simp only;rw[k,zE hc,i]
theorem Jm (h:yg x=D\/xi x=D) (b:UInt8) (f:qt (b.toNat:Int)=false) (d:jo (b.toNat:Int)=false):¬x=⟨#[b]⟩:=by
 have:=mY h b f d;rw[ZF,kH]at this;exact this
theorem closing (b:UInt8) (h:b=41\/b=93):(¬(⟨#[b]⟩:Ia)=qI)/\¬(5<=yI ⟨#[b]⟩/\yI ⟨#[b]⟩<=11):=by
 rcases h with rfl | rfl <;> simp[qI,yI]
theorem dt:∀n,n<=24->rU (yV n) 3 n 100 0
 | 0,_=>by
  intro p r _ hp y;have:=(kh hp).ne;rw[KE]at this;omega
 | n+1,hn=>by
  intro p r d hp y J;have I:=dt n (by omega);have o:=mL (by omega) I;rcases nV hp rfl with⟨x,he,hx⟩| ⟨x,he,hx⟩| ⟨q,he,hq⟩| ⟨q,he,hq⟩| ⟨x,q,he,hx,hq⟩
  ·obtain⟨t,k,rfl,f,i⟩:=jj he;have:=cC i;subst this;apply Exists.intro;simp only[yF,xN];rw[yV,zA (by rw[f];exact Jm (Or.inr hx) 45 (by decide) (by decide)),zA (by rw[f];exact Jm (Or.inr hx) 40 (by decide) (by decide)),zE (d.head.num.mpr (by rw[f];exact hx))]
  ·obtain⟨t,k,rfl,f,i⟩:=jj he;have:=cC i;subst this;have A:=d.head.br.mpr (by rw[f];exact hx);simp only[yF,xN];rw[yV,zA (by rw[f];exact Jm (Or.inl hx) 45 (by decide) (by decide)),zA (by rw[f];exact Jm (Or.inl hx) 40 (by decide) (by decide)),zA (by omega),zE A];cases r with
   | nil=>exact⟨_,rfl⟩
   | cons u r=>
    apply Exists.intro;rw[pVar,zA (show ¬u.text=⟨#[91]⟩from J.1)]
  ·obtain⟨t,k,rfl,f,i⟩:=jj he;simp only[yE]at y;obtain⟨e,h⟩:=I k r d.tail (by rw[i];exact hq) (by omega) J;apply Exists.intro;rw[yF,yV,zE (show t.text=⟨#[45]⟩from f),h]
  ·obtain⟨t,k,rfl,f,i⟩:=jj he;obtain⟨z,L,rfl,G,F⟩:=X3 i;obtain⟨c,M,rfl,j,D⟩:=jj F;have:=cC D;subst this;simp only[yE,ze,qQ]at y;simp only[yF,yK,xN]at d ⊢;obtain⟨e,h⟩:=o z (c::r) d.tail (by rw[G];exact hq) (by omega) (by
    have:=closing 41 (Or.inl rfl);refine⟨by show ¬c.text=qI;rw[j];exact this.1,by show ¬(5<=yI c.text/\yI c.text<=11);rw[j];exact this.2⟩)
   apply Exists.intro;rw[yV,zA (by rw[f];show ¬(⟨#[40]⟩:Ia)=⟨#[45]⟩;simp),zE (show t.text=⟨#[40]⟩from f),h,closed,zE (show c.text=⟨#[41]⟩from j)]
  ·obtain⟨t,k,rfl,f,i⟩:=jj he;obtain⟨u,k,rfl,H,i⟩:=jj i;obtain⟨z,L,rfl,G,F⟩:=X3 i;obtain⟨c,M,rfl,j,D⟩:=jj F;have:=cC D;subst this;simp only[yE,ze,qQ]at y;simp only[yF,yK,xN]at d ⊢;have A:=d.head.br.mpr (by rw[f];exact hx);obtain⟨e,h⟩:=o z (c::r) d.tail.tail (by rw[G];exact hq) (by omega) (by
    have:=closing 93 (Or.inr rfl);refine⟨by show ¬c.text=qI;rw[j];exact this.1,by show ¬(5<=yI c.text/\yI c.text<=11);rw[j];exact this.2⟩)
   apply Exists.intro;rw[yV,zA (by rw[f];exact Jm (Or.inl hx) 45 (by decide) (by decide)),zA (by rw[f];exact Jm (Or.inl hx) 40 (by decide) (by decide)),zA (by omega),zE A,pVar,zE (show u.text=⟨#[91]⟩from H),h,closed,zE (show c.text=⟨#[93]⟩from j)]
theorem JN:rU Z1 0 24 5 11:=mL (zB _) (dt 24 (zB _))
open Rt
def kS:Ia:=⟨#[44]⟩
def Ym:Ia:=⟨#[116,111]⟩
theorem Vs (h:yg x=D\/xi x=D):¬x=kS/\¬x=Ym:=by
 refine⟨Jm h 44 (by decide) (by decide),?_⟩;rintro rfl;rcases h with h | h
 ·simp[yg,Ym,kp,KM]at h
 ·have e:qC Ym 0=116:=by rw[jB (by show 0 < 2;decide)];rfl
  simp[xi,e,jo]at h
theorem KY (b:UInt8) (h:¬b=44):¬(⟨#[b]⟩:Ia)=kS/\¬(⟨#[b]⟩:Ia)=Ym:=by
 refine⟨?_,?_⟩
 ·intro e;simp[kS]at e;exact h e
 ·intro e;simp[Ym]at e
theorem C7 (h:kp vJ o=D\/kp kL o=D\/kp kF o=D):¬o=kS/\¬o=Ym:=by
 rcases h with h | h | h
 ·rcases JO h with rfl | rfl | rfl <;> exact KY _ (by decide)
 ·rcases JT h with rfl | rfl <;> exact KY _ (by decide)
 ·rcases VD h with rfl | rfl <;> exact KY _ (by decide)
theorem K7 (h:Is k p):∀x∈p,¬x=kS/\¬x=Ym:=by
 induction h with
 | num x h=>intro y hy;simp at hy;subst hy;exact Vs (Or.inr h)
 | br x h=>intro y hy;simp at hy;subst hy;exact Vs (Or.inl h)
 | neg p _ ih=>
  intro y hy;rcases zw.mp hy with rfl | hy
  ·exact KY 45 (by decide)
  ·exact ih y hy
 | par p _ ih=>
  intro y hy;simp only[zw,zd,qb,Z2]at hy;rcases hy with rfl | hy | rfl
  ·exact KY 40 (by decide)
  ·exact ih y hy
  ·exact KY 41 (by decide)
 | rE x p hx _ ih=>
  intro y hy;simp only[zw,zd,qb,Z2]at hy;rcases hy with rfl | rfl | hy | rfl
  ·exact Vs (Or.inl hx)
  ·exact KY 91 (by decide)
  ·exact ih y hy
  ·exact KY 93 (by decide)
 | t1 p _ ih=>exact ih
 | t2 p o q _ ho _ ih1 ih2=>
  intro y hy;simp only[zw,zd]at hy;rcases hy with hy | rfl | hy
  ·exact ih1 y hy
  ·exact C7 (Or.inl ho)
  ·exact ih2 y hy
 | s1 p _ ih=>exact ih
 | s2 p o q _ ho _ ih1 ih2=>
  intro y hy;simp only[zw,zd]at hy;rcases hy with hy | rfl | hy
  ·exact ih1 y hy
  ·exact C7 (Or.inr (Or.inl ho))
  ·exact ih2 y hy
 | e1 p _ ih=>exact ih
 | e2 p o q _ ho _ ih1 ih2=>
  intro y hy;simp only[zw,zd]at hy;rcases hy with hy | rfl | hy
  ·exact ih1 y hy
  ·exact C7 (Or.inr (Or.inr ho))
  ·exact ih2 y hy
def joinC:List Ib->Ib
 | []=>[]
 | [a]=>a
 | a::b::r=>a++kS::joinC (b::r)
theorem gK:∀(ps:List Ib) (l:Ib),joinC (ps++[l])=ps.flatMap (fun p=>p++[kS])++l
 | [],l=>by simp[joinC]
 | [a],l=>by simp[joinC]
 | a::b::r,l=>by
  have d:=gK (b::r) l;show joinC (a::b::(r++[l]))=_;rw[joinC];rw[yF]at d;rw[d];simp
theorem gm:((x.toList==[44])=D)↔x=kS:=by
 rw[ZF];simp[kS]
theorem aS (t:Ib):∀i,i<=G t->t.take i=(yd t i).1.flatMap (fun p=>p++[kS])++(t.take i).drop (yd t i).2
 | 0,_=>by simp[yd]
 | i+1,h=>by
  have d:=aS t i (by omega);have o:=K1 t i;have f:t.take (i+1)=t.take i++[ve t i]:=by
   rw[qq (by omega),List.take_succ_eq_append_getElem (by omega)]
  rw[yd];split
  ·rename_i hc;have j:=gm.mp hc.1;simp only;have k:(t.take (i+1)).drop (i+1)=[]:=zp (by rw[jw];omega);rw[List.flatMap_append,k];simp only[Q0,List.flatMap_nil,yX];rw[f,j]
   conv=>lhs;rw[d]
   simp
  ·rw[f,List.drop_append_of_le_length (by rw[jw];omega),<-yK,<-d]
theorem sM (t:Ib):joinC (parts t)=t:=by
 rw[parts];split
 ·rename_i h;rw[yu h];rfl
 ·rw[gK];have:=aS t (G t) (zB _);rw[Zp]at this;exact this.symm
theorem Jc {a b:Ib} (d:∀x∈a,¬x=kS):∀i,i<=G a->yd (a++b) i=([],0)
 | 0,_=>rfl
 | i+1,h=>by
  rw[yd,zA,Jc d i (by omega)];rintro ⟨f,_⟩;rw[JS (by omega),qq (by omega)]at f;exact d _ (zj _) (gm.mp f)
theorem BG:J9 kS=0:=by rw[kS,Kl];decide
theorem aR {a c:Ib} (f:∀x∈a,¬x=kS) (d:eH a):∀j,j<=G c->yd (a++kS::c) (G a+1+j)=(a::(yd c j).1,G a+1+(yd c j).2)
 | 0,_=>by
  rw[qO,yd.eq_def];simp only;rw[zE,Jc f _ (zB _)]
  ·simp[yd]
  ·refine⟨gm.mpr ?_,?_⟩
   ·rw[V7];rfl
   ·rw[YO a _ _ (zB _)];exact d.zero
 | j+1,h=>by
  have i:=aR (c:=c) f d j (by omega);have o:ve (a++kS::c) (G a+1+j)=ve c j:=by
   rw[show (G a)+1+j=G a+(j+1) by omega,Za,vK]
  have k:depth (a++kS::c) (G a+1+j)=depth c j:=by
   rw[show (G a)+1+j=G a+(j+1) by omega,vi,jq,d.zero,BG];omega
  rw[show (G a)+1+(j+1)=(G a+1+j)+1 by omega,yd,o,k,i];by_cases hc:((ve c j).toList==[44])=D/\depth c j=0
  ·rw[zE hc,yd,zE hc];simp only[yF,yZ,vE,jH];refine⟨?_,by omega⟩;congr 1;congr 1;rw[show (G a)+1+j=G a+(j+1) by omega,List.take_append,yw (by omega),show (G a)+(j+1)-G a=j+1 by omega,qz,show (G a)+1+(yd c j).2=G a+((yd c j).2+1) by omega,Zr];rw[zp (by omega),show (G a)+((yd c j).2+1)-G a=(yd c j).2+1 by omega];rfl
  ·rw[zA hc,yd,zA hc]
theorem sN (h:∀x∈a,¬x=kS) (f:eH a) (i:0 < G c):parts (a++kS::c)=a::parts c:=by
 have d:(a++kS::c).length=G a+1+G c:=by simp;omega
 rw[parts,parts,zA (by omega),zA (by omega),d,aR h f _ (zB _)];simp only[yF,vE,jH];congr 2;rw[show (G a)+1+(yd c (G c)).2=G a+((yd c (G c)).2+1) by omega,Zr,zp (by omega),show (G a)+((yd c (G c)).2+1)-G a=(yd c (G c)).2+1 by omega];rfl
theorem AM (d:∀x∈a,¬x=kS) (f:0 < G a):parts a=[a]:=by
 have:=Jc (b:=[]) d _ (zB _);rw[yX]at this;rw[parts,zA (by omega),this];rfl
theorem At:∀(args:List Ib),(∀a∈args,Is 0 a)->0 < G args->0 < (joinC args).length
 | [],_,h=>by simp at h
 | [a],h,_=>(kh (h a (by simp))).ne
 | a::b::r,_,_=>by rw[joinC];simp;omega
theorem aP:∀(args:List Ib),(∀a∈args,Is 0 a)->parts (joinC args)=args
 | [],_=>rfl
 | [a],h=>by
  have d:=h a (by simp);exact AM (fun x hx=>(K7 d x hx).1) (kh d).ne
 | a::b::r,h=>by
  have d:=h a (by simp);have f:∀x∈b::r,Is 0 x:=fun x hx=>h x (by simp at hx ⊢;exact Or.inr hx);rw[joinC,sN (fun x hx=>(K7 d x hx).1) (kh d) (At _ f (by simp)),aP (b::r) f]
theorem Bq:((x.toList==[116,111])=D)↔x=Ym:=by
 rw[ZF];simp[Ym]
theorem Va {b:Ib}:∀(a:Ib) (i:Nat),(∀x∈a,¬x=Ym)->behindFrom (a++Ym::b) i=i+G a
 | [],i,_=>by rw[xN,behindFrom,zE (Bq.mpr rfl)];simp
 | x::a,i,h=>by
  rw[yF,behindFrom,zA (fun e=>h x (by simp) (Bq.mp e)),Va a (i+1) (fun y hy=>h y (by simp[hy]))];simp;omega
theorem VE (h:∀x∈a,¬x=Ym):behind (a++Ym::b)=G a:=by
 unfold behind;rw[Va a 0 h];omega
theorem VZ:∀(t:Ib) (i:Nat),0 < behindFrom t i->i<=behindFrom t i/\behindFrom t i < i+G t/\ve t (behindFrom t i-i)=Ym
 | [],i,h=>by simp[behindFrom]at h
 | x::r,i,h=>by
  rw[behindFrom]at h ⊢;split at h
  ·rename_i hx;rw[zE hx];refine⟨zB _,by simp,?_⟩;rw[jC,VF];exact Bq.mp hx
  ·rename_i hx;rw[zA hx];obtain⟨j,f,d⟩:=VZ r (i+1) h;refine⟨by omega,by simp;omega,?_⟩;rw[show behindFrom r (i+1)-i=(behindFrom r (i+1)-(i+1))+1 by omega,vK];exact d
theorem BQ (h:0 < behind t):behind t < G t/\ve t (behind t)=Ym:=by
 obtain⟨_,f,d⟩:=VZ t 0 h;exact⟨by unfold behind;omega,d⟩
end Rf
end Go.Proofs.YthleadfkfnnadaaGreat
