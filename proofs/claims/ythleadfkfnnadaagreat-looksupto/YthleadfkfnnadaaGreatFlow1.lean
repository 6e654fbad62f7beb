/- The links between lines: the walk of link. -/
import Derived.Test.YthleadfkfnnadaaGreatNest1
set_option maxHeartbeats 4000000
set_option maxRecDepth 100000
set_option linter.unusedSimpArgs false
namespace Go.Proofs.YthleadfkfnnadaaGreat
open Rt Go.Proofs.Tryz
open Go.RowKit
variable {cs:List (List Value)} {bs:List Rt.Zx} {acc r zL:List Rt.PL} {c:List Value} {S g n cap B P i j q:Nat} {row:Option Nat} {lk:Qw} {p:Rt.PL} {bv lv v:Value} {w w' w1 w2:World}
section
attribute [local go_sem ↓] Go.wp_at_zero Go.wp_at_succ
theorem vR.first (h:vR w S bs bv) (f:¬bs=[]) (i:bv=.slice (some ⟨g,0,none⟩) n cap):w.cell? ⟨g,0,none⟩=some (.int .i64 (Rt.kr bs).line):=by
 have j:(js bs)[0]?=some (.int .i64 (Rt.kr bs).line):=by
  cases bs with
  | nil=>exact absurd rfl f
  | cons b r=>simp[js,bX,Rt.kr]
 obtain⟨g',cap',d,_,_,c⟩:=yD h.own j;rw[i]at d;simp at d;rw[d.1];exact c
theorem sH (pl:Rt.PL) (F D A z:Option Addr) (y o k j:Nat) (i f:Int) (h:vR w S bs bv) (H:bs.length<=1000):Calls Tryz.prog 124 #[.pointer (some ⟨S,0,none⟩),.agg (kZ (.slice F pl.yY.length y) #[.int .i64 pl.form.kind,.string pl.form.name,.int .i64 pl.form.cells,.slice D pl.form.params.length o,.slice A pl.form.index.length k,.slice z pl.form.values.length j] i f pl).toArray] w fun e w'=>
   e=.returned (.agg (kZ (.slice F pl.yY.length y) #[.int .i64 pl.form.kind,.string pl.form.name,.int .i64 pl.form.cells,.slice D pl.form.params.length o,.slice A pl.form.index.length k,.slice z pl.form.values.length j] i f (Rt.ym bs pl)).toArray)/\Below w.heap.size w w':=by
 have cs:=zC h.block 0 (by simp);simp at cs;have U:=zQ h.block;rcases en bs with rfl | ⟨pre,b,rfl⟩
 ·obtain⟨ad,cap,rfl⟩:=zK h.own;simp only[qQ]at cs;clear h;simp only[kZ,yF,xN];go_enter func124,ntmps124;go_wp2_with fail;refine zT (v:=.agg (kZ (.slice F pl.yY.length y) #[.int .i64 pl.form.kind,.string pl.form.name,.int .i64 pl.form.cells,.slice D pl.form.params.length o,.slice A pl.form.index.length k,.slice z pl.form.values.length j] i f pl).toArray) ?_ rfl ⟨rfl,((zI _ _).alloc (zB _) _).alloc (by simp) _⟩;simp[results,results124,go_sem,kZ]
 ·obtain⟨g,cap,rfl,hg,d0,d1,d2⟩:=h.last;have d3:=h.first (by simp) rfl;have I:=zt w _ d0;have G:pre.length+1<=1000:=by simpa using H
  simp at I;have W:(((pre.length:Int)+1)==0)=false:=by rw[zV];omega
  have J:=zD (show ∀pl',(.agg (kZ (.slice F pl.yY.length y) #[.int .i64 pl.form.kind,.string pl.form.name,.int .i64 pl.form.cells,.slice D pl.form.params.length o,.slice A pl.form.index.length k,.slice z pl.form.values.length j] i f pl').toArray:Value)=.agg #[.slice F pl.yY.length y,.int .i64 pl.form.kind,.string pl.form.name,.int .i64 pl.form.cells,.slice D pl.form.params.length o,.slice A pl.form.index.length k,.slice z pl.form.values.length j,.int .i64 pl'.depth,.int .i64 pl'.opener,.int .i64 i,.int .i64 f,.int .i64 pl'.proc]from fun pl'=>by simp[kZ]);rw[J.u pl];by_cases hk:pl.form.kind=6\/pl.form.kind=4
  ·have L:Hd (Rt.ym (pre++[b]) pl=⟨pl.yY,pl.form,(pre.length:Int),b.line,(Rt.kr (pre++[b])).line⟩):=by
    refine zD ?_;rw[Rt.ym,zA (by simp),zE hk,Kb];simp
   generalize (Rt.kr (pre++[b])).line=fl at *;clear h;generalize T:pre.length=m at *;have HM:=zD T;clear T;have a7:(0:Int)<=(m:Int):=by omega
   have a6:(m:Int) < (m:Int)+1:=by omega
   have a5:(m:Int)<=1000:=by omega
   have a4:=bu m G;have Z:=bw m G;have N:(0:Int) < (m:Int)+1:=by omega
   have d:∀(e:Ending),e=.returned (.agg #[.slice F pl.yY.length y,.int .i64 pl.form.kind,.string pl.form.name,.int .i64 pl.form.cells,.slice D pl.form.params.length o,.slice A pl.form.index.length k,.slice z pl.form.values.length j,.int .i64 m,.int .i64 b.line,.int .i64 i,.int .i64 f,.int .i64 fl])->
     e=.returned (.agg (kZ (.slice F pl.yY.length y) #[.int .i64 pl.form.kind,.string pl.form.name,.int .i64 pl.form.cells,.slice D pl.form.params.length o,.slice A pl.form.index.length k,.slice z pl.form.values.length j] i f (Rt.ym (pre++[b]) pl)).toArray):=by
    intro e O;rw[O,J.u,L.u]
   have M:=zD d;clear d J L HM;generalize pl.form.kind=kx at *;rcases hk with hk | hk
   ·have R:(kx==6)=true:=by simpa using hk
    clear hk;go_enter func124,ntmps124;go_wp2_with fail;go_region_held3 (fun w'=>w'.cell? ⟨S,0,none⟩=some (.slice (some ⟨g,0,none⟩) (m+1) cap)/\w'.cell? ⟨g,m*3,none⟩=some (.int .i64 b.line)) (go_keep) (fail);go_wp2_with fail;refine zT (v:=.agg #[.slice F pl.yY.length y,.int .i64 kx,.string pl.form.name,.int .i64 pl.form.cells,.slice D pl.form.params.length o,.slice A pl.form.index.length k,.slice z pl.form.values.length j,.int .i64 m,.int .i64 b.line,.int .i64 i,.int .i64 f,.int .i64 fl]) ?_ rfl ⟨M.u _ rfl,(((zI _ _).alloc (zB _) _).alloc (by simp) _).drew⟩;simp[results,results124,go_sem]
   ·have R:(kx==6)=false:=by rw[hk];rfl
    have V:(kx==4)=true:=by simpa using hk
    clear hk;go_enter func124,ntmps124;go_wp2_with fail;go_region_held3 (fun w'=>w'.cell? ⟨S,0,none⟩=some (.slice (some ⟨g,0,none⟩) (m+1) cap)/\w'.cell? ⟨g,m*3,none⟩=some (.int .i64 b.line)) (go_keep) (fail);go_wp2_with fail;refine zT (v:=.agg #[.slice F pl.yY.length y,.int .i64 kx,.string pl.form.name,.int .i64 pl.form.cells,.slice D pl.form.params.length o,.slice A pl.form.index.length k,.slice z pl.form.values.length j,.int .i64 m,.int .i64 b.line,.int .i64 i,.int .i64 f,.int .i64 fl]) ?_ rfl ⟨M.u _ rfl,(((zI _ _).alloc (zB _) _).alloc (by simp) _).drew⟩;simp[results,results124,go_sem]
  ·have L:Hd (Rt.ym (pre++[b]) pl=⟨pl.yY,pl.form,(pre.length:Int)+1,pl.opener,(Rt.kr (pre++[b])).line⟩):=by
    refine zD ?_;rw[Rt.ym,zA (by simp),zA hk];simp
   generalize (Rt.kr (pre++[b])).line=fl at *;clear h;generalize pre.length=m at *;have d:∀(e:Ending),e=.returned (.agg #[.slice F pl.yY.length y,.int .i64 pl.form.kind,.string pl.form.name,.int .i64 pl.form.cells,.slice D pl.form.params.length o,.slice A pl.form.index.length k,.slice z pl.form.values.length j,.int .i64 ((m:Int)+1),.int .i64 pl.opener,.int .i64 i,.int .i64 f,.int .i64 fl])->
     e=.returned (.agg (kZ (.slice F pl.yY.length y) #[.int .i64 pl.form.kind,.string pl.form.name,.int .i64 pl.form.cells,.slice D pl.form.params.length o,.slice A pl.form.index.length k,.slice z pl.form.values.length j] i f (Rt.ym (pre++[b]) pl)).toArray):=by
    intro e O;rw[O,J.u,L.u]
   have M:=zD d;clear d J L;have N:(0:Int) < (m:Int)+1:=by omega
   generalize pl.form.kind=kx at *;have R:(kx==6)=false:=by rw[zV];exact fun x=>hk (Or.inl x)
   have V:(kx==4)=false:=by rw[zV];exact fun x=>hk (Or.inr x)
   clear hk;go_enter func124,ntmps124;go_wp2_with fail;refine zT (v:=.agg #[.slice F pl.yY.length y,.int .i64 kx,.string pl.form.name,.int .i64 pl.form.cells,.slice D pl.form.params.length o,.slice A pl.form.index.length k,.slice z pl.form.values.length j,.int .i64 ((m:Int)+1),.int .i64 pl.opener,.int .i64 i,.int .i64 f,.int .i64 fl]) ?_ rfl ⟨M.u _ rfl,((zI _ _).alloc (zB _) _).alloc (by simp) _⟩;simp[results,results124,go_sem]
end
theorem Kq.len (h:Kq w B p c):c.length=12:=by
 obtain⟨tv,fv,f,d,rfl,_,⟨j,iv,vv,i,rfl,_⟩⟩:=h;rfl
theorem ja.part {w:World} {B:Nat}:∀(acc:List Rt.PL) (p:Rt.PL) (r:List Rt.PL) (cs:List (List Value)),ja w B (acc++p::r) cs->∃c1 c c2,cs=c1++c::c2/\c1.flatten.length=acc.length*12/\ja w B acc c1/\Kq w B p c/\ja w B r c2
 | [],p,r,c::cs,⟨h1,h2⟩=>⟨[],c,cs,rfl,rfl,trivial,h1,h2⟩
 | [],_,_,[],h=>h.elim
 | a::acc,p,r,c::cs,⟨h1,h2⟩=>by
  obtain⟨c1,k,c2,rfl,d,j,i,f⟩:=ja.part acc p r cs h2;refine⟨c::c1,k,c2,rfl,?_,⟨h1,j⟩,i,f⟩;simp[h1.len]at d ⊢;omega
 | _::_,_,_,[],h=>h.elim
theorem ja.join {w:World} {B:Nat}:∀(acc:List Rt.PL) (p:Rt.PL) (r:List Rt.PL) (c1:List (List Value)) (c:List Value) (c2:List (List Value)),ja w B acc c1->Kq w B p c->ja w B r c2->ja w B (acc++p::r) (c1++c::c2)
 | [],_,_,[],_,_,_,h2,h3=>⟨h2,h3⟩
 | _::acc,p,r,_::c1,c,c2,⟨h1,h1'⟩,h2,h3=>⟨h1,ja.join acc p r c1 c c2 h1' h2 h3⟩
 | [],_,_,_::_,_,_,h,_,_=>h.elim
 | _::_,_,_,[],_,_,h,_,_=>h.elim
def GN (w:World) (g o:Nat) (v0 v1 v2 v3 v4 v5 v6 v7 v8 v9 v10 v11:Value):Prop:=
 w.cell? ⟨g,o,none⟩=some v0/\w.cell? ⟨g,o+1,none⟩=some v1/\w.cell? ⟨g,o+2,none⟩=some v2/\w.cell? ⟨g,o+3,none⟩=some v3/\w.cell? ⟨g,o+4,none⟩=some v4/\
 w.cell? ⟨g,o+5,none⟩=some v5/\w.cell? ⟨g,o+6,none⟩=some v6/\w.cell? ⟨g,o+7,none⟩=some v7/\w.cell? ⟨g,o+8,none⟩=some v8/\w.cell? ⟨g,o+9,none⟩=some v9/\w.cell? ⟨g,o+10,none⟩=some v10/\w.cell? ⟨g,o+11,none⟩=some v11
def FF (w:World) (g o:Nat):Prop:=
 w.frozen? ⟨g,o,none⟩=false/\w.frozen? ⟨g,o+1,none⟩=false/\w.frozen? ⟨g,o+2,none⟩=false/\w.frozen? ⟨g,o+3,none⟩=false/\w.frozen? ⟨g,o+4,none⟩=false/\
 w.frozen? ⟨g,o+5,none⟩=false/\w.frozen? ⟨g,o+6,none⟩=false/\w.frozen? ⟨g,o+7,none⟩=false/\w.frozen? ⟨g,o+8,none⟩=false/\w.frozen? ⟨g,o+9,none⟩=false/\w.frozen? ⟨g,o+10,none⟩=false/\w.frozen? ⟨g,o+11,none⟩=false
theorem qH.get (h:qH w P (acc++p::r) lv cs):∃g cap a0 a1 a2 a3 c0 c1 c2 c3 xe xf,lv=.slice (some ⟨g,0,none⟩) (acc++p::r).length cap/\P < g/\g < w.heap.size/\
   GN w g (acc.length*12) (.slice a0 p.yY.length c0) (.int .i64 p.form.kind) (.string p.form.name) (.int .i64 p.form.cells) (.slice a1 p.form.params.length c1) (.slice a2 p.form.index.length c2) (.slice a3 p.form.values.length c3) (.int .i64 p.depth) (.int .i64 p.opener) (.int .i64 xe) (.int .i64 xf) (.int .i64 p.proc)/\FF w g (acc.length*12)/\
   w.ownsRow (P+1) 188 2 (.slice a0 p.yY.length c0) p.yY.length (qa p.yY)/\
   qk w (P+1) #[.int .i64 p.form.kind,.string p.form.name,.int .i64 p.form.cells,.slice a1 p.form.params.length c1,.slice a2 p.form.index.length c2,.slice a3 p.form.values.length c3] p.form:=by
 obtain⟨c1,c,c2,G,R,_,T,_⟩:=h.lines.part;obtain⟨tv,fv,xe,xf,f,I,J⟩:=T;have F:=J;obtain⟨pv,iv,vv,Z,D,W,V,U,_⟩:=J;obtain⟨a0,O,rfl⟩:=zK I;obtain⟨a1,N,rfl⟩:=zK W;obtain⟨a2,M,rfl⟩:=zK V;obtain⟨a3,L,rfl⟩:=zK U;subst D;have x:∀j u,c[j]?=some u->cs.flatten[acc.length*12+j]?=some u:=by
  intro j u A;rw[G,Xj,yU (by omega),R,vY,Qz,yp (qy.1 A).1];exact A
 have k:=h.own;obtain⟨g,cap,y,hg,z,_⟩:=yD k (x 0 _ (by rw[f];rfl));have d:∀j u,c[j]?=some u->w.cell? ⟨g,acc.length*12+j,none⟩=some u:=by
  intro j u A;obtain⟨g',cap',o,_,_,H⟩:=yD k (x j u A);rw[y]at o;simp at o;rw[o.1];exact H
 have i:∀j,w.frozen? ⟨g,j,none⟩=false:=by
  intro j;rw[y]at k;exact k.frozenAt j
 refine⟨g,cap,a0,a1,a2,a3,O,N,M,L,xe,xf,y,by omega,z,⟨?_,?_,?_,?_,?_,?_,?_,?_,?_,?_,?_,?_⟩,⟨i _,i _,i _,i _,i _,i _,i _,i _,i _,i _,i _,i _⟩,I,F⟩
 ·exact d 0 _ (by rw[f];rfl)
 ·exact d 1 _ (by rw[f];rfl)
 ·exact d 2 _ (by rw[f];rfl)
 ·exact d 3 _ (by rw[f];rfl)
 ·exact d 4 _ (by rw[f];rfl)
 ·exact d 5 _ (by rw[f];rfl)
 ·exact d 6 _ (by rw[f];rfl)
 ·exact d 7 _ (by rw[f];rfl)
 ·exact d 8 _ (by rw[f];rfl)
 ·exact d 9 _ (by rw[f];rfl)
 ·exact d 10 _ (by rw[f];rfl)
 ·exact d 11 _ (by rw[f];rfl)
abbrev Bc (w:World) (g o:Nat) (v0 v1 v2 v3 v4 v5 v6 v7 v8 v9 v10 v11:Value):World:=
 (((((((((((w.setCell ⟨g,o,none⟩ v0).setCell ⟨g,o+1,none⟩ v1).setCell ⟨g,o+2,none⟩ v2).setCell ⟨g,o+3,none⟩ v3).setCell ⟨g,o+4,none⟩ v4).setCell ⟨g,o+5,none⟩ v5).setCell ⟨g,o+6,none⟩ v6).setCell ⟨g,o+7,none⟩ v7).setCell ⟨g,o+8,none⟩ v8).setCell ⟨g,o+9,none⟩ v9).setCell ⟨g,o+10,none⟩ v10).setCell ⟨g,o+11,none⟩ v11
theorem dK (w:World) (g o:Nat) (G F D A z y x j i h f d:Value) (k:Nat) (H:k≠g):(Bc w g o G F D A z y x j i h f d).heap[k]?=w.heap[k]?:=by
 simp only[Bc]
 repeat rw[zO _ _ _ _ H]
theorem Dk (w:World) (g o:Nat) (F D A z y x k j i h f d:Value):(Bc w g o F D A z y x k j i h f d).heap.size=w.heap.size:=by simp[World.setCell]
theorem jP {e:TypeId} {A C:List Value} (h:w.ownsRow B e 12 (.slice (some ⟨g,0,none⟩) n cap) n (A++c++C)) (j:Nat) (v:Value) (f:j < c.length):(w.setCell ⟨g,A.length+j,none⟩ v).ownsRow B e 12 (.slice (some ⟨g,0,none⟩) n cap) n (A++c.set j v++C):=by
 have d:=(h.stored (A.length+j) v).1;have e:(A++c++C).set (A.length+j) v=A++c.set j v++C:=by
  rw[yK,J5,zA (by omega),vY,J5,zE f,yK]
 rw[e]at d;exact d
theorem qH.put {p':Rt.PL} (h:qH w P (acc++p::r) (.slice (some ⟨g,0,none⟩) n cap) cs) (T:n=(acc++p::r).length) (G F D A:Option Addr) (z y x o:Nat) (i f:Int) (ht:w.ownsRow (P+1) 188 2 (.slice G p'.yY.length z) p'.yY.length (qa p'.yY)) (hf:qk w (P+1) #[.int .i64 p'.form.kind,.string p'.form.name,.int .i64 p'.form.cells,.slice F p'.form.params.length y,.slice D p'.form.index.length x,.slice A p'.form.values.length o] p'.form):∃cs',qH (Bc w g (acc.length*12) (.slice G p'.yY.length z) (.int .i64 p'.form.kind) (.string p'.form.name) (.int .i64 p'.form.cells) (.slice F p'.form.params.length y) (.slice D p'.form.index.length x) (.slice A p'.form.values.length o) (.int .i64 p'.depth) (.int .i64 p'.opener) (.int .i64 i) (.int .i64 f) (.int .i64 p'.proc))
   P (acc++p'::r) (.slice (some ⟨g,0,none⟩) n cap) cs':=by
 obtain⟨V,c,U,O,hl,hA,hc,hC⟩:=h.lines.part;have hg:P < g:=by
  have:=(h.own.lt g rfl).1;omega
 have H:Qc w (Bc w g (acc.length*12) (.slice G p'.yY.length z) (.int .i64 p'.form.kind) (.string p'.form.name) (.int .i64 p'.form.cells) (.slice F p'.form.params.length y) (.slice D p'.form.index.length x) (.slice A p'.form.values.length o) (.int .i64 p'.depth) (.int .i64 p'.opener) (.int .i64 i) (.int .i64 f) (.int .i64 p'.proc)) (P+1) (P+1):=by
  intro t R n' v xs L hv;have M:=Ys hv h.own L;obtain⟨h1,h2⟩:=hv;refine⟨h1,?_⟩;rcases h2 with h2 | ⟨g',cap',cur,j,N,hh,rr⟩
  ·exact Or.inl h2
  ·exact Or.inr ⟨g',cap',cur,j,N,by rw[dK _ _ _ _ _ _ _ _ _ _ _ _ _ _ _ _ (fun e=>M g' (by rw[j];rfl) (by rw[e];rfl))];exact hh,rr⟩
 refine⟨V++kZ (.slice G p'.yY.length z) #[.int .i64 p'.form.kind,.string p'.form.name,.int .i64 p'.form.cells,.slice F p'.form.params.length y,.slice D p'.form.index.length x,.slice A p'.form.values.length o] i f p'::U,?_,?_,?_⟩
 ·rw[dK _ _ _ _ _ _ _ _ _ _ _ _ _ _ _ _ (by omega)];exact h.block
 ·have d:=h.own;rw[<-T]at d;have e1:cs.flatten=V.flatten++c++U.flatten:=by rw[O];simp
  have e2:(acc++p'::r).length=n:=by rw[T];simp
  have k:=hc.len
  match c,k with
  | [x0,x1,x2,x3,x4,x5,x6,x7,x8,x9,x10,x11],_=>
   rw[e1]at d;rw[e2,<-hl];have s0:=jP d 0 (.slice G p'.yY.length z) (by simp);have s1:=jP s0 1 (.int .i64 p'.form.kind) (by simp);have s2:=jP s1 2 (.string p'.form.name) (by simp);have s3:=jP s2 3 (.int .i64 p'.form.cells) (by simp);have s4:=jP s3 4 (.slice F p'.form.params.length y) (by simp);have s5:=jP s4 5 (.slice D p'.form.index.length x) (by simp);have s6:=jP s5 6 (.slice A p'.form.values.length o) (by simp);have s7:=jP s6 7 (.int .i64 p'.depth) (by simp);have Z:=jP s7 8 (.int .i64 p'.opener) (by simp);have W:=jP Z 9 (.int .i64 i) (by simp);have J:=jP W 10 (.int .i64 f) (by simp);have I:=jP J 11 (.int .i64 p'.proc) (by simp);simpa[kZ] using I
 ·exact ja.join _ _ _ _ _ _ (H.lines _ _ hA) ⟨_,_,i,f,rfl,H _ _ _ _ _ (by decide) ht,H.form hf⟩ (H.lines _ _ hC)
section
attribute [local go_sem ↓] Go.wp_at_zero Go.wp_at_succ
theorem KL (d:i < zL.length):zL=zL.take i++zL[i]::zL.drop (i+1):=by
 rw[<-zZ d,kt]
theorem qH.at {w:World} {P:Nat} {zL:List Rt.PL} {lv:Value} {cs:List (List Value)} (h:qH w P zL lv cs) {i:Nat} (x:i < zL.length):∃g cap a0 a1 a2 a3 c0 c1 c2 c3 xe xf,lv=.slice (some ⟨g,0,none⟩) zL.length cap/\P < g/\g < w.heap.size/\
   GN w g (i*12) (.slice a0 zL[i].yY.length c0) (.int .i64 zL[i].form.kind) (.string zL[i].form.name) (.int .i64 zL[i].form.cells) (.slice a1 zL[i].form.params.length c1) (.slice a2 zL[i].form.index.length c2) (.slice a3 zL[i].form.values.length c3) (.int .i64 zL[i].depth) (.int .i64 zL[i].opener) (.int .i64 xe) (.int .i64 xf) (.int .i64 zL[i].proc)/\
   w.ownsRow (P+1) 188 2 (.slice a0 zL[i].yY.length c0) zL[i].yY.length (qa zL[i].yY)/\
   qk w (P+1) #[.int .i64 zL[i].form.kind,.string zL[i].form.name,.int .i64 zL[i].form.cells,.slice a1 zL[i].form.params.length c1,.slice a2 zL[i].form.index.length c2,.slice a3 zL[i].form.values.length c3] zL[i].form:=by
 have f:=KL x;have o:(zL.take i).length=i:=by simp;omega
 have k:=h;rw[f]at k;obtain⟨g,cap,a0,a1,a2,a3,c0,c1,c2,c3,xe,xf,d,D,A,j,_,z,y⟩:=k.get;rw[<-f]at d;rw[o]at j;exact⟨g,cap,a0,a1,a2,a3,c0,c1,c2,c3,xe,xf,d,D,A,j,z,y⟩
theorem qH.Q3 (h:qH w P zL lv cs):∃ad cap,lv=.slice ad zL.length cap/\w.cell? ⟨P,0,none⟩=some (.slice ad zL.length cap):=by
 obtain⟨ad,cap,rfl⟩:=zK h.own;exact⟨ad,cap,rfl,zC h.block 0 (by simp)⟩
namespace Rt
def yM (zL:List PL) (n:Int):PL:=if n < 0 then kb else (zL[n.toNat]?).getD kb
theorem Zk (zL:List PL) (n:Int):(yM zL n).form=yA zL n:=by
 unfold yM yA;split
 ·rfl
 ·cases zL[n.toNat]? <;> rfl
theorem QQ {zL:List PL} (h:n < zL.length):yM zL (n:Int)=zL[n]:=by
 rw[yM,zA (by omega)];simp[h]
theorem Ql {zL:List PL} {n:Int} (h:n < 0\/(zL.length:Int)<=n):yM zL n=kb:=by
 unfold yM;split
 ·rfl
 ·rw[xt (by omega)];rfl
end Rt
def Dp (P:Nat) (pl:Rt.PL) (w:World) (e:Ending) (w':World):Prop:=∃a0 a1 a2 a3 c0 c1 c2 c3 xe xf,e=.returned (.agg #[.slice a0 pl.yY.length c0,.int .i64 pl.form.kind,.string pl.form.name,.int .i64 pl.form.cells,.slice a1 pl.form.params.length c1,.slice a2 pl.form.index.length c2,.slice a3 pl.form.values.length c3,.int .i64 pl.depth,.int .i64 pl.opener,.int .i64 xe,.int .i64 xf,.int .i64 pl.proc])/\w'.ownsRow (P+1) 188 2 (.slice a0 pl.yY.length c0) pl.yY.length (qa pl.yY)/\qk w' (P+1) #[.int .i64 pl.form.kind,.string pl.form.name,.int .i64 pl.form.cells,.slice a1 pl.form.params.length c1,.slice a2 pl.form.index.length c2,.slice a3 pl.form.values.length c3] pl.form/\Below w.heap.size w w'
theorem gF (d:Below w.heap.size w w'):Dp P Rt.kb w (.returned (.agg #[.slice none 0 0,.int .i64 0,.string ⟨#[]⟩,.int .i64 0,.slice none 0 0,.slice none 0 0,.slice none 0 0,.int .i64 0,.int .i64 0,.int .i64 0,.int .i64 0,.int .i64 0])) w':=
 ⟨none,none,none,none,0,0,0,0,0,0,rfl,zW _ _ _ _,vM,d⟩
theorem iM {n:Int} (h:qH w P zL lv cs):Calls Tryz.prog 90 #[.pointer (some ⟨P,0,none⟩),.int .i64 n] w (Dp P (yM zL n) w):=by
 obtain⟨ad,cap,j,cP⟩:=h.Q3;have F:=zQ h.block;by_cases h0:n < 0
 ·have y:=zD (Ql (zL:=zL) (Or.inl h0));clear h;go_enter func90,ntmps90;go_wp2_with fail;refine zT (v:=.agg #[.slice none 0 0,.int .i64 0,.string ⟨#[]⟩,.int .i64 0,.slice none 0 0,.slice none 0 0,.slice none 0 0,.int .i64 0,.int .i64 0,.int .i64 0,.int .i64 0,.int .i64 0]) ?_ rfl (by rw[y.u];exact gF ((zI _ _).alloc (zB _) _));simp[results,results90,go_sem]
 by_cases h1:(zL.length:Int)<=n
 ·have y:=zD (Ql (zL:=zL) (Or.inr h1));clear h;go_enter func90,ntmps90;go_wp2_with fail;refine zT (v:=.agg #[.slice none 0 0,.int .i64 0,.string ⟨#[]⟩,.int .i64 0,.slice none 0 0,.slice none 0 0,.slice none 0 0,.int .i64 0,.int .i64 0,.int .i64 0,.int .i64 0,.int .i64 0]) ?_ rfl (by rw[y.u];exact gF ((zI _ _).alloc (zB _) _));simp[results,results90,go_sem]
 obtain⟨k,rfl⟩:=yr (show 0<=n by omega);have o:k < zL.length:=by omega
 obtain⟨g,cap',O,N,M,L,J,I,H,G,A,z,f,_,D,⟨d0,d1,d2,d3,d4,d5,d6,Z,W,V,U,T⟩,i,x⟩:=h.at o;have d:=j.symm.trans f;simp at d;obtain⟨rfl,rfl⟩:=d;have y:=zD (QQ o);have R:=qG i x;clear h x i j f;generalize zL[k]=pl at *;go_enter func90,ntmps90;go_wp2_with fail;refine zT (v:=.agg #[.slice O pl.yY.length J,.int .i64 pl.form.kind,.string pl.form.name,.int .i64 pl.form.cells,.slice N pl.form.params.length I,.slice M pl.form.index.length H,.slice L pl.form.values.length G,.int .i64 pl.depth,.int .i64 pl.opener,.int .i64 A,.int .i64 z,.int .i64 pl.proc]) ?_ rfl (by rw[y.u];exact⟨O,N,M,L,J,I,H,G,A,z,rfl,yG R.u.1 ((zI _ _).alloc (zB _) _),(xZ (B:=P+1) ((zI _ _).alloc (zB _) _)).form R.u.2,(zI _ _).alloc (zB _) _⟩);simp[results,results90,go_sem]
theorem lF (w:World) (a:Addr) (v:Value):w.grownBy (w.setCell a v) (some a.block):=⟨rfl,rfl,rfl,by simp[World.setCell],fun k _ h=>zO w a v k (fun e=>h (by rw[e]))⟩
theorem Qt (h:Below w.heap.size w w1):w.grownBy w1 row:=⟨h.os,h.tape,h.output,h.size,fun k hk _=>h.block k hk⟩
theorem gQ (h:w.grownBy w1 row) (k:w1.grownBy w2 row):w.grownBy w2 row:=
 ⟨k.os.trans h.os,k.tape.trans h.tape,k.output.trans h.output,zi h.size k.size,fun i hi hr=>(k.block i (zX hi h.size) hr).trans (h.block i hi hr)⟩
theorem qH.setE (h:qH w P (acc++p::r) (.slice (some ⟨g,0,none⟩) n cap) cs) (N:n=(acc++p::r).length) (t:Nat) (ht:t=9\/t=10) (x:Int):∃cs',qH (w.setCell ⟨g,acc.length*12+t,none⟩ (.int .i64 x)) P (acc++p::r) (.slice (some ⟨g,0,none⟩) n cap) cs':=by
 obtain⟨U,c,T,D,Z,hA,R,hC⟩:=h.lines.part;have hg:P < g:=by
  have:=(h.own.lt g rfl).1;omega
 have d:∀k,k≠g->(w.setCell ⟨g,acc.length*12+t,none⟩ (.int .i64 x)).heap[k]?=w.heap[k]?:=fun k hk=>zO w ⟨g,acc.length*12+t,none⟩ _ k hk;have H:Qc w (w.setCell ⟨g,acc.length*12+t,none⟩ (.int .i64 x)) (P+1) (P+1):=by
  intro ty J n' v xs o hv;have y:=Ys hv h.own o;obtain⟨j,h2⟩:=hv;refine⟨j,?_⟩;rcases h2 with h2 | ⟨g',cap',cur,i,z,hh,rr⟩
  ·exact Or.inl h2
  ·exact Or.inr ⟨g',cap',cur,i,z,by rw[d g' (fun e=>y g' (by rw[i];rfl) (by rw[e];rfl))];exact hh,rr⟩
 have O:=R.len;obtain⟨tv,fv,W,V,F,j,h2⟩:=R;have G:Kq w (P+1) p (c.set t (.int .i64 x)):=by
  obtain⟨L,iv,vv,I,A,M⟩:=h2;subst A;subst F;rcases ht with rfl | rfl
  ·exact⟨tv,_,x,V,rfl,j,⟨L,iv,vv,I,rfl,M⟩⟩
  ·exact⟨tv,_,W,x,rfl,j,⟨L,iv,vv,I,rfl,M⟩⟩
 refine⟨U++c.set t (.int .i64 x)::T,?_,?_,ja.join _ _ _ _ _ _ (H.lines _ _ hA) (H.line G) (H.lines _ _ hC)⟩
 ·rw[d P (by omega)];exact h.block
 ·have f:=h.own;rw[<-N]at f;have e1:cs.flatten=U.flatten++c++T.flatten:=by rw[D];simp
  rw[e1]at f;have:=jP f t (.int .i64 x) (by omega);rw[Z]at this;rw[<-N];simpa using this
theorem ld {w3:World} (h:qH w2 P zL lv cs) (d:lv=.slice (some ⟨g,0,none⟩) zL.length cap) (o:Below w.heap.size w w2) (A:j < zL.length) (f:Below w2.heap.size w2 w3) (t:Nat) (y:t=9\/t=10) {x:Int}:(∃cs',qH (w3.setCell ⟨g,j*12+t,none⟩ (.int .i64 x)) P zL lv cs')/\w.grownBy (w3.setCell ⟨g,j*12+t,none⟩ (.int .i64 x)) lv.ownBlock:=by
 have k:=h.zP f;have i:=KL A;have z:(zL.take j).length=j:=by simp;omega
 refine⟨?_,?_⟩
 ·rw[d]at k ⊢;rw[i]at k;have:=k.setE (by rw[<-i]) t y x;rw[z,<-i]at this;exact this
 ·rw[d];exact gQ (Qt (o.trans (f.mono o.size))) (lF w3 ⟨g,j*12+t,none⟩ (.int .i64 x))
def VL (w:World) (lv:Value) (lk:Qw):Prop:=∀g n cap,lv=.slice (some ⟨g,0,none⟩) n cap->∀i x,lk[i]?=some x->w.cell? ⟨g,i*12+9,none⟩=some (.int .i64 x.1)/\w.cell? ⟨g,i*12+10,none⟩=some (.int .i64 x.2)
theorem VL.same (h:VL w lv lk) (j:∀g,lv.ownBlock=some g->w'.heap[g]?=w.heap[g]?):VL w' lv lk:=by
 intro g n cap e i x f;obtain⟨o,k⟩:=h g n cap e i x f;have d:=j g (by rw[e];rfl);rw[xG (a:=⟨g,i*12+9,none⟩) d,xG (a:=⟨g,i*12+10,none⟩) d];exact⟨o,k⟩
theorem VL.zP {t:TypeId} {sz:Nat} {xs:List Value} (h:VL w lv lk) (d:w.ownsRow B t sz lv n xs) (f:Below w.heap.size w w'):VL w' lv lk:=
 h.same (fun g hg=>f.block g (d.lt g hg).2)
theorem get_modify {α:Type} (l:List α) (f:α->α) (x:α) (h:(l.modify j f)[i]?=some x):(i=j/\∃y,l[i]?=some y/\x=f y)\/(i≠j/\l[i]?=some x):=by
 rw[qW]at h;cases hy:l[i]? with
 | none=>rw[hy]at h;cases h
 | some y=>
  rw[hy]at h;by_cases e:j=i
  ·simp[e]at h;exact Or.inl ⟨e.symm,y,rfl,h.symm⟩
  ·simp[e]at h;exact Or.inr ⟨fun e'=>e e'.symm,by rw[h]⟩
theorem yy {q':Nat} (h:q≠q'):(w.setCell ⟨g,q,none⟩ v).cell? ⟨g,q',none⟩=w.cell? ⟨g,q',none⟩:=
 xD _ _ _ _ (fun e=>h (by injection e))
theorem ed {u:Value} (h:w.cell? ⟨g,q,none⟩=some u):(w.setCell ⟨g,q,none⟩ v).cell? ⟨g,q,none⟩=some v:=World.cell?_setCell_same _ _ _ h
theorem VL.set9 (h:VL w (.slice (some ⟨g,0,none⟩) n cap) lk) (v:Int):VL (w.setCell ⟨g,j*12+9,none⟩ (.int .i64 v)) (.slice (some ⟨g,0,none⟩) n cap) (lk.modify j (fun x=>(v,x.2))):=by
 intro g' k cap' e i x hx;injection e with e _ _;injection e with e;injection e with e;subst e;rcases get_modify _ _ _ hx with⟨rfl,y,hy,rfl⟩| ⟨hne,hy⟩
 ·obtain⟨f,d⟩:=h g n cap rfl i y hy;exact⟨ed f,(yy (by omega)).trans d⟩
 ·obtain⟨f,d⟩:=h g n cap rfl i x hy;exact⟨(yy (by omega)).trans f,(yy (by omega)).trans d⟩
theorem VL.Gb (h:VL w (.slice (some ⟨g,0,none⟩) n cap) lk) (v:Int):VL (w.setCell ⟨g,j*12+10,none⟩ (.int .i64 v)) (.slice (some ⟨g,0,none⟩) n cap) (lk.modify j (fun x=>(x.1,v))):=by
 intro g' k cap' e i x hx;injection e with e _ _;injection e with e;injection e with e;subst e;rcases get_modify _ _ _ hx with⟨rfl,y,hy,rfl⟩| ⟨hne,hy⟩
 ·obtain⟨f,d⟩:=h g n cap rfl i y hy;exact⟨(yy (by omega)).trans f,ed d⟩
 ·obtain⟨f,d⟩:=h g n cap rfl i x hy;exact⟨(yy (by omega)).trans f,(yy (by omega)).trans d⟩
def Gy (P:Nat) (zL:List Rt.PL) (lv:Value) (n:Nat) (w:World) (e:Ending) (w':World):Prop:=e=.returned (.tuple #[])/\(∃cs',qH w' P zL lv cs')/\w.grownBy w' lv.ownBlock/\∀lk,VL w lv lk->VL w' lv (Zu zL.length lk (yM zL n) n)
theorem Ci (n:Nat) (h:qH w P zL lv cs):Calls Tryz.prog 125 #[.pointer (some ⟨P,0,none⟩),.int .i64 n] w (Gy P zL lv n w):=by
 obtain⟨ad,cap,J,cP⟩:=h.Q3;have a9:=zQ h.block;have HH:=zD h;have a4:=zD J;clear h J;go_enter func125,ntmps125;go_wp2_with fail;refine(iM HH.u).mono ?_;rintro e w1 ⟨a0,a1,a2,a3,c0,c1,c2,c3,R,O,rfl,_,_,k⟩;have z:Hd (∀(lk:Qw) (w':World),VL w lv lk->Below w.heap.size w w'->VL w' lv lk):=zD (fun lk w' hl hb=>hl.zP HH.u.own hb);generalize HPLN:yM zL n=pl at *
 replace HPLN:=zD HPLN
 have N:=HH.u.zP k;have H1:=qG N k;have M:=cell_later k cP;have a6:=k.size;clear cP;have o:=(zI w1.heap.size w1).alloc (zB _) (.cells #[.slice a0 pl.yY.length c0,.int .i64 pl.form.kind,.string pl.form.name,.int .i64 pl.form.cells,.slice a1 pl.form.params.length c1,.slice a2 pl.form.index.length c2,.slice a3 pl.form.values.length c3,.int .i64 pl.depth,.int .i64 pl.opener,.int .i64 R,.int .i64 O,.int .i64 pl.proc] 145);have Z:=zN w1 (.cells #[.slice a0 pl.yY.length c0,.int .i64 pl.form.kind,.string pl.form.name,.int .i64 pl.form.cells,.slice a1 pl.form.params.length c1,.slice a2 pl.form.index.length c2,.slice a3 pl.form.values.length c3,.int .i64 pl.depth,.int .i64 pl.opener,.int .i64 R,.int .i64 O,.int .i64 pl.proc] 145);have k1:=zC Z 1 (by simp);have k8:=zC Z 8 (by simp);have d1:=cell_later o M;have H:=qG (N.zP o) (k.trans (o.mono (B':=w.heap.size) k.size));have a5:=o.size;simp only[yQ,yH,zv]at k1 k8;have b1:¬w1.heap.size=P:=by omega
 have F:∀g,lv.ownBlock=some g->g < w1.heap.size:=fun g hg=>(N.own.lt g hg).2;clear k N Z o M H1;go_wp2_with fail;generalize w1.alloc (.cells #[.slice a0 pl.yY.length c0,.int .i64 pl.form.kind,.string pl.form.name,.int .i64 pl.form.cells,.slice a1 pl.form.params.length c1,.slice a2 pl.form.index.length c2,.slice a3 pl.form.values.length c3,.int .i64 pl.depth,.int .i64 pl.opener,.int .i64 R,.int .i64 O,.int .i64 pl.proc] 145)=w2 at *;generalize w1.heap.size=L at *;have y:Hd (∀lk:Qw,Zu zL.length lk pl n=if 1<=pl.opener/\pl.opener < zL.length then (if pl.form.kind=6 then lk.modify pl.opener.toNat (fun x=>((n:Int),x.2))else if pl.form.kind=4 then lk.modify pl.opener.toNat (fun x=>(x.1,(n:Int)))else lk)else lk):=zD (fun _=>rfl);generalize pl.opener=op at *;generalize pl.form.kind=kx at *;by_cases ho:op < 1
 ·have I:decide (op < 1)=true:=by simpa using ho
  go_quiet (fail);go_wp2_with fail;go_end0;obtain⟨A,d⟩:=H.u;exact⟨rfl,⟨_,A.zP (below_drewN _ _)⟩,Qt (d.trans ((below_drewN _ _).mono d.size)),fun lk hl=>by rw[HPLN.u,y.u,zA (by omega)];exact z.u lk _ hl (d.trans ((below_drewN _ _).mono d.size))⟩
 ·by_cases hp:(zL.length:Int)<=op
  ·have I:decide (op < 1)=false:=by simpa using ho
   go_quiet (fail);go_wp2_with fail;go_end0;obtain⟨A,d⟩:=H.u;exact⟨rfl,⟨_,A.zP (below_drewN _ _)⟩,Qt (d.trans ((below_drewN _ _).mono d.size)),fun lk hl=>by rw[HPLN.u,y.u,zA (by omega)];exact z.u lk _ hl (d.trans ((below_drewN _ _).mono d.size))⟩
  ·obtain⟨j,rfl⟩:=yr (show 0<=op by omega);have G:j < zL.length:=by omega
   have V:¬(j:Int) < 1:=by omega
   have I:decide ((j:Int) < 1)=false:=by simpa using V
   have b7:¬(zL.length:Int)<=(j:Int):=by omega
   have b6:(0:Int)<=(j:Int):=by omega
   have b5:(j:Int) < (zL.length:Int):=by omega
   obtain⟨g,cap',d5,d4,d3,d2,e0,e1,e2,e3,b4,b3,i,b8,a7,⟨_,_,_,_,_,_,_,_,_,d9,d0,_⟩,_,_⟩:=H.u.1.at G;have D:=a4.u.symm.trans i;simp only[xJ,jH]at D;obtain⟨rfl,rfl⟩:=D;have fz:∀q,w2.frozen? ⟨g,q,none⟩=false:=fun q=>by
    have:=H.u.1.own;rw[i]at this;exact this.frozenAt q
   have z9:=fz (j*12+9);have b2:=fz (j*12+10);have b0:¬P=g:=by omega
   have a8:¬g=P:=by omega
   have W:¬g=L:=by
    have:=F g (by rw[i];rfl);omega
   have b9:¬L=g:=fun e=>W e.symm;have f:=zD i;clear i fz;go_quiet (fail);cases k6:(kx==6)with
   | true=>
    go_wp2_with fail;go_region_held3 (fun w'=>w'.cell? ⟨L,8,none⟩=some (.int .i64 (j:Int))/\w'.cell? ⟨P,0,none⟩=some (.slice (some ⟨g,0,none⟩) zL.length cap)) (first | go_keep | (simp[xD, *];done)| (simp[xD, *];omega)) (fail);go_wp2_with fail;go_end0;obtain⟨A,d⟩:=H.u;obtain⟨U,T⟩:=ld A f.u d G (below_drewN w2 _) 9 (Or.inl rfl);refine⟨rfl,U,T,fun lk hl=>?_⟩;rw[HPLN.u,y.u,zE (by omega),zE (by simpa using k6),f.u];refine VL.set9 ?_ _;rw[<-f.u];exact z.u lk _ hl (d.trans ((below_drewN _ _).mono d.size))
   | false=>
    cases k4:(kx==4)with
    | true=>
     go_wp2_with fail;go_region_held3 (fun w'=>w'.cell? ⟨L,8,none⟩=some (.int .i64 (j:Int))/\w'.cell? ⟨P,0,none⟩=some (.slice (some ⟨g,0,none⟩) zL.length cap)) (first | go_keep | (simp[xD, *];done)| (simp[xD, *];omega)) (fail);go_wp2_with fail;go_end0;obtain⟨A,d⟩:=H.u;obtain⟨U,T⟩:=ld A f.u d G (below_drewN w2 _) 10 (Or.inr rfl);refine⟨rfl,U,T,fun lk hl=>?_⟩;rw[HPLN.u,y.u,zE (by omega),zA (by simpa using k6),zE (by simpa using k4),f.u];refine VL.Gb ?_ _;rw[<-f.u];exact z.u lk _ hl (d.trans ((below_drewN _ _).mono d.size))
    | false=>
     go_wp2_with fail;go_end0;obtain⟨A,d⟩:=H.u;exact⟨rfl,⟨_,A.zP (below_drewN _ _)⟩,Qt (d.trans ((below_drewN _ _).mono d.size)),fun lk hl=>by rw[HPLN.u,y.u,zE (by omega),zA (by simpa using k6),zA (by simpa using k4)];exact z.u lk _ hl (d.trans ((below_drewN _ _).mono d.size))⟩
end
end Go.Proofs.YthleadfkfnnadaaGreat
