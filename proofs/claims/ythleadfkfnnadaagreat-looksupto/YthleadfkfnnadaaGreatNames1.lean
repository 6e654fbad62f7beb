/- The names of a program: forms, parameters, variables, arrays. -/
import Derived.Deep.AppendSrc
import Derived.Laws.CopyOwn
import Derived.OwnWalk
import Derived.Test.YthleadfkfnnadaaGreatLawC
import Derived.Test.YthleadfkfnnadaaGreatNames0
set_option maxHeartbeats 4000000
set_option maxRecDepth 100000
set_option linter.unusedSimpArgs false
namespace Go.Proofs.YthleadfkfnnadaaGreat
open Rt Go.Proofs.Tryz
open Go.RowKit
variable {x:ByteArray} {r:Int} {cs:List (List Value)} {xs l:List Int} {zL:List Rt.PL} {vs:List Value} {B N g S P k:Nat} {row:Option Nat} {v pv lv:Value} {w w' w1 w2:World}
def kA (w:World) (v:Value) (xs:List Int):Prop:=
 ∃ad cap,v=.slice ad xs.length cap/\(xs=[]\/∃b o,ad=some ⟨b,o,none⟩/\∀j (h:j < xs.length),w.cell? ⟨b,o+j,none⟩=some (.int .i64 xs[j]))
theorem kA.zP (h:kA w v xs) (d:Below w.heap.size w w'):kA w' v xs:=by
 obtain⟨f,cap,rfl,h⟩:=h;refine⟨f,cap,rfl,?_⟩;rcases h with h | ⟨b,o,rfl,h⟩
 ·exact Or.inl h
 ·exact Or.inr ⟨b,o,rfl,fun j hj=>cell_later d (h j hj)⟩
theorem kA.get (h:kA w v xs) {j:Nat} (d:j < xs.length):∃b o cap,v=.slice (some ⟨b,o,none⟩) xs.length cap/\w.cell? ⟨b,o+j,none⟩=some (.int .i64 xs[j]):=by
 obtain⟨f,cap,rfl,h⟩:=h;rcases h with h | ⟨b,o,rfl,h⟩
 ·rw[h]at d;simp at d
 ·exact⟨b,o,cap,rfl,h j d⟩
section
variable {P:Program} (w:World)
theorem fO (base:Nat) (t J R e:TypeId) (i:TypeInfo) (z:Value) (M:P.underlying t=some (.slice e)) (O:P.info? e=some i) (hz:i.zero=some z) (f:i.size=1) (H:i.bytes<=8) (T:z.cells.size=1) (v:Value) (n:Nat) (xs:List Value) (hown:w.ownsRow base e 1 v n xs) (L:Value) (m:Nat) (d:List Value) (hs:Src P 1 J L m d w) (I:(n+m)*8<=140737488355328) (D:base<=w.heap.size):∃v' w',(Builtin.append_ #[t,J] R #[v,L]).run P w=.ok v' w'/\w'.ownsRow base e 1 v' (n+m) (xs++d)/\w.grownBy w' v.ownBlock:=by
 have V:=hs;rw[<-f]at hs;have Z:d.length=m:=by simpa using V.newsLen
 have A:xs.length=n:=by simpa using hown.1
 have h:(xs++d).length=n+m:=by rw[ze,A,Z]
 have W:n+m<=maxLen:=by unfold maxLen;omega
 have x:∀(J8:Nat),J8 < n+m->∀(row:Option Nat),
   (w.drew.alloc (.cells ((xs++d).toArray++Builtin.zeroCells z.cells (grownCap w (n+m) J8 e-(n+m))) e)).ownsRow base e 1
    (.slice (some ⟨w.heap.size,0,none⟩) (n+m) (grownCap w (n+m) J8 e)) (n+m) (xs++d)/\
   w.grownBy (w.drew.alloc (.cells ((xs++d).toArray++Builtin.zeroCells z.cells (grownCap w (n+m) J8 e-(n+m))) e)) row:=by
  intro J8 ho row;have a0:=grownCap_ge w (n+m) J8 e;have hcm:grownCap w (n+m) J8 e<=maxLen:=grownCap_le_maxLen w (n+m) J8 e W;refine⟨⟨by rw[h];simp,.inr ⟨w.heap.size,_,_,rfl,D,zN w.drew _,a0,hcm,?_,?_⟩⟩,⟨rfl,rfl,rfl,by simp,fun k hk _=>G2 w.drew _ hk⟩⟩
  ·simp only[Array.size_append,List.size_toArray,size_zeroCells,T,h];omega
  ·simp only[Array.toList_append,Kn];rw[<-h];exact List.take_left
 rcases hown.2 with⟨rfl,rfl⟩| ⟨g,cap,cur,rfl,hbg,hg,hnc,hcm,hcs,htake⟩
 ·have U:xs=[]:=yu A;subst U;by_cases hm:m=0
  ·have hn:d=[]:=yu (by rw[Z];exact hm);refine⟨.slice none 0 0,w,?_,?_,⟨rfl,rfl,rfl,zB _,fun _ _ _=>rfl⟩⟩
   ·have h0:=hs.len;have h1:=hs.cells;rw[hm,hn]at h1;rcases hs.kind with⟨e',hk⟩| hk <;> simp[Builtin.append_,QE M,QE hk,sizeOf,typeInfo,O,hs.len,hm,h1]
   ·rw[hm,hn];exact zW w base e 1
  ·have N:=run_append_grow_src (P:=P) w t J R e i z M O hz none 0 0 [] (run_firstCells_none w.drew i.size 0 0 0) (L) m d hs (by omega) (by omega) (growslice_fits (by omega) (zi (Nat.mul_le_mul_left _ H) I));have o:=x 0 (by omega) (Value.ownBlock (.slice none 0 0));simp only[xW,xN]at o N ⊢;exact⟨_,_,N,o.1,o.2⟩
 ·by_cases hroom:n+m<=cap
  ·have F:=run_storeCells_at P g n e d 0 cur w hg (by rw[Z,hcs];omega) hs.one;simp only[qO]at F;have G:=hs.cells;rw[f]at G;refine⟨.slice (some ⟨g,0,none⟩) (n+m) cap,w.setRow g (cur.toList.take n++d++cur.toList.drop (n+d.length)).toArray,?_,⟨by rw[h];simp,.inr ⟨g,cap,_,rfl,hbg,setRow_heap w g cur _ e _ hg,hroom,hcm,?_,?_⟩⟩,⟨rfl,rfl,rfl,by simp,fun k _ hk=>setRow_other w g k _ (fun e=>hk (by simp[Value.ownBlock,e]))⟩⟩
   ·rcases hs.kind with⟨e',hk⟩| hk <;> simp[Builtin.append_,QE M,QE hk,sizeOf,typeInfo,O,hs.len,hroom,G,bq,f,F]
   ·simp only[List.size_toArray,ze,jw,xp,Array.length_toList];omega
   ·rw[Kn]at htake ⊢;rw[htake,<-h];exact List.take_left
  ·have y:∀j u,xs[j]?=some u->w.cell? ((⟨g,0,none⟩:Addr).add j)=some u:=hown.cells (g:=g) rfl;have N:=run_append_grow_src (P:=P) w t J R e i z M O hz (some ⟨g,0,none⟩) n cap xs (run_firstCells_some (P:=P) w.drew i.size n ⟨g,0,none⟩ n cap xs (by rw[A,f];simp) (by simpa using y)) (L) m d hs (by omega) (by omega) (growslice_fits (by omega) (zi (Nat.mul_le_mul_left _ H) I));have o:=x cap (by omega) (Value.ownBlock (.slice (some ⟨g,0,none⟩) n cap));exact⟨_,_,N,o.1,o.2⟩
theorem Qh {ops:Array Oper} {rest:List Oper} {o:Oper} {a:Act} {Q:Exit->Act->World->Prop} (H:o.guard=none) (r x:Operand) (t A:TypeId) (R:o.op=.call { callee:=.builtin .append,args:=#[r,x],argTypes:=#[t,A] }) (base:Nat) (e:TypeId) (i:TypeInfo) (z:Value) (M:P.underlying t=some (.slice e)) (T:P.info? e=some i) (L:i.zero=some z) (f:i.size=1) (I:i.bytes<=8) (F:z.cells.size=1) (v:Value) (n:Nat) (xs:List Value) (N:a.eval r=v) (y:w.ownsRow base e 1 v n xs) (D:Value) (m:Nat) (d:List Value) (G:a.eval x=D) (k:Src P 1 A D m d w) (J:(n+m)*8<=140737488355328) (j:base<=w.heap.size) (h:∀v' w',w'.ownsRow base e 1 v' (n+m) (xs++d)->w.grownBy w' v.ownBlock->wpList P ops Q rest (a.put o.dst v') w'):wpList P ops Q (o::rest) a w:=by
 refine wpList_plain H fun _ hK=>?_;obtain⟨v',w',O,V,U⟩:=fO (P:=P) w base t A o.type e i z M T L f I F v n xs y D m d k J j;unfold Oper.wp execOp;simp only[R,resolve,invoke,builtin,Sem.run_bind,Sem.run_pure,Result.andThen_ok,List.map_toArray,qp,Ye,N,G,O];exact hK _ _ (h v' w' V U)
end
theorem kA.src (h:kA w v xs):Src Tryz.prog 1 24 v xs.length (xs.map (Value.int .i64)) w:=by
 obtain⟨ad,cap,rfl,h⟩:=h;have d:∀u∈xs.map (Value.int .i64),u.oneCell'=true:=fun u hu=>by
  obtain⟨_,_,rfl⟩:=xr.1 hu;rfl
 rcases h with rfl | ⟨b,o,rfl,h⟩
 ·cases ad with
  | none=>exact Src.ofNil w underlying24 cap
  | some a=>exact Src.ofSlice w underlying24 a 0 cap [] rfl (fun j u hj=>by simp at hj) (fun _ h=>by cases h)
 ·refine Src.ofSlice w underlying24 ⟨b,o,none⟩ xs.length cap _ (by simp) (fun j u hj=>?_) d;obtain⟨i,rfl⟩:=qy.mp hj;have f:j < xs.length:=by simpa using i
  have:=h j f;rw[bq];simpa using this
theorem kA.form (h:kA w v xs):∃ad cap,v=.slice ad xs.length cap:=by
 obtain⟨ad,cap,rfl,_⟩:=h;exact⟨ad,cap,rfl⟩
theorem oB {va vb:Value} {a:List Int} (j:kA w va a) (h:kA w vb a) (J:a.length<=35184372088832):Calls Tryz.prog 28 #[va,vb] w fun e w'=>e=.returned (.bool true)/\Below w.heap.size w w':=by
 have I:=zD j;have H:=zD h;obtain⟨W,R,rfl⟩:=j.form;obtain⟨V,O,rfl⟩:=h.form;clear j h;go_enter func28,ntmps28;go_wp2_with fail;go_loopw [5] (fun i wr=>∃k:Nat,k<=a.length/\i=.int .i64 k/\Below w.heap.size w wr) (fun i _=>a.length-(intOf i).toNat)
 case atStart=>exact⟨0,zo _,rfl,zI _ _⟩
 case round=>
  obtain⟨k,L,rfl,d⟩:=hrel;by_cases hlt:k < a.length
  ·have f:(k:Int) < (a.length:Int):=by omega
   have D:(0:Int)<=(k:Int):=by omega
   obtain⟨G,A,U,y,N⟩:=(I.u.zP d).get hlt;obtain⟨F,z,T,o,M⟩:=(H.u.zP d).get hlt;simp only[xJ,jH]at y o;obtain⟨rfl,rfl⟩:=y;obtain⟨rfl,rfl⟩:=o;have HBE:=zD d;clear d;generalize a[k]=x at *;go_wp2_with fail;go_region_held3 (fun w'=>w'.cell? ⟨G,A+k,none⟩=some (.int .i64 x)/\w'.cell? ⟨F,z+k,none⟩=some (.int .i64 x)) (go_keep) (fail);go_wp2_with fail;go_roundw
   case rel=>exact⟨k+1,by omega,by go_num,HBE.u.trans ((zh _).mono HBE.u.size)⟩
   case measure=>simp[intOf];omega
  ·have f:¬(k:Int) < (a.length:Int):=by omega
   go_wp2;go_ret;exact⟨rfl,d⟩
theorem mQ (h:Below B w w1) (d:B<=N) (i:Nat) (v:Value):Below B w (w1.setCell ⟨N,i,none⟩ v):=
 h.trans ⟨rfl,rfl,rfl,by simp[World.setCell],fun k hk=>zO w1 ⟨N,i,none⟩ _ k (by show k≠N;omega)⟩
def Qp (l:List Int):Array Value:=((l++[-7777,-7777]).map (Value.int .i64)).toArray
theorem gO (h:kA w v l) (hl:l.length<=17592186044416):Calls Tryz.prog 24 #[v] w fun e w'=>Below w.heap.size w w'/\∃g,w.heap.size<=g/\e=.returned (.slice (some ⟨g,0,none⟩) l.length (l.length+2))/\w'.heap[g]?=some (.cells (Qp l) 3 (0,0)):=by
 obtain⟨i0,I,R,F,O⟩:=yi eU;have HH:=zD h;obtain⟨ad,ca,rfl⟩:=h.form;clear h;obtain⟨w1,y,hown,d⟩:=run_make_full (P:=Tryz.prog) w w.heap.size 24 3 i0 _ 1 underlying24 I R F .i64 .i64 (l.length+2) (by rw[O];omega) (by unfold maxLen;omega) (zB _);have U:(Instr.makeSlice 24 (.int .i64 ((l.length:Int)+2)) (.int .i64 ((l.length:Int)+2))).run Tryz.prog w=.ok (.slice (some ⟨w.heap.size,0,none⟩) (l.length+2) (l.length+2)) w1:=y;clear y;generalize (madeCells (Value.int IntKind.i64 0).cells ((l.length+2)*1)).toList=xs at *;have hb1:Below w.heap.size w w1:=⟨d.os,d.tape,d.output,d.size,fun k hk=>d.block k hk (by simp)⟩;have G:xs.length=l.length+2:=by have:=hown.1;omega
 have i:w1.heap[w.heap.size]?=some (.cells xs.toArray 3 (0,0)):=by
  rcases hown.2 with⟨h',_⟩| ⟨g,cap,cur,hv,_,hg,_,_,hcs,htake⟩
  ·cases h'
  ·injection hv with e1 _ e2;injection e1 with e1;injection e1 with e1;subst e1 e2;rw[hg];congr 1;congr 1;apply Array.ext';simp only[Kn]at htake hcs;rw[<-htake,yw (by simp[hcs])]
 have HX:=zD G;clear hown d G;obtain⟨cs,hcs⟩:∃cs,cs=l.map (Value.int .i64):=⟨_,rfl⟩;have f:cs.length=l.length:=by rw[hcs];simp
 have D:=zD hcs;clear hcs;have A:∃w2 L,(Builtin.copy_ #[24,24] 3 #[.slice (some ⟨w.heap.size,0,none⟩) (l.length+2) (l.length+2),.slice ad l.length ca]).run Tryz.prog w1=.ok (goInt l.length) w2/\Below w.heap.size w w2/\w2.heap[w.heap.size]?=some (.cells (List.toArray L) 3 (0,0))/\L=cs++xs.drop l.length:=by
  have H:(Tryz.prog.info? 3).map (·.size)=some 1:=by rw[I];simp[F]
  by_cases h0:l.length=0
  ·refine⟨w1,xs,?_,hb1,i,?_⟩
   ·rw[h0];exact run_copy_none w1 _ _ _ 3 _ _ _ _ _ _ underlying24 H (by simp)
   ·have:cs=[]:=yu (by omega);rw[this,h0];simp
  ·obtain⟨a1,cap',he,hcase⟩:=HH.u.zP hb1;simp only[xJ,jH]at he;obtain⟨rfl,rfl⟩:=he;rcases hcase with e | ⟨b,o,rfl,hc⟩
   ·rw[e]at h0;simp at h0
   ·have Z:=run_copy_row (P:=Tryz.prog) w1 24 24 3 3 w.heap.size 0 (l.length+2) (l.length+2) ⟨b,o,none⟩ l.length ca xs.toArray 3 cs underlying24 H i (by rw[f];exact(vD (by omega)).symm) (fun j u hj=>by
     rw[D.u]at hj;obtain⟨W,rfl⟩:=qy.mp hj;have V:j < l.length:=by simpa using W
     rw[bq];simpa using hc j V) (by simp[f,HX.u]) (fun u hu=>by
     rw[D.u]at hu;obtain⟨_,_,rfl⟩:=xr.1 hu;rfl)
    rw[f]at Z;refine⟨_,_,Z,below_setRow hb1 (zB _) _,setRow_heap w1 _ _ _ _ _ i,?_⟩;simp
 obtain⟨w2,L,T,J,x,N⟩:=A;have hL:∃a b,L=cs++[a,b]:=by
  have hd:(xs.drop l.length).length=2:=by rw[xp,HX.u];omega
  rw[N]
  match hm:xs.drop l.length,hd with
  | [a,b],_=>exact⟨a,b,rfl⟩
 clear N;obtain⟨a,b,M⟩:=hL;rw[M]at x;have cn:w2.cell? ⟨w.heap.size,l.length,none⟩=some a:=by
  have:=zC x l.length (by simp[f]);rw[this];simp[<-f]
 have a0:w2.cell? ⟨w.heap.size,l.length+1,none⟩=some b:=by
  have:=zC x (l.length+1) (by simp[f]);rw[this];simp[<-f]
 have z:=zS x;have HF:=qG (mQ (mQ J (zB _) l.length (.int .i64 (-7777))) (zB _) (l.length+1) (.int .i64 (-7777))) (show ((w2.setCell ⟨w.heap.size,l.length,none⟩ (.int .i64 (-7777))).setCell ⟨w.heap.size,l.length+1,none⟩ (.int .i64 (-7777))).heap[w.heap.size]?=some (.cells (Qp l) 3 (0,0)) by
  rw[zf (zf x _ _)];congr 1;congr 1;unfold Qp;rw[yB,<-D.u];apply Array.ext';simp only[Array.toList_setIfInBounds];rw[<-f,qe _ _ (zB _),jC,qe _ _ (by omega),show cs.length+1-cs.length=1 by omega];rfl)
 clear x M J i hb1;have h1:(l.length:Int) < (l.length:Int)+2:=by omega
 have h2:(l.length:Int)+1 < (l.length:Int)+2:=by omega
 have h0:(0:Int)<=(l.length:Int):=by omega
 go_enter func24,ntmps24;go_wp2;go_ret;exact⟨HF.u.1,_,zB _,rfl,HF.u.2⟩
theorem V0 (h:w.heap[g]?=some (.cells (Qp l) 3 (0,0))) {c:Nat}:kA w (.slice (some ⟨g,0,none⟩) l.length c) l:=by
 refine⟨_,_,rfl,Or.inr ⟨g,0,rfl,fun j hj=>?_⟩⟩;rw[xW,zC h j (by simp[Qp];omega)];unfold Qp;simp only[yQ,qc];rw[xI hj]
theorem lz (h:w.heap[g]?=some (.cells (Qp l) 3 (0,0))) (f:B<=g) (d:l.length+2<=maxLen):w.ownsRow B 3 1 (.slice (some ⟨g,0,none⟩) l.length (l.length+2)) l.length (ints l):=by
 refine⟨by simp[ints],Or.inr ⟨g,l.length+2,Qp l,rfl,f,h,by omega,d,by simp[Qp],?_⟩⟩;simp[Qp,ints]
theorem lA (g:Nat) (k:w.heap[g]?=some (.cells (Qp l) 3 (0,0))) (h:kA w v l) (A:l.length<=17592186044416):Calls Tryz.prog 26 #[.slice (some ⟨g,0,none⟩) l.length (l.length+2),v] w fun e w'=>e=.returned (.bool true)/\Below w.heap.size w w':=by
 have o:=zD k;have x:=zD h;obtain⟨I,H,rfl⟩:=h.form;clear k h;have F:(l.length:Int) < (l.length:Int)+2:=by omega
 have D:(l.length:Int)+1 < (l.length:Int)+2:=by omega
 have G:(0:Int)<=(l.length:Int):=by omega
 have y:Hd (∀w',Below w.heap.size w w'->w'.cell? ⟨g,l.length,none⟩=some (.int .i64 (-7777))/\w'.cell? ⟨g,l.length+1,none⟩=some (.int .i64 (-7777))):=zD (fun w' hb=>by
  have j:=zU o.u hb;have i:=zC j l.length (by simp[Qp]);have f:=zC j (l.length+1) (by simp[Qp]);simp[Qp]at i f;exact⟨i,f⟩)
 go_enter func26,ntmps26;go_wp2_with fail;refine(oB (V0 o.u) x.u (by omega)).mono ?_;rintro e w1 ⟨rfl,d⟩;obtain⟨i,f⟩:=y.u _ d;have z:=zD d;clear d;go_wp2;go_ret;exact⟨rfl,z.u⟩
structure LG (w:World) (S:Nat) (pv lv:Value) (vs:List Value):Prop where
 block:w.heap[S]?=some (.cells #[pv,lv] 30 (0,0))
 own:w.ownsRow (S+1) 24 1 lv vs.length vs
 each:∀k (h:k < vs.length),iL w (S+1) (-7777-(k:Int)) vs[k]
theorem LG.zP (h:LG w S pv lv vs) (d:Below w.heap.size w w'):LG w' S pv lv vs:=
 ⟨zU h.block d,yG h.own d,fun k hk=>(h.each k hk).map (fun _ _ h=>yG h d)⟩
theorem LG.lt {w:World} {S:Nat} {pv lv:Value} {vs:List Value} (h:LG w S pv lv vs):∀k (hk:k < vs.length) g,vs[k].ownBlock=some g->S+1<=g/\g < w.heap.size:=by
 intro k hk g hg;rcases h.each k hk with e | ⟨g',c,h1,h2,h3⟩
 ·rw[e]at hg;cases hg
 ·exact h3.lt g hg
theorem LG.grown (h:LG w S pv lv vs) (j:w.grownBy w' row) (x:row≠some S) (o:∀g,lv.ownBlock=some g->row≠some g) (hv:∀k (hk:k < vs.length) g,vs[k].ownBlock=some g->row≠some g):LG w' S pv lv vs:=by
 have i:∀{e:TypeId} {size n:Nat} {v:Value} {xs:List Value},w.ownsRow (S+1) e size v n xs->(∀g,v.ownBlock=some g->row≠some g)->w'.ownsRow (S+1) e size v n xs:=by
  intro e size n v xs h f;obtain⟨y,h2⟩:=h;refine⟨y,?_⟩;rcases h2 with h2 | ⟨g,cap,cur,d,hgB,hh,r⟩
  ·exact Or.inl h2
  ·exact Or.inr ⟨g,cap,cur,d,hgB,by rw[j.block g (zQ hh) (fun e=>f g (by rw[d];rfl) e.symm)];exact hh,r⟩
 exact⟨by rw[j.block S (zQ h.block) (xK x)];exact h.block,i h.own o,fun k hk=>(h.each k hk).map (fun _ _ h=>i h (hv k hk))⟩
theorem LG.push {lv':Value} (h:LG w S pv lv vs) (hv:iL w (S+1) (-7777-(vs.length:Int)) v) (o:Below w.heap.size w w1) (y:w2.ownsRow (S+1) 24 1 lv' (vs.length+1) (vs++[v])) (d:w1.grownBy w2 lv.ownBlock):LG (w2.setCell ⟨S,1,none⟩ lv') S pv lv' (vs++[v])/\Below S w (w2.setCell ⟨S,1,none⟩ lv'):=by
 have A:=zQ h.block;have j:∀k,lv.ownBlock=some k->S < k:=fun k hk=>by have:=(h.own.lt k hk).1;omega
 have f:∀k,k < w.heap.size->some k≠lv.ownBlock->w2.heap[k]?=w.heap[k]?:=fun k hk hv=>by
  rw[d.block k (zX hk o.size) hv];exact o.block k hk
 have i:∀k,k≠S->(w2.setCell ⟨S,1,none⟩ lv').heap[k]?=w2.heap[k]?:=fun k hk=>zO w2 ⟨S,1,none⟩ _ k hk;have H:∀(n:Nat) (u:Value) (xs:List Value),w.ownsRow (S+1) 3 1 u n xs->(w2.setCell ⟨S,1,none⟩ lv').ownsRow (S+1) 3 1 u n xs:=by
  intro n u xs G;have D:=Ys G h.own (by decide);obtain⟨I,h2⟩:=G;refine⟨I,?_⟩;rcases h2 with h2 | ⟨g,cap,cur,x,hg,hh,r⟩
  ·exact Or.inl h2
  ·exact Or.inr ⟨g,cap,cur,x,hg,by rw[i g (by omega),f g (zQ hh) (fun e=>D g (by rw[x];rfl) e.symm)];exact hh,r⟩
 refine⟨⟨?_,?_,fun k hk=>?_⟩,?_⟩
 ·have F:w2.heap[S]?=some (.cells #[pv,lv] 30 (0,0)):=(f S A (fun e=>by have:=j S e.symm;omega)).trans h.block;have:=zf F 1 lv';simpa using this
 ·rw[ze];exact qL y (by show S < S+1;omega) _
 ·by_cases z:k < vs.length
  ·rw[xI z];exact(h.each k z).map (fun n xs=>H n _ xs)
  ·have:k=vs.length:=by simp at hk;omega
   subst this;rw[xm (zB _)];simp only[jC,zv];exact hv.map (fun n xs=>H n _ xs)
 ·refine⟨d.os.trans o.os,d.tape.trans o.tape,d.output.trans o.output,?_,fun k hk=>(i k (by omega)).trans (f k (by omega) (fun e=>by have:=j k e.symm;omega))⟩;have I:=d.size;have h2:=o.size;simp[World.setCell];omega
theorem Co (d:w.heap[S]?=some (.cells #[pv,lv] 30 (0,0))) (i:Below w.heap.size w w1) (f:w1.grownBy w2 row) (j:row≠some S):w2.cell? ⟨S,1,none⟩=some lv/\w2.frozen? ⟨S,1,none⟩=false:=by
 have h:w2.heap[S]?=some (.cells #[pv,lv] 30 (0,0)):=by
  rw[f.block S (zX (zQ d) i.size) (xK j),i.block S (zQ d)];exact d
 exact⟨zC h 1 (by simp),zS h 1⟩
def GO (S:Nat) (pv lv:Value) (vs:List Value) (v:Value) (w:World) (e:Ending) (w':World):Prop:=e=.returned (.tuple #[])/\Below S w w'/\(∀k,k < w.heap.size->k≠S->lv.ownBlock≠some k->v.ownBlock≠some k->w'.heap[k]?=w.heap[k]?)/\∃lv' v',LG w' S pv lv' (vs++[v'])/\v'.ownBlock=v.ownBlock/\∀g,lv'.ownBlock=some g->lv.ownBlock=some g\/w.heap.size<=g
theorem oT {n:Nat} {xs:List Value} (h:LG w S pv lv vs) (H:w.ownsRow (S+1) 3 1 v n xs) (I:∀k (hk:k < vs.length) g,vs[k].ownBlock=some g->¬v.ownBlock=some g) (a3:(vs.length+1)*24<=140737488355328):Calls Tryz.prog 29 #[.pointer (some ⟨S,0,none⟩),v] w (GO S pv lv vs v w):=by
 obtain⟨i0,a0,V,U,T⟩:=yi C4;obtain⟨ad,cap,rfl⟩:=zK H;obtain⟨R,F,rfl⟩:=zK h.own;have c1:=zC h.block 1 (by simp);simp at c1;have J:=Ys H h.own (by decide);have G:¬(Value.slice ad n cap).ownBlock=some S:=fun e=>by have:=(H.lt S e).1;omega
 have HH:=zD h;have HV:=zD H;have O:=XX I J G;have a7:IntKind.i64.wrap (-7777-(vs.length:Int))=-7777-(vs.length:Int):=zl _ ⟨by omega,by omega⟩;clear h H I J G;go_enter func29,ntmps29;go_wp2_with fail;refine(CO HV.u).mono ?_;rintro e w1 ⟨v1,rfl,ho1,i,M⟩;obtain⟨a1,b1,d1,W⟩:∃a b d,v1=.slice a b d:=by
  rcases ho1 with e | ⟨g,c,e,_⟩
  ·exact⟨_,_,_,e⟩
  ·exact⟨_,_,_,e⟩
 subst W;obtain⟨q1,q2,q3⟩:=O.u;have x:=HH.u.grown i q3 (fun g hg e=>q2 g e hg) (fun k hk g hg e=>q1 k hk g hg e);have A:Below S w w1:=⟨i.os,i.tape,i.output,i.size,fun k hk=>i.block k (by have:=zQ HH.u.block;omega) (fun e=>by have:=(HV.u.lt k e.symm).1;omega)⟩;have D:=qG x A;have a2:=zD ho1;have c1:=zC x.block 1 (by simp);simp at c1;have j:=x.own;have a5:=zQ x.block;have y:=qG i M;clear i M q1 q2 q3 x A ho1 O HV HH;go_wp2_with (at_builtin;refine wpList_append_lies _ rfl _ _ 28 rfl (S+1) 24 i0 _ 1 24 underlying28 a0 V U T rfl (by decide) _ _ _ rfl (j.alloc _) ⟨_,0,none⟩ 1 1 [.slice a1 b1 d1] rfl rfl (cell_one_new _ _ _) (by simp[Value.oneCell']) (by omega) (by unfold maxLen;omega) (by omega) (by simp;omega) _ rfl ?_);intro g4 a6 w4 o f N L;have z:(Value.slice R vs.length F).ownBlock≠some S:=fun h=>by have:=(j.lt _ h).1;omega
 obtain⟨a4,a8⟩:=Co D.u.1.block ((zI _ _).alloc (zB _) _) f z;have HF:=zD (D.u.1.push a2.u ((zI _ _).alloc (zB _) _) o f);have HGR:=qG f N;clear o f N L z j;go_wp2_with fail;go_end0;obtain⟨f1,f2⟩:=HF.u;refine⟨rfl,D.u.2.trans f2,fun k hk hkS hkl hkv=>?_,_,_,f1,y.u.2,fun g hg=>?_⟩
 ·have Z:=y.u.1.size;rw[zO w4 ⟨S,1,none⟩ _ k hkS,HGR.u.1.block k (by simp;omega) (xK hkl),G2 w1 _ (by omega),y.u.1.block k hk (xK hkv)]
 ·simp[Value.ownBlock]at hg;subst hg;rcases HGR.u.2 with h | h
  ·exact Or.inl h
  ·have Z:=y.u.1.size;exact Or.inr (by omega)
theorem sy (h:LG w S pv lv vs) (R:(vs.length+1)*24<=140737488355328):Calls Tryz.prog 11 #[.pointer (some ⟨S,0,none⟩)] w fun e w'=>e=.returned (.bool true)/\Below w.heap.size w w':=by
 obtain⟨I,d,rfl⟩:=zK h.own;have HN:=zD h;clear h;go_enter func11,ntmps11;go_wp2;go_loopw [3] (fun i wr=>∃k:Nat,k<=vs.length/\i=.int .i64 k/\LG wr S pv (.slice I vs.length d) vs/\Below w.heap.size w wr) (fun i _=>vs.length-(intOf i).toNat)
 case atStart=>exact⟨0,zo _,rfl,HN.u,zI _ _⟩
 case round=>
  obtain⟨k,hk,rfl,A,z⟩:=hrel;have H:=zC A.block 1 (by simp);simp at H;have HL:=qG A z;by_cases hlt:k < vs.length
  ·have F:(k:Int) < (vs.length:Int):=by omega
   have Z:(0:Int)<=(k:Int):=by omega
   have D:=A.each k hlt;obtain⟨a,n,c,y,W⟩:=D.form;obtain⟨g,cap,T,_,_,N⟩:=yD A.own (j:=k) (u:=vs[k]) (by simp);simp at T;obtain⟨rfl,rfl⟩:=T;rw[y]at N;have O:=zD (show ∀w',LG w' S pv (.slice (some ⟨g,0,none⟩) vs.length d) vs->iL w' (S+1) (-7777-(k:Int)) (.slice a n c)/\w'.cell? ⟨g,k,none⟩=some (.slice a n c)from fun w' h=>by
    refine⟨by rw[<-y];exact h.each k hlt,?_⟩;obtain⟨g',cap',G,_,_,M⟩:=yD h.own (j:=k) (u:=vs[k]) (by simp);simp at G;rw[G.1,<-y];exact M)
   clear A z D y;unfold maxLen at W;have U:IntKind.i64.wrap (-7777-(k:Int))=-7777-(k:Int):=zl _ ⟨by omega,by omega⟩;go_wp2_with fail;go_loopw [4] (fun j wr2=>∃q:Nat,q<=n/\j=.int .i64 q/\LG wr2 S pv (.slice (some ⟨g,0,none⟩) vs.length d) vs/\Below w.heap.size w wr2) (fun j _=>n-(intOf j).toNat)
   case atStart=>exact⟨0,zo _,rfl,HL.u.1,HL.u.2⟩
   case round=>
    obtain⟨q,hq,rfl,x,o⟩:=hrel;clear H N;have H:=zC x.block 1 (by simp);simp at H;obtain⟨f,N⟩:=O.u _ x;have HL2:=qG x o;by_cases hqn:q < n
    ·have J:(q:Int) < (n:Int):=by omega
     have V:(0:Int)<=(q:Int):=by omega
     obtain⟨g2,L,cy⟩:=f.cell hqn;subst L;clear x o f;go_wp2_with fail;go_roundw
     case rel=>exact⟨q+1,by omega,by go_num,HL2.u.1,HL2.u.2⟩
     case measure=>simp[intOf];omega
    ·have J:¬(q:Int) < (n:Int):=by omega
     clear x o f;go_wp2_with fail;go_roundw
     case rel=>exact⟨k+1,by omega,by go_num,HL2.u.1,HL2.u.2⟩
     case measure=>simp[intOf];omega
  ·have F:¬(k:Int) < (vs.length:Int):=by omega
   clear A z;go_wp2;go_ret;exact⟨rfl,HL.u.2⟩
def Gz (P:Nat) (fm:Rt.qS) (w:World) (e:Ending) (w':World):Prop:=∃fv,e=.returned (.agg fv)/\qk w' (P+1) fv fm/\Below w.heap.size w w'
theorem Vc {v:Array Value} {fm:Rt.qS} {cs:Array Value} (h:qk w B v fm) (A:w.heap[N]?=some (.cells cs 143 (0,0))) (a b c d e f:Value):qk (W6 w N a b c d e f) B v fm:=by
 have i:∀(t:TypeId) (size n:Nat) (v:Value) (xs:List Value),t≠143->w.ownsRow B t size v n xs->(W6 w N a b c d e f).ownsRow B t size v n xs:=by
  intro t size n v xs z hv;refine ZU hv ?_ _ _ _ _ _ _;intro g hg e;subst e;rcases hv.2 with⟨j,_⟩| ⟨g',_,cur,j,_,hh,_⟩
  ·rw[j]at hg;cases hg
  ·rw[j]at hg;simp[Value.ownBlock]at hg;subst hg;rw[A]at hh;simp at hh;exact z hh.2.symm
 obtain⟨y,iv,vv,k,rfl,H,G,F,D⟩:=h;exact⟨y,iv,vv,k,rfl,i _ _ _ _ _ (by decide) H,i _ _ _ _ _ (by decide) G,i _ _ _ _ _ (by decide) F,qi.map (fun x o hh=>i _ _ _ _ _ (by decide) hh) _ _ D⟩
theorem VA (L:Option Addr) (I J:Nat) (j:Int) (f:ByteArray) (D:Int) (H:Option Addr) (i A:Nat) (G:Option Addr) (n2 z:Nat) (F:Option Addr) (h k:Nat) (d o x y p:Int) (w:World):(Instr.field 145 (.agg #[.slice L I J,.int .i64 j,.string f,.int .i64 D,.slice H i A,.slice G n2 z,.slice F h k,.int .i64 d,.int .i64 o,.int .i64 x,.int .i64 y,.int .i64 p]) 1).run Tryz.prog w=.ok (.agg #[.int .i64 j,.string f,.int .i64 D,.slice H i A,.slice G n2 z,.slice F h k]) w:=by kernel_rfl
theorem Xq (x:ByteArray) (h:qH w P zL lv cs) (z:zL.length<=101):Calls Tryz.prog 128 #[.pointer (some ⟨P,0,none⟩),.string x] w (Gz P (Rt.yJ zL x) w):=by
 have y:=(zI w.heap.size w).alloc (zB _) (.cells yo 143);have H:=h.zP y;have f:=zN w (.cells yo 143);clear h;go_enter func128,ntmps128;go_wp2_with fail;refine(vt x H z).mono ?_;rintro e w1 ⟨rfl,rfl⟩;go_wp2_with fail;refine(iM H).mono ?_;rintro e w2 ⟨I,G,F,D,A,k,j,i,L,J,rfl,_,o,d⟩;rw[Zk]at o ⊢;generalize (yM zL (Rt.xb zL x)).depth=dp at *;generalize (yM zL (Rt.xb zL x)).opener=opn at *;generalize (yM zL (Rt.xb zL x)).proc=pr at *;generalize (yM zL (Rt.xb zL x)).yY.length=tl at *;obtain⟨V,U,T,R,O,N,f0,f1,f2,f3,f4,f5⟩:=YD (zU f d);have hz:=zQ (zU f d);have W:=zD (Vc o (zU f d));have Z:=zD (y.trans (d.mono (B':=w.heap.size) (by simp)));have M:=VA I tl A (Rt.yA zL (Rt.xb zL x)).kind (Rt.yA zL (Rt.xb zL x)).name (Rt.yA zL (Rt.xb zL x)).cells G (Rt.yA zL (Rt.xb zL x)).params.length k F (Rt.yA zL (Rt.xb zL x)).index.length j D (Rt.yA zL (Rt.xb zL x)).values.length i dp opn L J pr;clear H y f d o;go_wp2_with fail;refine zT (v:=.agg #[.int .i64 (Rt.yA zL (Rt.xb zL x)).kind,.string (Rt.yA zL (Rt.xb zL x)).name,.int .i64 (Rt.yA zL (Rt.xb zL x)).cells,.slice G (Rt.yA zL (Rt.xb zL x)).params.length k,.slice F (Rt.yA zL (Rt.xb zL x)).index.length j,.slice D (Rt.yA zL (Rt.xb zL x)).values.length i]) ?_ rfl ⟨_,rfl,W.u _ _ _ _ _ _,YI Z.u (zB _) _ _ _ _ _ _⟩;simp[results,results128,go_sem,V,U,T,R,O,N]
theorem uq (a b c:Value) (d:Option Addr) (n k:Nat) (e f:Value) (w:World):(Instr.field 143 (.agg #[a,b,c,.slice d n k,e,f]) 3).run Tryz.prog w=.ok (.slice d n k) w:=by kernel_rfl
theorem eX (x:Int) (b c d e f:Value) (w:World):(Instr.field 143 (.agg #[.int .i64 x,b,c,d,e,f]) 0).run Tryz.prog w=.ok (.int .i64 x) w:=by kernel_rfl
namespace Rt
def parFrom:Nat->List ByteArray->ByteArray->Int
 | _,[],_=>-1
 | i,y::r,x=>if y=x then (i:Int)else parFrom (i+1) r x
def YW (zL:List PL) (proc:Int) (x:ByteArray):Int:=parFrom 0 (yA zL proc).params x
theorem dZ:∀(l:List ByteArray) (i:Nat) (x:ByteArray),(l.any (fun y=>decide (y=x))=true/\0<=parFrom i l x)\/(l.any (fun y=>decide (y=x))=false/\parFrom i l x=-1)
 | [],i,x=>Or.inr ⟨rfl,rfl⟩
 | y::r,i,x=>by
  rw[parFrom,vw];by_cases h:y=x
  ·rw[zE h];exact Or.inl ⟨by simp[h],by omega⟩
  ·rw[zA h];rcases dZ r (i+1) x with⟨h1,h2⟩| ⟨h1,h2⟩
   ·exact Or.inl ⟨by simp[h1],h2⟩
   ·exact Or.inr ⟨by simp[h1,h],h2⟩
theorem lN (zL:List PL) (d:Int) (x:ByteArray):(VS zL d x=true/\0<=YW zL d x)\/(VS zL d x=false/\YW zL d x=-1):=dZ _ _ _
theorem dX {l:List ByteArray} (h:parFrom k (l.drop k) x=r) (f:k < l.length) (d:l[k]=x):r=k:=by
 rw[zZ f,parFrom,zE d]at h;exact h.symm
theorem aU {l:List ByteArray} (h:parFrom k (l.drop k) x=r) (f:k < l.length) (d:¬l[k]=x):parFrom (k+1) (l.drop (k+1)) x=r:=by
 rw[zZ f,parFrom,zA d]at h;exact h
theorem dY {l:List ByteArray} (h:parFrom k (l.drop k) x=r) (d:¬k < l.length):r=-1:=by
 rw[zp (by omega),parFrom]at h;exact h.symm
end Rt
theorem mW {n:Int} (x:ByteArray) (h:qH w P zL lv cs) (O:(Rt.yA zL n).params.length<=1000):Calls Tryz.prog 191 #[.pointer (some ⟨P,0,none⟩),.int .i64 n,.string x] w fun e w'=>e=.returned (.int .i64 (YW zL n x))/\Below w.heap.size w w':=by
 go_enter func191,ntmps191;go_wp2_with fail;refine(iM h).mono ?_;rintro e w2 ⟨L,y,H,G,F,cap1,f,d,W,V,rfl,_,A,D⟩;rw[Zk]at A ⊢;generalize (yM zL n).depth=dp at *;generalize (yM zL n).opener=opn at *;generalize (yM zL n).proc=pr at *;generalize (yM zL n).yY.length=tl at *;obtain⟨Z,iv,vv,vs,o,T,b2,b3,_⟩:=A;have J:Z=.slice y (Rt.yA zL n).params.length cap1:=by simp at o;exact o.1.symm
 subst J;have U:=zD D;have HO:=zD T;have HI:=zD (show YW zL n x=Rt.parFrom 0 (Rt.yA zL n).params x from rfl);clear h D T b2 b3 o;generalize (Rt.yA zL n)=fm at *;have a1:=VA L tl F fm.kind fm.name fm.cells y fm.params.length cap1 H fm.index.length f G fm.values.length d dp opn W V pr;have a0:=uq (.int .i64 fm.kind) (.string fm.name) (.int .i64 fm.cells) y fm.params.length cap1 (.slice H fm.index.length f) (.slice G fm.values.length d);go_wp2;go_loop [8] (fun i=>∃k:Nat,k<=fm.params.length/\i=.int .i64 k/\Rt.parFrom k (fm.params.drop k) x=YW zL n x) (fun i=>fm.params.length-(intOf i).toNat)
 case atStart=>exact⟨0,zo _,rfl,HI.u.symm⟩
 case round=>
  obtain⟨k,hk,rfl,R⟩:=hrel;have M:=zD R;clear R;by_cases hlt:k < fm.params.length
  ·obtain⟨g,cap',N,_,_,cx⟩:=yD HO.u (j:=k) (u:=.string fm.params[k]) (by simp[hlt]);simp at N;obtain⟨rfl,rfl⟩:=N;have z:(k:Int) < (fm.params.length:Int):=by omega
   by_cases hx:fm.params[k]=x
   ·have HE:=zD (dX M.u hlt hx);have I:=QB hx;clear hx;go_wp2;go_ret;exact⟨by rw[HE.u];rfl,U.u⟩
   ·have HE:=zD (aU M.u hlt hx);have I:=KI hx;clear hx;go_wp2;go_round
    case rel=>exact⟨k+1,by omega,by go_num,HE.u⟩
    case measure=>simp[intOf];omega
  ·have HE:=zD (dY M.u hlt);have z:¬(k:Int) < (fm.params.length:Int):=by omega
   go_wp2;go_ret;exact⟨by rw[HE.u];rfl,U.u⟩
theorem QS (n:Int) (x:ByteArray) (h:qH w P zL lv cs) (i:zL.length<=101) (f:(Rt.yA zL n).params.length<=1000):Calls Tryz.prog 163 #[.pointer (some ⟨P,0,none⟩),.int .i64 n,.string x] w fun e w'=>e=.returned (.bool (Rt.isVar zL n x))/\Below w.heap.size w w':=by
 go_enter func163,ntmps163;go_wp2_with fail;refine(mW x h f).mono ?_;rintro e w1 ⟨rfl,d⟩;have hpi:=lN zL n x;generalize YW zL n x=R at *;cases hp:Rt.VS zL n x with
 | true=>
  have O:0<=R:=by rcases hpi with h | h;exact h.2;rw[hp]at h;cases h.1
  clear hpi;have G:=zD (show Rt.isVar zL n x=true by simp[Rt.isVar,hp]);have H:=zD d;clear h hp d;go_wp2;go_ret;exact⟨by rw[G.u];rfl,H.u⟩
 | false=>
  have O:¬0<=R:=by rcases hpi with h | h;rw[hp]at h;cases h.1;omega
  clear hpi;have G:=zD (show Rt.isVar zL n x=decide ((Rt.yJ zL x).kind=1) by simp[Rt.isVar,hp]);have I:=h.zP d;have z:=d.size;clear h hp;go_wp2_with fail;refine(Xq x I i).mono ?_;rintro e w2 ⟨fv,rfl,⟨U,iv,vv,T,rfl,M,L,J,_⟩,j⟩;obtain⟨F,y,rfl⟩:=zK M;obtain⟨D,o,rfl⟩:=zK L;obtain⟨A,k,rfl⟩:=zK J;clear M L J;have N:=eX (Rt.yJ zL x).kind (.string (Rt.yJ zL x).name) (.int .i64 (Rt.yJ zL x).cells) (.slice F (Rt.yJ zL x).params.length y) (.slice D (Rt.yJ zL x).index.length o) (.slice A (Rt.yJ zL x).values.length k);have H:=zD (d.trans (j.mono (B':=w.heap.size) z));clear I d j;go_wp2;go_ret;exact⟨by rw[G.u];exact yj (by rw[beq_eq_decide]),H.u⟩
theorem dm (n:Int) (x:ByteArray) (h:qH w P zL lv cs) (i:zL.length<=101) (f:(Rt.yA zL n).params.length<=1000):Calls Tryz.prog 166 #[.pointer (some ⟨P,0,none⟩),.int .i64 n,.string x] w fun e w'=>e=.returned (.bool (ZW zL n x))/\Below w.heap.size w w':=by
 go_enter func166,ntmps166;go_wp2_with fail;refine(mW x h f).mono ?_;rintro e w1 ⟨rfl,d⟩;have hpi:=lN zL n x;generalize YW zL n x=R at *;cases hp:Rt.VS zL n x with
 | true=>
  have O:0<=R:=by rcases hpi with h | h;exact h.2;rw[hp]at h;cases h.1
  clear hpi;have G:=zD (show ZW zL n x=false by simp[ZW,hp]);have H:=zD d;clear h hp d;go_wp2;go_ret;exact⟨by rw[G.u];rfl,H.u⟩
 | false=>
  have O:¬0<=R:=by rcases hpi with h | h;rw[hp]at h;cases h.1;omega
  clear hpi;have G:=zD (show ZW zL n x=decide ((Rt.yJ zL x).kind=2) by simp[ZW,hp]);have I:=h.zP d;have z:=d.size;clear h hp;go_wp2_with fail;refine(Xq x I i).mono ?_;rintro e w2 ⟨fv,rfl,⟨U,iv,vv,T,rfl,M,L,J,_⟩,j⟩;obtain⟨F,y,rfl⟩:=zK M;obtain⟨D,o,rfl⟩:=zK L;obtain⟨A,k,rfl⟩:=zK J;clear M L J;have N:=eX (Rt.yJ zL x).kind (.string (Rt.yJ zL x).name) (.int .i64 (Rt.yJ zL x).cells) (.slice F (Rt.yJ zL x).params.length y) (.slice D (Rt.yJ zL x).index.length o) (.slice A (Rt.yJ zL x).values.length k);have H:=zD (d.trans (j.mono (B':=w.heap.size) z));clear I d j;go_wp2;go_ret;exact⟨by rw[G.u];exact yj (by rw[beq_eq_decide]),H.u⟩
end Go.Proofs.YthleadfkfnnadaaGreat
