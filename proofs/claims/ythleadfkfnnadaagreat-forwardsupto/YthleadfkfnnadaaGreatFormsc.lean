/- The walks of the readers of lines, continued: array, procedure. -/
import Derived.Test.YthleadfkfnnadaaGreatExprc
set_option maxHeartbeats 4000000
set_option maxRecDepth 100000
set_option linter.unusedSimpArgs false
namespace Go.Proofs.YthleadfkfnnadaaGreat
open Go.RowKit
variable {ts:List Rt.Tk} {xs:List Value} {R n N i base size:Nat} {e t:TypeId} {tv ov a b v:Value} {w w1 w2:World}
theorem Ku {ops:List qM} (x:ByteArray) (d:kC w R tv ts n ov ops) (f:¬n < ts.length) :
  Calls Tryz.prog 216 #[.pointer (some ⟨R,0,none⟩),.string x] w fun e w'=>e=.returned (.bool false)/\kC w' R tv ts n ov ops/\ZJ R ov ov w w':=
 (fE x d f).mono (by rintro e w' ⟨rfl,q,rfl⟩;exact⟨rfl,d.quiet q⟩)
theorem X9 {ops:List qM} (x:ByteArray) (d:kC w R tv ts n ov ops) (h:n < ts.length) (f:¬ts[n].text=x) :
  Calls Tryz.prog 216 #[.pointer (some ⟨R,0,none⟩),.string x] w fun e w'=>e=.returned (.bool false)/\kC w' R tv ts n ov ops/\ZJ R ov ov w w':=
 (mb x d h f).mono (by rintro e w' ⟨rfl,q,rfl⟩;exact⟨rfl,d.quiet q⟩)
theorem da {ops:List qM} (d:kC w R tv ts n ov ops) (f:¬n < ts.length) :
  Calls Tryz.prog 214 #[.pointer (some ⟨R,0,none⟩)] w fun e w'=>e=.returned (.tuple #[.int .i64 0,.bool false])/\kC w' R tv ts n ov ops/\ZJ R ov ov w w':=
 (sa d f).mono (by rintro e w' ⟨rfl,q,rfl⟩;exact⟨rfl,d.quiet q⟩)
theorem ff {ops:List qM} (d:kC w R tv ts n ov ops) (f:n < ts.length) (h:¬ts[n].kind=2) :
  Calls Tryz.prog 214 #[.pointer (some ⟨R,0,none⟩)] w fun e w'=>e=.returned (.tuple #[.int .i64 0,.bool false])/\kC w' R tv ts n ov ops/\ZJ R ov ov w w':=
 (AX d f h).mono (by rintro e w' ⟨rfl,q,rfl⟩;exact⟨rfl,d.quiet q⟩)
theorem iR {ops:List qM} (d:kC w R tv ts n ov ops) (f:¬n < ts.length) :
  Calls Tryz.prog 230 #[.pointer (some ⟨R,0,none⟩)] w fun e w'=>e=.returned (.bool false)/\kC w' R tv ts n ov ops/\ZJ R ov ov w w':=
 (mZ d f).mono (by rintro e w' ⟨rfl,q,rfl⟩;exact⟨rfl,d.quiet q⟩)
theorem Ab {ops:List qM} (d:kC w R tv ts n ov ops) (f:¬n < ts.length) :
  Calls Tryz.prog 213 #[.pointer (some ⟨R,0,none⟩)] w fun e w'=>e=.returned (.tuple #[.string ⟨#[]⟩,.bool false])/\kC w' R tv ts n ov ops/\ZJ R ov ov w w':=
 (oj d f).mono (by rintro e w' ⟨rfl,q,rfl⟩;exact⟨rfl,d.quiet q⟩)
theorem gW {ops:List qM} (A:kC w R tv ts n ov ops) (y:¬n < ts.length) :
  Calls Tryz.prog 229 #[.pointer (some ⟨R,0,none⟩)] w fun e w'=>e=.returned (.bool false)/\kC w' R tv ts n ov ops/\ZJ R ov ov w w':=by
 go_enter Tryz.func229,Tryz.ntmps229
 go_wp2_with fail
 refine(Ku _ A y).mono ?_
 rintro e w1 ⟨rfl,x,i⟩
 go_wp2_with fail
 refine(Ku _ x y).mono ?_
 rintro e w2 ⟨rfl,o,h⟩
 go_wp2_with fail
 refine(da o y).mono ?_
 rintro e G ⟨rfl,k,f⟩
 go_wp2_with fail
 refine(iR k y).mono ?_
 rintro e F ⟨rfl,j,d⟩
 have D:=zD j
 have z:=zD (i.trans (h.trans (f.trans d)))
 clear x o k j i h f d
 go_wp2_with fail
 go_ret
 exact⟨rfl,D.u,z.u⟩
theorem factor_any {f:Nat} (hf:Reads f 229 (Rt.yV f)) (hc:Reads f 222 (Rt.pComp (Rt.yV f))) :
  Reads (f+1) 229 (Rt.yV (f+1)):=by
 intro w R tv ts n ov a6 W a1 a7
 by_cases hn:n < ts.length
 case neg=>
  refine(gW W hn).mono ?_
  rintro e w1 ⟨rfl,_,a2⟩
  exact Or.inr ⟨by rw[vW hn,Rt.yV],rfl,_,a2⟩
 have T:=zD a1
 clear a1
 have a5:=W.VJ
 have a3:=W.YH
 by_cases hm:ts[n].text=⟨#[45]⟩
 ·have G:Hd (∀x,Rt.yV f (ts.drop (n+1))=x->Rt.yV (f+1) (ts.drop n)=(match x with | none=>none | some (e',r')=>some (e'++[⟨4,0,⟨#[]⟩⟩],r'))):=by
   refine zD ?_
   intro x hx
   rw[ql hn,Rt.yV,zE hm,hx]
   cases x <;> rfl
  go_enter Tryz.func229,Tryz.ntmps229
  go_wp2_with fail
  refine(JD _ W hn hm).mono ?_
  rintro e w1 ⟨rfl,o,h⟩
  clear hm
  go_wp2_with fail
  refine(hf _ _ _ _ _ _ _ o T.u (by omega)).mono ?_
  rintro e w4 (⟨N,n5,H,j,rfl,M,U,y,d⟩| ⟨j,rfl,H,d⟩)
  ·have HN:=zD (G.u _ j)
   clear j
   go_wp2_with fail
   refine(XQ ⟨4,0,⟨#[]⟩⟩ y (by have:=y.YH;simp at this ⊢;omega)).mono ?_
   rintro e w5 ⟨rfl,V,L,F⟩
   have Z:=zD L
   have k:=zD (h.trans (d.trans F))
   clear o y L h d F
   go_wp2_with fail
   go_ret
   exact Or.inl ⟨N++[⟨4,0,⟨#[]⟩⟩],n5,V,HN.u,rfl,by simp;omega,by omega,by have:=Z.u;simpa using this,k.u⟩
  ·have HN:=zD (G.u _ j)
   clear j
   have k:=zD (h.trans d)
   clear o h d
   go_wp2_with fail
   go_ret
   exact Or.inr ⟨HN.u,rfl,_,k.u⟩
 by_cases hp:ts[n].text=⟨#[40]⟩
 ·have G:Hd (Rt.yV (f+1) (ts.drop n)=Rt.closed ⟨#[41]⟩ [] (Rt.pComp (Rt.yV f) (ts.drop (n+1)))):=by
   refine zD ?_
   rw[ql hn,Rt.yV,zA hm,zE hp]
  go_enter Tryz.func229,Tryz.ntmps229
  go_wp2_with fail
  refine(X9 _ W hn hm).mono ?_
  rintro e w0 ⟨rfl,A,i⟩
  clear hm
  go_wp2_with fail
  refine(JD _ A hn hp).mono ?_
  rintro e w1 ⟨rfl,o,h⟩
  clear hp
  go_wp2_with fail
  refine(hc _ _ _ _ _ _ _ o T.u (by omega)).mono ?_
  rintro e w4 (⟨N,n5,H,j,rfl,M,U,y,d⟩| ⟨j,rfl,H,d⟩)
  ·have a4:=y.le
   rw[j]at G
   clear j
   by_cases hn5:n5 < ts.length
   ·by_cases hx5:ts[n5].text=⟨#[41]⟩
    ·have O:Hd (Rt.yV (f+1) (ts.drop n)=some (N,ts.drop (n5+1))):=by
      refine zD ?_
      rw[G.u,ql hn5,Rt.closed,zE hx5,yX]
     clear G
     go_wp2_with fail
     refine(JD _ y hn5 hx5).mono ?_
     rintro e w6 ⟨rfl,I,z⟩
     have Z:=zD I
     have k:=zD (i.trans (h.trans (d.trans z)))
     clear A o y I i h d z hx5
     go_wp2_with fail
     go_ret
     exact Or.inl ⟨N,n5+1,H,O.u,rfl,by omega,by omega,Z.u,k.u⟩
    ·have O:Hd (Rt.yV (f+1) (ts.drop n)=none):=by
      refine zD ?_
      rw[G.u,ql hn5,Rt.closed,zA hx5]
     clear G
     go_wp2_with fail
     refine(X9 _ y hn5 hx5).mono ?_
     rintro e w6 ⟨rfl,I,z⟩
     have k:=zD (i.trans (h.trans (d.trans z)))
     clear A o y I i h d z hx5
     go_wp2_with fail
     go_ret
     exact Or.inr ⟨O.u,rfl,_,k.u⟩
   ·have O:Hd (Rt.yV (f+1) (ts.drop n)=none):=by
     refine zD ?_
     rw[G.u,vW hn5,Rt.closed]
    clear G
    go_wp2_with fail
    refine(Ku _ y hn5).mono ?_
    rintro e w6 ⟨rfl,I,z⟩
    have k:=zD (i.trans (h.trans (d.trans z)))
    clear A o y I i h d z
    go_wp2_with fail
    go_ret
    exact Or.inr ⟨O.u,rfl,_,k.u⟩
  ·have O:Hd (Rt.yV (f+1) (ts.drop n)=none):=by
    refine zD ?_
    rw[G.u,j,Rt.closed]
   clear G j
   have k:=zD (i.trans (h.trans d))
   clear A o i h d
   go_wp2_with fail
   go_ret
   exact Or.inr ⟨O.u,rfl,_,k.u⟩
 by_cases hk:ts[n].kind=2
 ·have G:Hd (Rt.yV (f+1) (ts.drop n)=some ([⟨1,Rt.val ts[n].text,⟨#[]⟩⟩],ts.drop (n+1))):=by
   refine zD ?_
   rw[ql hn,Rt.yV,zA hm,zA hp,zE hk]
  have a0:ts[n].text.size<=maxLen:=by
   have:=T.u ts[n] (zj hn)
   unfold maxLen
   omega
  go_enter Tryz.func229,Tryz.ntmps229
  go_wp2_with fail
  refine(X9 _ W hn hm).mono ?_
  rintro e w0 ⟨rfl,A,i⟩
  clear hm
  go_wp2_with fail
  refine(X9 _ A hn hp).mono ?_
  rintro e w1 ⟨rfl,o,h⟩
  clear hp
  go_wp2_with fail
  refine(fe o hn hk a0).mono ?_
  rintro e w2 ⟨rfl,J,D⟩
  clear hk a0
  go_wp2_with fail
  refine(XQ ⟨1,Rt.val ts[n].text,⟨#[]⟩⟩ J (by omega)).mono ?_
  rintro e w5 ⟨rfl,V,L,F⟩
  have Z:=zD L
  have k:=zD (i.trans (h.trans (D.trans F)))
  clear A o J L i h D F
  go_wp2_with fail
  go_ret
  exact Or.inl ⟨_,n+1,V,G.u,rfl,by simp;omega,by omega,Z.u,k.u⟩
 ·have G:Hd (Rt.yV (f+1) (ts.drop n)=Qi f ts[n] (ts.drop (n+1))):=by
   refine zD ?_
   rw[ql hn,Rt.yV,zA hm,zA hp,zA hk]
   rfl
  go_enter Tryz.func229,Tryz.ntmps229
  go_wp2_with fail
  refine(X9 _ W hn hm).mono ?_
  rintro e w0 ⟨rfl,A,i⟩
  clear hm
  go_wp2_with fail
  refine(X9 _ A hn hp).mono ?_
  rintro e w1 ⟨rfl,o,h⟩
  clear hp
  go_wp2_with fail
  refine(ff o hn hk).mono ?_
  rintro e w2 ⟨rfl,J,D⟩
  clear hk
  go_wp2_with fail
  refine(ma hc J T.u hn (by omega)).mono ?_
  rintro e w4 (⟨N,n5,H,j,rfl,M,U,y,d⟩| ⟨j,rfl,H,d⟩)
  ·have O:=zD (G.u.trans j)
   have Z:=zD y
   have k:=zD (i.trans (h.trans (D.trans d)))
   clear A o J y i h D d j
   go_wp2_with fail
   go_ret
   exact Or.inl ⟨_,n5,H,O.u,rfl,by omega,by omega,Z.u,k.u⟩
  ·have O:=zD (G.u.trans j)
   have k:=zD (i.trans (h.trans (D.trans d)))
   clear A o J i h D d j
   go_wp2_with fail
   go_ret
   exact Or.inr ⟨O.u,rfl,_,k.u⟩
theorem tY (f:Nat):Reads f 229 (Rt.yV f):=by
 induction f with
 | zero=>
  intro w R tv o n ov h j i k
  refine(gW j (by omega)).mono ?_
  rintro e w1 ⟨rfl,_,d⟩
  exact Or.inr ⟨by rw[Rt.yV],rfl,_,d⟩
 | succ f ih=>exact factor_any ih (comparison_any (uM (ns ih)))
theorem gl (f:Nat):Reads f 222 (Rt.pComp (Rt.yV f)):=comparison_any (uM (ns (tY f)))
abbrev zg:Value:=.slice none 0 0
theorem ZJ.YS (h:ZJ R a b w w1) (d:w.heap.size<=N) (v:Value):ZJ R a b w (w1.setCell ⟨N,i,none⟩ v):=
 ⟨h.os,h.tape,h.output,by have:=h.size;simp[World.setCell];omega,fun k hk h1 h2=>(zO w1 ⟨N,i,none⟩ v k (by show k≠N;omega)).trans (h.block k hk h1 h2),h.own⟩
theorem yk (h:w.ownsRow base e size v n xs) {a:Addr} (d:∀g,v.ownBlock=some g->g≠a.block) (u:Value):(w.setCell a u).ownsRow base e size v n xs:=by
 obtain⟨f,h2⟩:=h
 refine⟨f,?_⟩
 rcases h2 with h2 | ⟨g,cap,cur,hv,hg,hh,r⟩
 ·exact Or.inl h2
 ·exact Or.inr ⟨g,cap,cur,hv,hg,by rw[zO _ _ _ _ (d g (by rw[hv];rfl))];exact hh,r⟩
theorem kC.setOther {ops:List qM} (f:kC w R tv ts n ov ops) (A:R < N) (z:∀g,ov.ownBlock=some g->g≠N) (v:Value) :
  kC (w.setCell ⟨N,i,none⟩ v) R tv ts n ov ops:=by
 have d:∀k,k≠N->(w.setCell ⟨N,i,none⟩ v).heap[k]?=w.heap[k]?:=fun k hk=>zO w ⟨N,i,none⟩ v k hk
 refine⟨f.le,f.VJ,f.YH,by rw[d R (by omega)];exact f.block,?_,yk f.own z v⟩
 obtain⟨b,cap,rfl,x,y⟩:=f.yY
 have o:∀j,(w.setCell ⟨N,i,none⟩ v).cell? ⟨b,j,none⟩=w.cell? ⟨b,j,none⟩:=fun j=>xG (w:=w) (d b (by omega))
 exact⟨b,cap,rfl,x,fun i h=>⟨by rw[o];exact(y i h).1,by rw[o];exact(y i h).2⟩⟩
theorem kC.clear {ops:List qM} (f:kC w R tv ts n ov ops) :
  kC (w.setCell ⟨R,2,none⟩ zg) R tv ts n zg []/\ZJ R ov zg w (w.setCell ⟨R,2,none⟩ zg)/\(w.setCell ⟨R,2,none⟩ zg).ownsRow (R+1) 236 3 ov ops.length (xX ops):=by
 have d:∀k,k≠R->(w.setCell ⟨R,2,none⟩ zg).heap[k]?=w.heap[k]?:=fun k hk=>zO w ⟨R,2,none⟩ _ k hk
 refine⟨⟨f.le,f.VJ,by simp,?_,?_,zW _ _ _ _⟩,⟨rfl,rfl,rfl,by simp[World.setCell],fun k _ h1 _=>d k h1,fun g h=>by cases h⟩,?_⟩
 ·show (w.heap.modify R _)[R]?=_
  rw[ZD]
  simp[f.block]
 ·obtain⟨b,cap,rfl,x,y⟩:=f.yY
  have o:∀j,(w.setCell ⟨R,2,none⟩ zg).cell? ⟨b,j,none⟩=w.cell? ⟨b,j,none⟩:=fun j=>xG (w:=w) (d b (by omega))
  exact⟨b,cap,rfl,x,fun i h=>⟨by rw[o];exact(y i h).1,by rw[o];exact(y i h).2⟩⟩
 ·exact qL f.own (by show R < R+1;omega) _
theorem ZZ (G:kC w R tv ts n zg []) (A:∀t∈ts,t.text.size<=40000) :
  Calls Tryz.prog 215 #[.pointer (some ⟨R,0,none⟩)] w fun e w'=>
   (∃em n' xv,Rt.Z1 (ts.drop n)=some (em,ts.drop n')/\e=.returned (.tuple #[.agg #[xv],.bool true])/\n < n'/\em.length<=n'/\kC w' R tv ts n' zg []/\
    w'.ownsRow w.heap.size 236 3 xv em.length (xX em)/\ZJ R zg zg w w')\/
   (Rt.Z1 (ts.drop n)=none/\e=.returned (.tuple #[.agg #[zg],.bool false])/\∃ov,ZJ R zg ov w w'):=by
 have T:=G.VJ
 have L:=zD A
 clear A
 have J:R < w.heap.size:=zt w _ (zC G.block 0 (by simp))
 go_enter Tryz.func215,Tryz.ntmps215
 go_wp2_with fail
 obtain⟨o,d⟩:=G.zP ((zI w.heap.size w).alloc (zB _) (.cells #[zg] 140))
 refine(gl 24 _ _ _ _ _ _ _ o L.u (by omega)).mono ?_
 rintro e w1 (⟨em,U,z,D,rfl,O,H,f,hfr1⟩| ⟨D,rfl,z,hfr1⟩)
 ·rw[xN]at f
  have x:w1.heap[w.heap.size]?=some (.cells #[zg] 140 (0,0)):=by
   rw[hfr1.block w.heap.size (by simp) (by omega) (by simp[Value.ownBlock])]
   exact zN w _
  have hg:∀g,z.ownBlock=some g->w.heap.size < g:=fun g hg=>by
   rcases hfr1.own g hg with h | h
   ·cases h
   ·simp at h;omega
  obtain⟨ad,cap,rfl⟩:=zK f.own
  have M:=zD D
  clear D
  have Z:=zC f.block 2 (by simp)
  have f2:=zS f.block 2
  have I:=zC x 0 (by simp)
  have W:=zS x 0
  simp at Z I
  obtain⟨F,k,j⟩:=f.clear
  have HR:=zD (F.setOther (N:=w.heap.size) (i:=0) J (by intro g h;cases h) (Value.slice ad em.length cap))
  have y:=zD ((d.trans (hfr1.trans k)).YS (N:=w.heap.size) (i:=0) (zB _) (Value.slice ad em.length cap))
  have HO:=zD (Je (b':=w.heap.size) (yk j (a:=⟨w.heap.size,0,none⟩) (fun g h=>by have:=hg g h;show g≠w.heap.size;omega) (Value.slice ad em.length cap)) (fun g h=>by have:=hg g h;omega))
  clear G o f F d hfr1 k j x
  have V:¬R=w.heap.size:=by omega
  go_wp2_with fail
  refine zT (v:=.tuple #[.agg #[Value.slice ad em.length cap],.bool true]) ?_ rfl (Or.inl ⟨em,U,_,M.u,rfl,H,by omega,HR.u,HO.u,y.u⟩)
  simp[results,Tryz.results215,go_sem,I]
 ·have x:w1.heap[w.heap.size]?=some (.cells #[zg] 140 (0,0)):=by
   rw[hfr1.block w.heap.size (by simp) (by omega) (by simp[Value.ownBlock])]
   exact zN w _
  have I:=zC x 0 (by simp)
  have W:=zS x 0
  simp at I
  have M:=zD D
  have y:=zD ((d.trans hfr1).YS (N:=w.heap.size) (i:=0) (zB _) zg)
  clear G o d hfr1 x D
  go_wp2_with fail
  refine zT (v:=.tuple #[.agg #[zg],.bool false]) ?_ rfl (Or.inr ⟨M.u,rfl,_,y.u⟩)
  simp[results,Tryz.results215,go_sem,I]
theorem JH {ops:List qM} (i:kC w R tv ts n ov ops) :
  Calls Tryz.prog 213 #[.pointer (some ⟨R,0,none⟩)] w fun e w'=>
   (∃nm,n < ts.length/\Rt.kE (ts.drop n)=some (nm,ts.drop (n+1))/\e=.returned (.tuple #[.string nm,.bool true])/\kC w' R tv ts (n+1) ov ops/\ZJ R ov ov w w')\/
   (Rt.kE (ts.drop n)=none/\e=.returned (.tuple #[.string ⟨#[]⟩,.bool false])/\kC w' R tv ts n ov ops/\ZJ R ov ov w w'):=by
 by_cases hn:n < ts.length
 ·refine(Zh w R tv ts n ov ops i hn).mono ?_
  rintro e w' (⟨h,j,rfl,f,d⟩| ⟨h,rfl,f,d⟩)
  ·exact Or.inl ⟨_,hn,by rw[ql hn,Rt.kE,zE ⟨h,j⟩],rfl,f,d⟩
  ·exact Or.inr ⟨by rw[ql hn,Rt.kE,zA h],rfl,f,d⟩
 ·refine(Ab i hn).mono ?_
  rintro e w' ⟨rfl,f,d⟩
  exact Or.inr ⟨by rw[vW hn,Rt.kE],rfl,f,d⟩
def qi (w:World) (B:Nat):List Value->List (List qM)->Prop
 | [],[]=>True
 | x::xs,o::os=>w.ownsRow B 236 3 x o.length (xX o)/\qi w B xs os
 | _,_=>False
def qk (w:World) (B:Nat) (v:Array Value) (fm:Rt.qS):Prop:=
 ∃pv iv vv vs,v=#[.int .i64 fm.kind,.string fm.name,.int .i64 fm.cells,pv,iv,vv]/\w.ownsRow B 9 1 pv fm.params.length (fm.params.map Value.string)/\
  w.ownsRow B 236 3 iv fm.index.length (xX fm.index)/\w.ownsRow B 140 1 vv fm.values.length vs/\qi w B vs fm.values
abbrev yo:Array Value:=#[.int .i64 0,.string ⟨#[]⟩,.int .i64 0,zg,zg,zg]
def YQ (spec:List Rt.Tk->Rt.eG) (R:Nat) (tv:Value) (ts:List Rt.Tk) (n:Nat) (w:World) (e:Ending) (w':World):Prop:=
 (∃fm n' fv,spec (ts.drop n)=some (fm,ts.drop n')/\e=.returned (.tuple #[.agg fv,.bool true])/\kC w' R tv ts n' zg []/\qk w' w.heap.size fv fm/\ZJ R zg zg w w')\/
 (spec (ts.drop n)=none/\e=.returned (.tuple #[.agg yo,.bool false])/\∃ov,ZJ R zg ov w w')
abbrev W6 (w:World) (N:Nat) (a b c d e f:Value):World:=
 (((((w.setCell ⟨N,0,none⟩ a).setCell ⟨N,1,none⟩ b).setCell ⟨N,2,none⟩ c).setCell ⟨N,3,none⟩ d).setCell ⟨N,4,none⟩ e).setCell ⟨N,5,none⟩ f
theorem ZJ.jM {x y:Value} (h:ZJ R x y w w1) (i:w.heap.size<=N) (a b c d e f:Value):ZJ R x y w (W6 w1 N a b c d e f):=
 (((((h.YS i a).YS i b).YS i c).YS i d).YS i e).YS i f
theorem kC.jM (k:kC w R tv ts n zg []) (j:R < N) (a b c d e f:Value):kC (W6 w N a b c d e f) R tv ts n zg []:=
 have i:∀g,(zg:Value).ownBlock=some g->g≠N:=by intro g h;cases h
 (((((k.setOther j i a).setOther j i b).setOther j i c).setOther j i d).setOther j i e).setOther j i f
theorem ZU (h:w.ownsRow base t size v n xs) (i:∀g,v.ownBlock=some g->g≠N) (a b c d e f:Value):(W6 w N a b c d e f).ownsRow base t size v n xs:=
 yk (yk (yk (yk (yk (yk h i a) i b) i c) i d) i e) i f
def Six (w:World) (N:Nat) (a b c d e f:Value):Prop:=
 w.cell? ⟨N,0,none⟩=some a/\w.cell? ⟨N,1,none⟩=some b/\w.cell? ⟨N,2,none⟩=some c/\w.cell? ⟨N,3,none⟩=some d/\w.cell? ⟨N,4,none⟩=some e/\w.cell? ⟨N,5,none⟩=some f/\
 w.frozen? ⟨N,0,none⟩=false/\w.frozen? ⟨N,1,none⟩=false/\w.frozen? ⟨N,2,none⟩=false/\w.frozen? ⟨N,3,none⟩=false/\w.frozen? ⟨N,4,none⟩=false/\w.frozen? ⟨N,5,none⟩=false
theorem YD {c d e f:Value} (h:w.heap[N]?=some (.cells #[a,b,c,d,e,f] t (0,0))):Six w N a b c d e f:=
 ⟨zC h 0 (by simp),zC h 1 (by simp),zC h 2 (by simp),zC h 3 (by simp),zC h 4 (by simp),zC h 5 (by simp),
  zS h 0,zS h 1,zS h 2,zS h 3,zS h 4,zS h 5⟩
theorem vM (w:World) (B:Nat) (d:Int) (f:ByteArray) (cells:Int):qk w B #[.int .i64 d,.string f,.int .i64 cells,zg,zg,zg] ⟨d,f,cells,[],[],[]⟩:=
 ⟨zg,zg,zg,[],rfl,zW _ _ _ _,zW _ _ _ _,zW _ _ _ _,trivial⟩
theorem lT (d:Int) (o:kC w R tv ts n zg []) :
  Calls Tryz.prog 196 #[.pointer (some ⟨R,0,none⟩),.int .i64 d] w (YQ (Rt.pNamed d) R tv ts n w):=by
 have x:R < w.heap.size:=zt w _ (zC o.block 0 (by simp))
 go_enter Tryz.func196,Tryz.ntmps196
 go_wp2_with fail
 obtain⟨j,i⟩:=o.zP ((zI w.heap.size w).alloc (zB _) (.cells yo 143))
 refine(JH j).mono ?_
 intro e w1 hpost
 have f:ZJ R zg zg (w.alloc (.cells yo 143)) w1:=by rcases hpost with⟨_,_,_,_,_,h⟩| ⟨_,_,_,h⟩ <;> exact h
 have z:w1.heap[w.heap.size]?=some (.cells yo 143 (0,0)):=by
  rw[f.block w.heap.size (by simp) (by omega) (by simp[Value.ownBlock])]
  exact zN w _
 obtain⟨I,H,G,F,D,A,U,T,O,N,M,L⟩:=YD z
 have k:=zD (i.trans f)
 clear j f z i
 rcases hpost with⟨nm,hn,hs,rfl,hr1,_⟩| ⟨hs,rfl,hr1,_⟩
 ·have J:=zD hr1
  have y:=zD hs
  clear hr1 hs o
  go_wp2_with fail
  refine zT (v:=.tuple #[.agg #[.int .i64 d,.string nm,.int .i64 0,zg,zg,zg],.bool true]) ?_ rfl
   (Or.inl ⟨_,n+1,_,by rw[Rt.pNamed,y.u],rfl,J.u.jM x _ _ _ _ _ _,vM _ _ _ _ _,k.u.jM (zB _) _ _ _ _ _ _⟩)
  simp[results,Tryz.results196,go_sem,I,H,G,F,D,A]
 ·have y:=zD hs
  clear hr1 hs o
  go_wp2_with fail
  refine zT (v:=.tuple #[.agg yo,.bool false]) ?_ rfl
   (Or.inr ⟨by rw[Rt.pNamed,y.u],rfl,_,k.u.jM (zB _) _ _ _ _ _ _⟩)
  simp[results,Tryz.results196,go_sem,I,H,G,F,D,A]
theorem ZJ.alloc {R:Nat} {a b:Value} {w w1:World} (h:ZJ R a b w w1) (o:Obj):ZJ R a b w (w1.alloc o):=
 ⟨h.os,h.tape,h.output,by have:=h.size;simp;omega,fun k hk h1 h2=>(jx w1 o k (zX hk h.size)).trans (h.block k hk h1 h2),h.own⟩
theorem KS (w:World) (B:Nat) (e:TypeId) (x:Value) (d:B<=w.heap.size):(w.alloc (.cells #[x] e)).ownsRow B e 1 (.slice (some ⟨w.heap.size,0,none⟩) 1 1) 1 [x]:=
 ⟨rfl,Or.inr ⟨w.heap.size,1,#[x],rfl,d,zN w _,zB _,by unfold maxLen;omega,rfl,rfl⟩⟩
theorem eO (w:World) (N:Nat) (a b c d e f:Value):(W6 w N a b c d e f).heap.size=w.heap.size:=by simp[World.setCell]
theorem Vh (d:Int) (G:kC w R tv ts n zg []) (A:∀t∈ts,t.text.size<=40000) :
  Calls Tryz.prog 199 #[.pointer (some ⟨R,0,none⟩),.int .i64 d] w (YQ (Rt.kn d) R tv ts n w):=by
 have I:R < w.heap.size:=zt w _ (zC G.block 0 (by simp))
 have J:=zD A
 clear A
 go_enter Tryz.func199,Tryz.ntmps199
 go_wp2_with fail
 obtain⟨F,i⟩:=G.zP ((zI w.heap.size w).alloc (zB _) (.cells yo 143))
 refine(ZZ F J.u).mono ?_
 intro e w1 hpost
 obtain⟨O,hfr1⟩:∃O,ZJ R zg O (w.alloc (.cells yo 143)) w1:=by rcases hpost with⟨_,_,_,_,_,_,_,_,_,h⟩| ⟨_,_,_,h⟩ <;> exact⟨_,h⟩
 have V:w1.heap[w.heap.size]?=some (.cells yo 143 (0,0)):=by
  rw[hfr1.block w.heap.size (by simp) (by omega) (by simp[Value.ownBlock])]
  exact zN w _
 have T:w.heap.size < w1.heap.size:=by have:=hfr1.size;simp at this;omega
 obtain⟨c0,c1,c2,c3,Z,W,f0,f1,f2,f3,f4,f5⟩:=YD V
 clear F V
 rcases hpost with⟨em,n1,xv,hs,rfl,hn1,hem,hr1,hown,f⟩| ⟨hs,rfl,ov1,f⟩
 ·obtain⟨y,cap,rfl⟩:=zK hown
  have L:=zD hs
  have U:∀g,(Value.slice y em.length cap).ownBlock=some g->g≠w.heap.size:=fun g hg=>by have:=(hown.lt g hg).1;simp at this;omega
  have M:=zD (yn (b':=w.heap.size) (ZU hown U (.int .i64 d) (.string ⟨#[]⟩) (.int .i64 0) zg zg (.slice (some ⟨w1.heap.size+1,0,none⟩) 1 1)) (by simp))
  have HR:=zD (hr1.jM I (.int .i64 d) (.string ⟨#[]⟩) (.int .i64 0) zg zg (.slice (some ⟨w1.heap.size+1,0,none⟩) 1 1))
  have k:=zD ((i.trans f).jM (N:=w.heap.size) (zB _) (.int .i64 d) (.string ⟨#[]⟩) (.int .i64 0) zg zg (.slice (some ⟨w1.heap.size+1,0,none⟩) 1 1))
  clear hs G U hown hr1 i hfr1 f
  go_wp2_with fail
  have o:=eO w1 w.heap.size (.int .i64 d) (.string ⟨#[]⟩) (.int .i64 0) zg zg (.slice (some ⟨w1.heap.size+1,0,none⟩) 1 1)
  generalize H:W6 w1 w.heap.size (.int .i64 d) (.string ⟨#[]⟩) (.int .i64 0) zg zg (.slice (some ⟨w1.heap.size+1,0,none⟩) 1 1)=w2 at M HR k o
  obtain⟨D,x⟩:=HR.u.zP (((zI w2.heap.size w2).alloc (zB _) (.cells #[.slice y em.length cap] 140)).alloc (by simp) (.cells #[.slice y em.length cap] 140))
  have j:=KS (w2.alloc (.cells #[.slice y em.length cap] 140)) w.heap.size 140 (.slice y em.length cap) (by simp;omega)
  have z:(w2.alloc (.cells #[.slice y em.length cap] 140)).heap.size=w1.heap.size+1:=by simp[o]
  rw[z]at j
  refine zT (v:=.tuple #[.agg #[.int .i64 d,.string ⟨#[]⟩,.int .i64 0,zg,zg,.slice (some ⟨w1.heap.size+1,0,none⟩) 1 1],.bool true]) ?_ rfl ?_
  ·simp[results,Tryz.results199,go_sem,c0,c1,c2,c3,Z,W,T]
  ·rw[<-H]at D x j M k
   exact Or.inl ⟨⟨d,⟨#[]⟩,0,[],[],[em]⟩,n1,_,by rw[Rt.kn,L.u],rfl,D,⟨zg,zg,_,[_],rfl,zW _ _ _ _,zW _ _ _ _,j,⟨(M.u.alloc _).alloc _,trivial⟩⟩,k.u.trans x⟩
 ·have L:=zD hs
  have k:=zD (i.trans f)
  clear hs G f i
  go_wp2_with fail
  refine zT (v:=.tuple #[.agg yo,.bool false]) ?_ rfl ?_
  ·simp[results,Tryz.results199,go_sem,c0,c1,c2,c3,Z,W,T]
  ·exact Or.inr ⟨by rw[Rt.kn,L.u],rfl,_,(k.u.jM (N:=w.heap.size) (zB _) _ _ _ _ _ _).alloc _⟩
theorem ZJ.qT {o:Obj} (h:ZJ R zg ov w1 w2) (hN:w1.heap[N]?=some o) (d:N≠R):w2.heap[N]?=some o:=by
 have f:N < w1.heap.size:=by
  by_cases h:N < w1.heap.size
  ·exact h
  ·rw[vq (by omega)]at hN;cases hN
 rw[h.block N f d (by simp[Value.ownBlock])]
 exact hN
theorem ZJ.ZH {B:Nat} (h:ZJ R zg ov w1 w2) (d:w1.ownsRow B e size v n xs) (i:R < B):w2.ownsRow B e size v n xs:=by
 obtain⟨f,h2⟩:=d
 refine⟨f,?_⟩
 rcases h2 with h2 | ⟨g,cap,cur,hv,hg,hh,r⟩
 ·exact Or.inl h2
 ·exact Or.inr ⟨g,cap,cur,hv,hg,h.qT hh (by omega),r⟩
theorem sd {ops:List qM} (i:kC w R tv ts n ov ops) (h:∀t∈ts,t.text.size<=40000) :
  Calls Tryz.prog 214 #[.pointer (some ⟨R,0,none⟩)] w fun e w'=>
   (∃v,Rt.XC (ts.drop n)=some (v,ts.drop (n+1))/\e=.returned (.tuple #[.int .i64 v,.bool true])/\kC w' R tv ts (n+1) ov ops/\ZJ R ov ov w w')\/
   (Rt.XC (ts.drop n)=none/\e=.returned (.tuple #[.int .i64 0,.bool false])/\kC w' R tv ts n ov ops/\ZJ R ov ov w w'):=by
 by_cases hn:n < ts.length
 ·by_cases hk:ts[n].kind=2
  ·refine(fe i hn hk (by have:=h _ (zj hn);unfold maxLen;omega)).mono ?_
   rintro e w' ⟨rfl,f,d⟩
   exact Or.inl ⟨_,by rw[ql hn,Rt.XC,zE hk],rfl,f,d⟩
  ·refine(ff i hn hk).mono ?_
   rintro e w' ⟨rfl,f,d⟩
   exact Or.inr ⟨by rw[ql hn,Rt.XC,zA hk],rfl,f,d⟩
 ·refine(da i hn).mono ?_
  rintro e w' ⟨rfl,f,d⟩
  exact Or.inr ⟨by rw[vW hn,Rt.XC],rfl,f,d⟩
theorem BR (O:kC w R tv ts n zg []) (M:∀t∈ts,t.text.size<=40000) :
  Calls Tryz.prog 197 #[.pointer (some ⟨R,0,none⟩)] w (YQ Rt.pArray R tv ts n w):=by
 have U:R < w.heap.size:=zt w _ (zC O.block 0 (by simp))
 have V:=zD M
 clear M
 go_enter Tryz.func197,Tryz.ntmps197
 go_wp2_with fail
 obtain⟨A,i⟩:=O.zP ((zI w.heap.size w).alloc (zB _) (.cells yo 143))
 have z:(w.alloc (.cells yo 143)).heap[w.heap.size]?=some (.cells yo 143 (0,0)):=zN w _
 refine(JH A).mono ?_
 rintro e w1 (⟨W,hn,N,rfl,y,f⟩| ⟨N,rfl,y,f⟩)
 ·have T:=f.qT z (by omega)
  have L:=zD N
  have j:=zD (i.trans f)
  clear O A i f N z
  go_wp2_with fail
  refine(sd y V.u).mono ?_
  rintro e w2 (⟨v,k,rfl,x,d⟩| ⟨k,rfl,x,d⟩)
  ·obtain⟨J,I,H,G,F,D,f0,f1,f2,f3,f4,Z⟩:=YD (d.qT T (by omega))
   have o:=zD k
   have HR:=zD x
   have h:=zD (j.u.trans d)
   clear y x d k j T
   by_cases hv1:v < 1
   ·go_wp2_with fail
    refine zT (v:=.tuple #[.agg yo,.bool false]) ?_ rfl (Or.inr ⟨by rw[Rt.pArray,L.u];simp only;rw[o.u];simp only;rw[zE (Or.inl hv1)],rfl,_,h.u.jM (zB _) _ _ _ _ _ _⟩)
    simp[results,Tryz.results197,go_sem,J,I,H,G,F,D]
   ·by_cases hv2:32 < v
    ·go_wp2_with fail
     refine zT (v:=.tuple #[.agg yo,.bool false]) ?_ rfl (Or.inr ⟨by rw[Rt.pArray,L.u];simp only;rw[o.u];simp only;rw[zE (Or.inr hv2)],rfl,_,h.u.jM (zB _) _ _ _ _ _ _⟩)
     simp[results,Tryz.results197,go_sem,J,I,H,G,F,D]
    ·have HE:Hd (Rt.pArray (ts.drop n)=some (⟨2,W,v,[],[],[]⟩,ts.drop (n+1+1))):=by
      refine zD ?_
      rw[Rt.pArray,L.u]
      simp only
      rw[o.u]
      simp only
      rw[zA (by omega)]
     go_wp2_with fail
     refine zT (v:=.tuple #[.agg #[.int .i64 2,.string W,.int .i64 v,zg,zg,zg],.bool true]) ?_ rfl
      (Or.inl ⟨_,_,_,HE.u,rfl,HR.u.jM U _ _ _ _ _ _,vM _ _ _ _ _,h.u.jM (zB _) _ _ _ _ _ _⟩)
     simp[results,Tryz.results197,go_sem,J,I,H,G,F,D]
  ·obtain⟨J,I,H,G,F,D,f0,f1,f2,f3,f4,Z⟩:=YD (d.qT T (by omega))
   have o:=zD k
   have h:=zD (j.u.trans d)
   clear y x d k j T
   go_wp2_with fail
   refine zT (v:=.tuple #[.agg yo,.bool false]) ?_ rfl (Or.inr ⟨by rw[Rt.pArray,L.u];simp only;rw[o.u],rfl,_,h.u.jM (zB _) _ _ _ _ _ _⟩)
   simp[results,Tryz.results197,go_sem,J,I,H,G,F,D]
 ·obtain⟨J,I,H,G,F,D,f0,f1,f2,f3,f4,Z⟩:=YD (f.qT z (by omega))
  have L:=zD N
  have j:=zD (i.trans f)
  clear O A i f N z
  go_wp2_with fail
  refine zT (v:=.tuple #[.agg yo,.bool false]) ?_ rfl (Or.inr ⟨by rw[Rt.pArray,L.u],rfl,_,j.u.jM (zB _) _ _ _ _ _ _⟩)
  simp[results,Tryz.results197,go_sem,J,I,H,G,F,D]
end Go.Proofs.YthleadfkfnnadaaGreat
