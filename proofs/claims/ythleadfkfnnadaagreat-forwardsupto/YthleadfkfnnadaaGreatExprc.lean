/- The walks of the reader of expressions: comparisons, variables, factors, all of them. -/
import Derived.Deep.RegionLaw
import Derived.Test.YthleadfkfnnadaaGreatReadc
import Derived.Deep.LoopGhost
set_option maxHeartbeats 4000000
set_option maxRecDepth 100000
set_option linter.unusedSimpArgs false
namespace Go.Proofs.YthleadfkfnnadaaGreat
open Go.RowKit
attribute [local go_sem ↓] Go.wp_at_zero Go.wp_at_succ
variable {lo hi:Int} {ts:List Rt.Tk} {R n g n1 f:Nat} {tot:Rt.JX} {tv ov:Value} {w w1:World}
theorem nk (s:ByteArray) (w:World) (f:s.size<=maxLen) :
  Calls Tryz.prog 221 #[.string s] w fun e w'=>e=.returned (.int .i64 (Rt.val s))/\w'=w:=by
 unfold maxLen at f
 go_enter Tryz.func221,Tryz.ntmps221
 go_wp2
 go_loop [3,4] (fun v i=>∃k:Nat,k<=s.size/\i=.int .i64 k/\v=.int .i64 (Rt.valTo s k)) (fun _ i=>s.size-(intOf i).toNat)
 case atStart=>exact⟨0,zo _,rfl,rfl⟩
 case round=>
  obtain⟨k,h,rfl,rfl⟩:=hrel
  by_cases hlt:k < s.size
  ·have HB:Hd (Rt.qC s k=(s[k].toNat:Int)):=Rt.jB hlt
   go_wp2
   go_round
   case rel=>exact⟨k+1,by omega,by go_num,by rw[Rt.valTo,HB.out]⟩
   case measure=>simp[intOf];omega
  ·have d:k=s.size:=by omega
   subst d
   go_wp2
   go_ret
   exact⟨rfl,rfl⟩
theorem kC.push {ov':Value} {ops:List qM} {o:qM} {wa:World} (y:kC w R tv ts n ov ops) (z:Below w.heap.size w wa)
  (A:w1.ownsRow (R+1) 236 3 ov' (ops.length+1) (xX ops++[.int .i64 o.code,.int .i64 o.number,.string o.name])) (d:wa.grownBy w1 ov.ownBlock)
  (J:∀g,ov'.ownBlock=some g->ov.ownBlock=some g\/w.heap.size<=g) (M:ops.length < n) :
  kC (w1.setCell ⟨R,2,none⟩ ov') R tv ts n ov' (ops++[o])/\ZJ R ov ov' w (w1.setCell ⟨R,2,none⟩ ov'):=by
 have H:R < w.heap.size:=zt w _ (zC y.block 0 (by simp))
 have D:∀k,k<=R->some k≠ov.ownBlock:=fun k hk h=>by have:=(y.own.lt k h.symm).1;omega
 have f:∀k,k < w.heap.size->some k≠ov.ownBlock->w1.heap[k]?=w.heap[k]?:=fun k hk hkv=>(d.block k (zX hk z.size) hkv).trans (z.block k hk)
 have x:∀k,k≠R->(w1.setCell ⟨R,2,none⟩ ov').heap[k]?=w1.heap[k]?:=fun k hk=>zO w1 ⟨R,2,none⟩ _ k hk
 have G:w1.heap[R]?=some (.cells #[tv,.int .i64 n,ov] 208 (0,0)):=(f R H (D R (zB _))).trans y.block
 refine⟨⟨y.le,y.VJ,by simp;omega,?_,?_,?_⟩,⟨d.os.trans z.os,d.tape.trans z.tape,d.output.trans z.output,?_,fun k hk hkR hkv=>(x k hkR).trans (f k hk hkv),J⟩⟩
 ·show (w1.heap.modify R _)[R]?=_
  rw[ZD]
  simp[G]
 ·obtain⟨b,cap,rfl,I,L⟩:=y.yY
  have F:∀j,(w1.setCell ⟨R,2,none⟩ ov').cell? ⟨b,j,none⟩=w.cell? ⟨b,j,none⟩:=fun j=>xG (w:=w) ((x b (by omega)).trans (f b (by omega) (D b (by omega))))
  exact⟨b,cap,rfl,I,fun i h=>⟨by rw[F];exact(L i h).1,by rw[F];exact(L i h).2⟩⟩
 ·rw[fW,ze]
  exact qL A (by show R < R+1;omega) _
 ·simp[World.setCell]
  exact zi z.size d.size
theorem Tryz.F7:(Tryz.prog.info? 236).map (fun i=>(i.zero,i.size,i.bytes))=some (some (.agg #[.int .i64 0,.int .i64 0,.string ByteArray.empty]),3,32):=by kernel_rfl
theorem DJ {a b c:Value} (h:R < w.heap.size) (A:w.cell? ⟨R,2,none⟩=some ov) (z:w.frozen? ⟨R,2,none⟩=false) (f:ov.ownBlock≠some R)
  (x:∀k,ov.ownBlock=some k->R+1<=k/\k < w.heap.size) {o:Obj}
  (d:((w.alloc (.cells #[a,b,c] 236)).alloc o).drew.grownBy w1 ov.ownBlock) :
  (w1.cell? ⟨R,2,none⟩=some ov/\w1.cell? ⟨w.heap.size,0,none⟩=some a/\w1.cell? ⟨w.heap.size,1,none⟩=some b/\w1.cell? ⟨w.heap.size,2,none⟩=some c)/\w1.frozen? ⟨R,2,none⟩=false:=by
 have j:∀k,k < w.heap.size+1->some k≠ov.ownBlock->w1.heap[k]?=(w.alloc (.cells #[a,b,c] 236)).heap[k]?:=fun k hk hv=>by
  rw[d.block k (by simp;omega) hv]
  exact jx _ _ _ (by simp;omega)
 have i:w1.heap[R]?=w.heap[R]?:=(j R (by omega) (xK f)).trans (jx _ _ _ h)
 have y:w1.heap[w.heap.size]?=(w.alloc (.cells #[a,b,c] 236)).heap[w.heap.size]?:=j _ (by omega) (fun e=>by have:=(x _ e.symm).2;omega)
 refine⟨⟨(xG (w:=w) i).trans A,?_,?_,?_⟩,(World.frozen?_of_block (w:=w) i).trans z⟩
 all_goals (rw[xG (w:=w.alloc (.cells #[a,b,c] 236)) y];simp)
theorem XQ {ops:List qM} (o:qM) (j:kC w R tv ts n ov ops) (z:ops.length < n) :
  Calls Tryz.prog 226 #[.pointer (some ⟨R,0,none⟩),.agg #[.int .i64 o.code,.int .i64 o.number,.string o.name]] w fun e w'=>
   e=.returned (.tuple #[])/\∃ov',kC w' R tv ts n ov' (ops++[o])/\ZJ R ov ov' w w':=by
 obtain⟨L,F,y,x,k⟩:=yi Tryz.F7
 have G:=zC j.block 2 (by simp)
 have O:=zS j.block 2
 simp at G
 have D:R < w.heap.size:=zt w _ G
 have d:=j.own
 have I:=j.VJ
 have M:=j.le
 have A:ov.ownBlock≠some R:=fun h=>by have:=(d.lt R h).1;omega
 go_enter Tryz.func226,Tryz.ntmps226
 go_wp2_with fail
 go_region_law
  ((refine step_append_lies _ (by rfl) _ _ _ (by rfl) (R+1) 236 L _ 3 32 Tryz.underlying138 F y x k rfl (by omega) ov ops.length (xX ops) (by rfl) (((d.alloc _).alloc _).drew) ⟨w.heap.size+1,0,none⟩ 1 1 [.int .i64 o.code,.int .i64 o.number,.string o.name] (by rfl) (by rfl) (World.news_of_block (cs:=#[.int .i64 o.code,.int .i64 o.number,.string o.name]) (t:=236) (fr:=(0,0)) (iC w _ _)) (by simp[Value.oneCell']) (by omega) (by unfold maxLen;omega) (by omega) (by simp;omega) (w.heap.size+2) (by simp) ?_;intro T cap w1 i f hat H;obtain⟨⟨J,_⟩,N⟩:=DJ D G O A d.lt f))
 all_goals
  go_end0
  exact⟨rfl,_,j.push ((((zI _ _).alloc (zB _) _).alloc (by simp) _).drew) i f (fun g hg=>by simp[Value.ownBlock]at hg;subst hg;rcases hat with h | h;exact Or.inl h;exact Or.inr (by omega)) z⟩
theorem sa {ops:List qM} (d:kC w R tv ts n ov ops) (j:¬n < ts.length) :
  Calls Tryz.prog 214 #[.pointer (some ⟨R,0,none⟩)] w fun e w'=>e=.returned (.tuple #[.int .i64 0,.bool false])/\∃q,w'=w.drewN q:=by
 obtain⟨b,cap,rfl,o,f⟩:=d.yY
 have i:=zC d.block 0 (by simp)
 have h:=zC d.block 1 (by simp)
 simp at i h
 clear f
 have k:decide ((ts.length:Int)<=(n:Int))=true:=by simp;omega
 go_enter Tryz.func214,Tryz.ntmps214
 go_wp2_with fail
 go_quiet (fail)
 go_wp2_with fail
 go_ret2
 exact⟨by simp,_,rfl⟩
theorem AX {ops:List qM} (d:kC w R tv ts n ov ops) (j:n < ts.length) (f:¬ts[n].kind=2) :
  Calls Tryz.prog 214 #[.pointer (some ⟨R,0,none⟩)] w fun e w'=>e=.returned (.tuple #[.int .i64 0,.bool false])/\∃q,w'=w.drewN q:=by
 obtain⟨b,cap,rfl,z,h⟩:=d.yY
 have x:=zC d.block 0 (by simp)
 have o:=zC d.block 1 (by simp)
 simp at x o
 have A:=(h n j).1
 clear h
 generalize ts[n].kind=kx at *
 have k:(kx != 2)=true:=by simpa using f
 clear f
 have y:decide ((ts.length:Int)<=(n:Int))=false:=by simp;omega
 have i:(n:Int) < (ts.length:Int):=by omega
 go_enter Tryz.func214,Tryz.ntmps214
 go_wp2_with fail
 go_quiet (fail)
 go_wp2_with fail
 go_ret2
 exact⟨by simp,_,rfl⟩
theorem fe {ops:List qM} (f:kC w R tv ts n ov ops) (h:n < ts.length) (i:ts[n].kind=2) (y:ts[n].text.size<=maxLen) :
  Calls Tryz.prog 214 #[.pointer (some ⟨R,0,none⟩)] w fun e w'=>e=.returned (.tuple #[.int .i64 (Rt.val ts[n].text),.bool true])/\kC w' R tv ts (n+1) ov ops/\ZJ R ov ov w w':=by
 have M:Hd (∀q:Nat,kC ((w.drewN q).setCell ⟨R,1,none⟩ (.int .i64 ((n:Int)+1))) R tv ts (n+1) ov ops/\ZJ R ov ov w ((w.drewN q).setCell ⟨R,1,none⟩ (.int .i64 ((n:Int)+1)))):=f.E8 h
 obtain⟨b,cap,rfl,O,k⟩:=f.yY
 have x:=zC f.block 0 (by simp)
 have o:=zC f.block 1 (by simp)
 have D:=zS f.block 1
 simp at x o
 obtain⟨H,G⟩:=k n h
 clear k
 rw[i]at H
 clear i
 have j:=f.VJ
 generalize ts[n].text=tx at *
 have N:decide ((ts.length:Int)<=(n:Int))=false:=by simp;omega
 have z:(n:Int) < (ts.length:Int):=by omega
 go_enter Tryz.func214,Tryz.ntmps214
 go_wp2_with fail
 go_quiet (fail)
 go_wp2_with fail
 obtain⟨w1,d,J,I,F⟩:=gS nq x o G
 rw[<-d]
 have A:w1.frozen? ⟨R,1,none⟩=false:=by rw[d];exact D
 have L:Hd (w1=w.drewN nq):=d
 clear d
 go_quiet ((go_at_call 221;exact Calls.quiet_of_same (nk _ _ y)))
 go_wp2
 go_ret2
 refine⟨by simp,?_⟩
 rw[aw L.out]
 exact M.out _
end Go.Proofs.YthleadfkfnnadaaGreat
namespace Go.Proofs.YthleadfkfnnadaaGreat
open Go.RowKit
variable {lo hi:Int} {ts:List Rt.Tk} {R n g n1 f:Nat} {tot:Rt.JX} {tv ov:Value} {w w1:World}
def Reads (f:Nat) (fn:FuncId) (spec:List Rt.Tk->Rt.JX):Prop:=
 ∀(w:World) (R:Nat) (tv:Value) (ts:List Rt.Tk) (n:Nat) (ov:Value) (ops:List qM),kC w R tv ts n ov ops->(∀t∈ts,t.text.size<=40000)->ts.length-n<=f->
  Calls Tryz.prog fn #[.pointer (some ⟨R,0,none⟩)] w fun e w'=>
   (∃em n' ov',spec (ts.drop n)=some (em,ts.drop n')/\e=.returned (.bool true)/\em.length+n<=n'/\n < n'/\kC w' R tv ts n' ov' (ops++em)/\ZJ R ov ov' w w')\/
   (spec (ts.drop n)=none/\e=.returned (.bool false)/\∃ov',ZJ R ov ov' w w')
theorem ql (h:n < ts.length):ts.drop n=ts[n]::ts.drop (n+1):=zZ h
theorem vW (h:¬n < ts.length):ts.drop n=[]:=zp (by omega)
theorem kC.quiet {ops:List qM} (d:kC w R tv ts n ov ops) (q:Nat):kC (w.drewN q) R tv ts n ov ops/\ZJ R ov ov w (w.drewN q):=
 d.zP (below_drewN w q)
theorem pD {pf:List Rt.Tk->Rt.JX} {em:List qM} (h:Rt.Yb em (Rt.pLoop pf lo hi (g+1) (ts.drop n1))=tot) (d:¬n1 < ts.length):tot=some (em,ts.drop n1):=by
 rw[<-h,vW d];simp[Rt.pLoop,Rt.Yb]
theorem lY {pf:List Rt.Tk->Rt.JX} {em:List qM} (h:Rt.Yb em (Rt.pLoop pf lo hi (g+1) (ts.drop n1))=tot) (d:n1 < ts.length)
  (f:Rt.yI ts[n1].text < lo\/hi < Rt.yI ts[n1].text):tot=some (em,ts.drop n1):=by
 rw[<-h,ql d,Rt.pLoop,zA (by omega)];simp[Rt.Yb]
theorem lZ {pf:List Rt.Tk->Rt.JX} {em:List qM} (h:Rt.Yb em (Rt.pLoop pf lo hi (g+1) (ts.drop n1))=tot) (f:n1 < ts.length)
  (j:lo<=Rt.yI ts[n1].text) (i:Rt.yI ts[n1].text<=hi) (d:pf (ts.drop (n1+1))=none):tot=none:=by
 rw[<-h,ql f,Rt.pLoop,zE ⟨j,i⟩,d];simp[Rt.Yb]
theorem lb {pf:List Rt.Tk->Rt.JX} {n2:Nat} {em em2:List qM} (h:Rt.Yb em (Rt.pLoop pf lo hi (g+1) (ts.drop n1))=tot) (f:n1 < ts.length)
  (j:lo<=Rt.yI ts[n1].text) (i:Rt.yI ts[n1].text<=hi) (d:pf (ts.drop (n1+1))=some (em2,ts.drop n2)) :
  Rt.Yb (em++em2++[⟨Rt.yI ts[n1].text,0,⟨#[]⟩⟩]) (Rt.pLoop pf lo hi g (ts.drop n2))=tot:=by
 rw[<-h,ql f,Rt.pLoop,zE ⟨j,i⟩,d]
 cases hq:Rt.pLoop pf lo hi g (ts.drop n2)with
 | none=>simp[Rt.Yb,hq]
 | some x=>simp[Rt.Yb,hq]
theorem ns (hf:Reads f 229 (Rt.yV f)):Reads f 227 (Rt.VQ (Rt.yV f)):=by
 intro w R tv ts n ov W Z H a1
 have M:=zD H
 clear H
 have a6:=Z.VJ
 go_enter Tryz.func227,Tryz.ntmps227
 go_wp2_with fail
 refine(hf _ _ _ _ _ _ _ Z M.u a1).mono ?_
 rintro e w1 (⟨em,n1,ov1,I,rfl,hlen,hlt,hr1,hfr1⟩| ⟨I,rfl,ov1,hfr1⟩)
 ·have hT:Rt.Yb em (Rt.pLoop (Rt.yV f) 7 9 25 (ts.drop n1))=Rt.VQ (Rt.yV f) (ts.drop n):=by
   unfold Rt.VQ Rt.Xa
   rw[I]
  have L:=hr1.le
  go_wp2_with fail
  go_loopg [3] (ts.length-n1) (fun k _ wr=>∃(n2:Nat) (ov2:Value) (em2:List qM) (g:Nat),k=ts.length-n2/\k < g/\n < n2/\em2.length+n<=n2/\
   Rt.Yb em2 (Rt.pLoop (Rt.yV f) 7 9 g (ts.drop n2))=Rt.VQ (Rt.yV f) (ts.drop n)/\kC wr R tv ts n2 ov2 (W++em2)/\ZJ R ov ov2 w wr)
  case atStart=>exact⟨n1,ov1,em,25,rfl,by omega,hlt,hlen,hT,hr1,hfr1⟩
  case round=>
   clear hT hr1 hfr1 I hlen hlt L
   obtain⟨n2,ov2,em2,g,hk,hg,hlt,hlen,hT,i,h⟩:=hrel
   have U:=zD hT
   have HK:=zD hk
   clear hT hk
   obtain⟨g,rfl⟩:∃g',g=g'+1:=⟨g-1,by omega⟩
   have a5:=i.le
   have a2:=Z.YH
   by_cases hn:n2 < ts.length
   ·have T:decide (n2 < ts.length)=true:=by simpa using hn
    by_cases hx:Rt.yI ts[n2].text < 7\/9 < Rt.yI ts[n2].text
    ·have HE:=zD (lY U.u hn hx)
     go_wp2_with fail
     refine(QL i).mono ?_
     rintro e w2 ⟨rfl,q,rfl⟩
     rw[T]
     obtain⟨o,d⟩:=i.quiet q
     go_wp2_with fail
     refine(KW _ _ o hn hx).mono ?_
     rintro e w3 ⟨rfl,q2,rfl⟩
     obtain⟨z,j⟩:=o.quiet q2
     have N:=zD z
     have y:=zD (h.trans (d.trans j))
     clear z j o d i h
     go_wp2_with fail
     go_ret
     exact Or.inl ⟨em2,n2,ov2,HE.u,rfl,hlen,hlt,N.u.same rfl,y.u.same rfl rfl rfl rfl⟩
    ·have h1:7<=Rt.yI ts[n2].text:=by omega
     have h2:Rt.yI ts[n2].text<=9:=by omega
     go_wp2_with fail
     refine(QL i).mono ?_
     rintro e w2 ⟨rfl,q,rfl⟩
     rw[T]
     obtain⟨o,d⟩:=i.quiet q
     go_wp2_with fail
     refine(Jf _ _ o hn h1 h2).mono ?_
     rintro e w3 ⟨rfl,z,j⟩
     have hz:(Rt.yI ts[n2].text==0)=false:=by rw[zV];omega
     generalize D:Rt.yI ts[n2].text=code at *
     have O:=zD D
     clear D hx
     go_wp2_with fail
     refine(hf _ _ _ _ _ _ _ z M.u (by omega)).mono ?_
     rintro e w4 (⟨em5,n5,V,A,rfl,a0,a3,F,x⟩| ⟨A,rfl,V,x⟩)
     ·have HN:=zD (lb U.u hn (by rw[O.u];exact h1) (by rw[O.u];exact h2) A)
      clear A
      go_wp2_with fail
      refine(XQ ⟨code,0,⟨#[]⟩⟩ F (by have:=F.YH;simp at this ⊢;omega)).mono ?_
      rintro e w5 ⟨rfl,ov6,J,G⟩
      have N:=zD J
      have y:=zD (h.trans (d.trans (j.trans (x.trans G))))
      have a4:=F.le
      clear i o z F J h d j x G
      go_wp2_with fail
      go_roundg (ts.length-n5)
      case measure=>have:=HK.u;omega
      case rel=>exact⟨n5,ov6,em2++em5++[⟨code,0,⟨#[]⟩⟩],g,rfl,by have:=HK.u;omega,by omega,by simp;omega,by have:=HN.u;rw[O.u]at this;exact this,by have:=N.u;simpa using this,y.u⟩
     ·have HN:=zD (lZ U.u hn (by rw[O.u];exact h1) (by rw[O.u];exact h2) A)
      clear A
      have y:=zD (h.trans (d.trans (j.trans x)))
      clear i o z h d j x
      go_wp2_with fail
      go_ret
      exact Or.inr ⟨HN.u,rfl,_,y.u⟩
   ·have HE:=zD (pD U.u hn)
    have T:decide (n2 < ts.length)=false:=by simpa using hn
    go_wp2_with fail
    refine(QL i).mono ?_
    rintro e w2 ⟨rfl,q,rfl⟩
    rw[T]
    obtain⟨o,d⟩:=i.quiet q
    have N:=zD o
    have y:=zD (h.trans d)
    clear o d i h
    go_wp2_with fail
    go_ret
    exact Or.inl ⟨em2,n2,ov2,HE.u,rfl,hlen,hlt,N.u.same rfl,y.u.same rfl rfl rfl rfl⟩
 ·have HS:=zD I
  clear I
  go_wp2_with fail
  go_ret
  exact Or.inr ⟨by simp[Rt.VQ,Rt.Xa,HS.u],rfl,_,hfr1⟩
theorem uM (hf:Reads f 227 (Rt.VQ (Rt.yV f))):Reads f 224 (Rt.VI (Rt.yV f)):=by
 intro w R tv ts n ov W Z H a1
 have M:=zD H
 clear H
 have a6:=Z.VJ
 go_enter Tryz.func224,Tryz.ntmps224
 go_wp2_with fail
 refine(hf _ _ _ _ _ _ _ Z M.u a1).mono ?_
 rintro e w1 (⟨em,n1,ov1,I,rfl,hlen,hlt,hr1,hfr1⟩| ⟨I,rfl,ov1,hfr1⟩)
 ·have hT:Rt.Yb em (Rt.pLoop (Rt.VQ (Rt.yV f)) 5 6 25 (ts.drop n1))=Rt.VI (Rt.yV f) (ts.drop n):=by
   unfold Rt.VI Rt.Xa
   rw[I]
  have L:=hr1.le
  go_wp2_with fail
  go_loopg [3] (ts.length-n1) (fun k _ wr=>∃(n2:Nat) (ov2:Value) (em2:List qM) (g:Nat),k=ts.length-n2/\k < g/\n < n2/\em2.length+n<=n2/\
   Rt.Yb em2 (Rt.pLoop (Rt.VQ (Rt.yV f)) 5 6 g (ts.drop n2))=Rt.VI (Rt.yV f) (ts.drop n)/\kC wr R tv ts n2 ov2 (W++em2)/\ZJ R ov ov2 w wr)
  case atStart=>exact⟨n1,ov1,em,25,rfl,by omega,hlt,hlen,hT,hr1,hfr1⟩
  case round=>
   clear hT hr1 hfr1 I hlen hlt L
   obtain⟨n2,ov2,em2,g,hk,hg,hlt,hlen,hT,i,h⟩:=hrel
   have U:=zD hT
   have HK:=zD hk
   clear hT hk
   obtain⟨g,rfl⟩:∃g',g=g'+1:=⟨g-1,by omega⟩
   have a5:=i.le
   have a2:=Z.YH
   by_cases hn:n2 < ts.length
   ·have T:decide (n2 < ts.length)=true:=by simpa using hn
    by_cases hx:Rt.yI ts[n2].text < 5\/6 < Rt.yI ts[n2].text
    ·have HE:=zD (lY U.u hn hx)
     go_wp2_with fail
     refine(QL i).mono ?_
     rintro e w2 ⟨rfl,q,rfl⟩
     rw[T]
     obtain⟨o,d⟩:=i.quiet q
     go_wp2_with fail
     refine(KW _ _ o hn hx).mono ?_
     rintro e w3 ⟨rfl,q2,rfl⟩
     obtain⟨z,j⟩:=o.quiet q2
     have N:=zD z
     have y:=zD (h.trans (d.trans j))
     clear z j o d i h
     go_wp2_with fail
     go_ret
     exact Or.inl ⟨em2,n2,ov2,HE.u,rfl,hlen,hlt,N.u.same rfl,y.u.same rfl rfl rfl rfl⟩
    ·have h1:5<=Rt.yI ts[n2].text:=by omega
     have h2:Rt.yI ts[n2].text<=6:=by omega
     go_wp2_with fail
     refine(QL i).mono ?_
     rintro e w2 ⟨rfl,q,rfl⟩
     rw[T]
     obtain⟨o,d⟩:=i.quiet q
     go_wp2_with fail
     refine(Jf _ _ o hn h1 h2).mono ?_
     rintro e w3 ⟨rfl,z,j⟩
     have hz:(Rt.yI ts[n2].text==0)=false:=by rw[zV];omega
     generalize D:Rt.yI ts[n2].text=code at *
     have O:=zD D
     clear D hx
     go_wp2_with fail
     refine(hf _ _ _ _ _ _ _ z M.u (by omega)).mono ?_
     rintro e w4 (⟨em5,n5,V,A,rfl,a0,a3,F,x⟩| ⟨A,rfl,V,x⟩)
     ·have HN:=zD (lb U.u hn (by rw[O.u];exact h1) (by rw[O.u];exact h2) A)
      clear A
      go_wp2_with fail
      refine(XQ ⟨code,0,⟨#[]⟩⟩ F (by have:=F.YH;simp at this ⊢;omega)).mono ?_
      rintro e w5 ⟨rfl,ov6,J,G⟩
      have N:=zD J
      have y:=zD (h.trans (d.trans (j.trans (x.trans G))))
      have a4:=F.le
      clear i o z F J h d j x G
      go_wp2_with fail
      go_roundg (ts.length-n5)
      case measure=>have:=HK.u;omega
      case rel=>exact⟨n5,ov6,em2++em5++[⟨code,0,⟨#[]⟩⟩],g,rfl,by have:=HK.u;omega,by omega,by simp;omega,by have:=HN.u;rw[O.u]at this;exact this,by have:=N.u;simpa using this,y.u⟩
     ·have HN:=zD (lZ U.u hn (by rw[O.u];exact h1) (by rw[O.u];exact h2) A)
      clear A
      have y:=zD (h.trans (d.trans (j.trans x)))
      clear i o z h d j x
      go_wp2_with fail
      go_ret
      exact Or.inr ⟨HN.u,rfl,_,y.u⟩
   ·have HE:=zD (pD U.u hn)
    have T:decide (n2 < ts.length)=false:=by simpa using hn
    go_wp2_with fail
    refine(QL i).mono ?_
    rintro e w2 ⟨rfl,q,rfl⟩
    rw[T]
    obtain⟨o,d⟩:=i.quiet q
    have N:=zD o
    have y:=zD (h.trans d)
    clear o d i h
    go_wp2_with fail
    go_ret
    exact Or.inl ⟨em2,n2,ov2,HE.u,rfl,hlen,hlt,N.u.same rfl,y.u.same rfl rfl rfl rfl⟩
 ·have HS:=zD I
  clear I
  go_wp2_with fail
  go_ret
  exact Or.inr ⟨by simp[Rt.VI,Rt.Xa,HS.u],rfl,_,hfr1⟩
theorem comparison_any (hf:Reads f 224 (Rt.VI (Rt.yV f))):Reads f 222 (Rt.pComp (Rt.yV f)):=by
 intro w R tv ts n ov a6 hr L a1
 have O:=zD L
 clear L
 have a5:=hr.VJ
 have a3:=hr.YH
 go_enter Tryz.func222,Tryz.ntmps222
 go_wp2_with fail
 refine(hf _ _ _ _ _ _ _ hr O.u a1).mono ?_
 rintro e w1 (⟨J,n1,G,z,rfl,A,N,j,h⟩| ⟨z,rfl,G,h⟩)
 ·by_cases hn:n1 < ts.length
  ·by_cases hx:Rt.yI ts[n1].text < 10\/11 < Rt.yI ts[n1].text
   ·have F:Hd (Rt.pComp (Rt.yV f) (ts.drop n)=some (J,ts.drop n1)):=by
     refine zD ?_
     unfold Rt.pComp
     rw[z,ql hn]
     simp only
     rw[zA (by omega)]
    clear z
    go_wp2_with fail
    refine(KW _ _ j hn hx).mono ?_
    rintro e w3 ⟨rfl,U,rfl⟩
    obtain⟨i,d⟩:=j.quiet U
    have T:=zD i
    have o:=zD (h.trans d)
    clear i d j h
    go_wp2_with fail
    go_ret
    exact Or.inl ⟨J,n1,G,F.u,rfl,A,N,T.u,o.u⟩
   ·have h1:10<=Rt.yI ts[n1].text:=by omega
    have h2:Rt.yI ts[n1].text<=11:=by omega
    have F:Hd (∀x,Rt.VI (Rt.yV f) (ts.drop (n1+1))=x->Rt.pComp (Rt.yV f) (ts.drop n)=(match x with | none=>none | some (e',r')=>some (J++e'++[⟨Rt.yI ts[n1].text,0,⟨#[]⟩⟩],r'))):=by
     refine zD ?_
     intro x Z
     unfold Rt.pComp
     rw[z,ql hn]
     simp only
     rw[zE ⟨h1,h2⟩,Z]
     cases x <;> rfl
    clear z hx
    go_wp2_with fail
    refine(Jf _ _ j hn h1 h2).mono ?_
    rintro e w3 ⟨rfl,i,d⟩
    have hz:(Rt.yI ts[n1].text==0)=false:=by rw[zV];omega
    generalize I:Rt.yI ts[n1].text=code at *
    clear I
    go_wp2_with fail
    refine(hf _ _ _ _ _ _ _ i O.u (by omega)).mono ?_
    rintro e w4 (⟨a2,n5,W,y,rfl,a0,a4,H,k⟩| ⟨y,rfl,W,k⟩)
    ·have HN:=zD (F.u _ y)
     clear y
     go_wp2_with fail
     refine(XQ ⟨code,0,⟨#[]⟩⟩ H (by have:=H.YH;simp at this ⊢;omega)).mono ?_
     rintro e w5 ⟨rfl,V,M,D⟩
     have T:=zD M
     have o:=zD (h.trans (d.trans (k.trans D)))
     clear j i H M h d k D
     go_wp2_with fail
     go_ret
     exact Or.inl ⟨J++a2++[⟨code,0,⟨#[]⟩⟩],n5,V,HN.u,rfl,by simp;omega,by omega,by have:=T.u;simpa using this,o.u⟩
    ·have HN:=zD (F.u _ y)
     clear y
     have o:=zD (h.trans (d.trans k))
     clear j i h d k
     go_wp2_with fail
     go_ret
     exact Or.inr ⟨HN.u,rfl,_,o.u⟩
  ·have F:Hd (Rt.pComp (Rt.yV f) (ts.drop n)=some (J,ts.drop n1)):=by
    refine zD ?_
    unfold Rt.pComp
    rw[z,vW hn]
   clear z
   go_wp2_with fail
   refine(nB _ _ j hn).mono ?_
   rintro e w3 ⟨rfl,U,rfl⟩
   obtain⟨i,d⟩:=j.quiet U
   have T:=zD i
   have o:=zD (h.trans d)
   clear i d j h
   go_wp2_with fail
   go_ret
   exact Or.inl ⟨J,n1,G,F.u,rfl,A,N,T.u,o.u⟩
 ·have F:Hd (Rt.pComp (Rt.yV f) (ts.drop n)=none):=by
   refine zD ?_
   unfold Rt.pComp
   rw[z]
  clear z
  go_wp2_with fail
  go_ret
  exact Or.inr ⟨F.u,rfl,_,h⟩
theorem mZ {ops:List qM} (d:kC w R tv ts n ov ops) (f:¬n < ts.length) :
  Calls Tryz.prog 230 #[.pointer (some ⟨R,0,none⟩)] w fun e w'=>e=.returned (.bool false)/\∃q,w'=w.drewN q:=by
 go_enter Tryz.func230,Tryz.ntmps230
 go_wp2_with fail
 refine(oj d f).mono ?_
 rintro e h ⟨rfl,i,rfl⟩
 go_wp2_with fail
 go_ret
 exact⟨by simp,_,rfl⟩
def Qi (f:Nat) (t:Rt.Tk) (r:List Rt.Tk):Rt.JX:=if t.kind=1/\Rt.aL t.text=false then Rt.pVar (Rt.pComp (Rt.yV f)) t.text r else none
theorem ma (hf:Reads f 222 (Rt.pComp (Rt.yV f))) {ops:List qM}
  (V:kC w R tv ts n ov ops) (J:∀t∈ts,t.text.size<=40000) (hn:n < ts.length) (a4:ts.length-(n+1)<=f) :
  Calls Tryz.prog 230 #[.pointer (some ⟨R,0,none⟩)] w fun e w'=>
   (∃em n' ov',Qi f ts[n] (ts.drop (n+1))=some (em,ts.drop n')/\e=.returned (.bool true)/\em.length+n<=n'/\n < n'/\kC w' R tv ts n' ov' (ops++em)/\ZJ R ov ov' w w')\/
   (Qi f ts[n] (ts.drop (n+1))=none/\e=.returned (.bool false)/\∃ov',ZJ R ov ov' w w'):=by
 have Z:=zD J
 clear J
 have a3:=V.VJ
 have a0:=V.YH
 go_enter Tryz.func230,Tryz.ntmps230
 go_wp2_with fail
 refine(Zh _ _ _ _ _ _ _ V hn).mono ?_
 rintro e w1 (⟨M,hv,rfl,o,d⟩| ⟨M,rfl,o,d⟩)
 ·have I:Hd (Qi f ts[n] (ts.drop (n+1))=Rt.pVar (Rt.pComp (Rt.yV f)) ts[n].text (ts.drop (n+1))):=by
   refine zD ?_
   unfold Qi
   rw[zE ⟨M,hv⟩]
  clear M hv
  generalize ts[n].text=nm at *
  by_cases hn1:n+1 < ts.length
  ·by_cases hx:ts[n+1].text=⟨#[91]⟩
   ·have G:Hd (Qi f ts[n] (ts.drop (n+1))=Rt.closed ⟨#[93]⟩ [⟨3,0,nm⟩] (Rt.pComp (Rt.yV f) (ts.drop (n+1+1)))):=by
     refine zD ?_
     rw[I.u,ql hn1,Rt.pVar,zE hx]
    clear I
    go_wp2_with fail
    refine(JD _ o hn1 hx).mono ?_
    rintro e w2 ⟨rfl,y,h⟩
    clear hx
    go_wp2_with fail
    refine(hf _ _ _ _ _ _ _ y Z.u (by omega)).mono ?_
    rintro e w4 (⟨N,n5,U,F,rfl,W,a1,z,k⟩| ⟨F,rfl,U,k⟩)
    ·have a2:=z.le
     rw[F]at G
     clear F
     go_wp2_with fail
     refine(XQ ⟨3,0,nm⟩ z (by have:=z.YH;simp at this ⊢;omega)).mono ?_
     rintro e w5 ⟨rfl,D,j,i⟩
     by_cases hn5:n5 < ts.length
     ·by_cases hx5:ts[n5].text=⟨#[93]⟩
      ·have A:Hd (Qi f ts[n] (ts.drop (n+1))=some (N++[⟨3,0,nm⟩],ts.drop (n5+1))):=by
        refine zD ?_
        rw[G.u,ql hn5,Rt.closed,zE hx5]
       clear G
       go_wp2_with fail
       refine(JD _ j hn5 hx5).mono ?_
       rintro e T ⟨rfl,L,H⟩
       have O:=zD L
       have x:=zD (d.trans (h.trans (k.trans (i.trans H))))
       clear o y z j L d h k i H hx5
       go_wp2_with fail
       go_ret
       exact Or.inl ⟨N++[⟨3,0,nm⟩],n5+1,D,A.u,rfl,by simp;omega,by omega,by have:=O.u;simpa using this,x.u⟩
      ·have A:Hd (Qi f ts[n] (ts.drop (n+1))=none):=by
        refine zD ?_
        rw[G.u,ql hn5,Rt.closed,zA hx5]
       clear G
       go_wp2_with fail
       refine(mb _ j hn5 hx5).mono ?_
       rintro e T ⟨rfl,q,rfl⟩
       have x:=zD (d.trans (h.trans (k.trans (i.trans (j.quiet q).2))))
       clear o y z j d h k i hx5
       go_wp2_with fail
       go_ret
       exact Or.inr ⟨A.u,rfl,_,x.u⟩
     ·have A:Hd (Qi f ts[n] (ts.drop (n+1))=none):=by
       refine zD ?_
       rw[G.u,vW hn5,Rt.closed]
      clear G
      go_wp2_with fail
      refine(fE _ j hn5).mono ?_
      rintro e T ⟨rfl,q,rfl⟩
      have x:=zD (d.trans (h.trans (k.trans (i.trans (j.quiet q).2))))
      clear o y z j d h k i
      go_wp2_with fail
      go_ret
      exact Or.inr ⟨A.u,rfl,_,x.u⟩
    ·have A:Hd (Qi f ts[n] (ts.drop (n+1))=none):=by
      refine zD ?_
      rw[G.u,F,Rt.closed]
     clear G F
     have x:=zD (d.trans (h.trans k))
     clear o y d h k
     go_wp2_with fail
     go_ret
     exact Or.inr ⟨A.u,rfl,_,x.u⟩
   ·have A:Hd (Qi f ts[n] (ts.drop (n+1))=some ([⟨2,0,nm⟩],ts.drop (n+1))):=by
     refine zD ?_
     rw[I.u,ql hn1,Rt.pVar,zA hx]
    clear I
    go_wp2_with fail
    refine(mb _ o hn1 hx).mono ?_
    rintro e T ⟨rfl,q,rfl⟩
    obtain⟨y,h⟩:=o.quiet q
    clear hx
    go_wp2_with fail
    refine(XQ ⟨2,0,nm⟩ y (by omega)).mono ?_
    rintro e w5 ⟨rfl,D,j,i⟩
    have O:=zD j
    have x:=zD (d.trans (h.trans i))
    clear o y j d h i
    go_wp2_with fail
    go_ret
    exact Or.inl ⟨[⟨2,0,nm⟩],n+1,D,A.u,rfl,by simp;omega,by omega,O.u,x.u⟩
  ·have A:Hd (Qi f ts[n] (ts.drop (n+1))=some ([⟨2,0,nm⟩],ts.drop (n+1))):=by
    refine zD ?_
    rw[I.u,vW hn1,Rt.pVar]
   clear I
   go_wp2_with fail
   refine(fE _ o hn1).mono ?_
   rintro e T ⟨rfl,q,rfl⟩
   obtain⟨y,h⟩:=o.quiet q
   go_wp2_with fail
   refine(XQ ⟨2,0,nm⟩ y (by omega)).mono ?_
   rintro e w5 ⟨rfl,D,j,i⟩
   have O:=zD j
   have x:=zD (d.trans (h.trans i))
   clear o y j d h i
   go_wp2_with fail
   go_ret
   exact Or.inl ⟨[⟨2,0,nm⟩],n+1,D,A.u,rfl,by simp;omega,by omega,O.u,x.u⟩
 ·have A:Hd (Qi f ts[n] (ts.drop (n+1))=none):=by
   refine zD ?_
   unfold Qi
   rw[zA M]
  clear M
  have x:=zD d
  clear o d
  go_wp2_with fail
  go_ret
  exact Or.inr ⟨A.u,rfl,_,x.u⟩
end Go.Proofs.YthleadfkfnnadaaGreat
