/- How many steps a script of little bulk has. -/
import Derived.Test.YthleadfkfnnadaaGreatMcG
import Derived.Test.YthleadfkfnnadaaGreatLwB
import Derived.Test.YthleadfkfnnadaaGreatRows
import Derived.Test.YthleadfkfnnadaaGreatChecked
import Derived.ProofKit
import Derived.OpenShut
import Derived.SizedLaws
import Derived.Carry
import Derived.Deep.Slices
import Derived.Deep.CondSized
set_option maxHeartbeats 4000000
set_option maxRecDepth 100000
set_option linter.unusedSimpArgs false
namespace Go.Proofs.YthleadfkfnnadaaGreat
open Go.RowKit
attribute [local go_sem ↓] Go.wp_at_zero Go.wp_at_succ
variable {cs:Array Value} {held:Bool} {tail:List Value} {X X':ZK} {M B N BB R base n len cap:Nat} {a0:Option Addr} {m:Rt.Mc} {fm:Rt.qS} {S:Rt.Src} {ty t:TypeId} {v:Value} {w w' w1 w2 W:World}
def Z4 (X:ZK):List Nat:=([X.iv,X.fv,X.vv,X.ov]++(X.xg++X.YR)).filterMap Value.ownBlock
theorem eo:∀(a:List Value) (b:List (List Int)),a.length=b.length->xh (List.zipWith zz a b)=a.filterMap Value.ownBlock
 | [],[],_=>rfl
 | [],_::_,h=>by simp at h
 | _::_,[],h=>by simp at h
 | x::a,y::b,h=>by
  rw[jT,ka,eo a b (by simpa using h),List.filterMap_cons]
  show (match x.ownBlock with | none=>_ | some g=>_)=_
  cases x.ownBlock <;> rfl
theorem jz.xh {w:World} {M B:Nat} {ty:TypeId} {tail:List Value} {S:Rt.Src} {m:Rt.Mc} {X:ZK} (h:jz w M B ty tail S m X):xh (rowsOf S.input X m)=Z4 X:=by
 unfold rowsOf Z4
 rw[jd,jd,eo _ _ (by simp[h.fl]),eo _ _ h.vl,List.filterMap_append,List.filterMap_append]
 rfl
structure Z8 (M B:Nat) (ty:TypeId) (tail:List Value) (S:Rt.Src) (X X':ZK) (m':Rt.Mc) (w w':World):Prop where
 mc:jz w' M B ty tail S m' X'
 vz:VM w w' (M::Z4 X)
 grow:vd w (Z4 X) (Z4 X')
 lt:M < w.heap.size
theorem Z8.start (h:jz w M B ty tail S m X) (d:Below w.heap.size w w'):Z8 M B ty tail S X X m w w':=⟨h.zP d,VM.jQ _ d,vd.refl _ _,zQ h.block⟩
theorem Z8.below (h:Z8 M B ty tail S X X' m w w1) (d:Below w1.heap.size w1 w2):Z8 M B ty tail S X X' m w w2:=
 ⟨h.mc.zP d,h.vz.trans (VM.jQ [] d) (fun _ h=>by cases h),h.grow,h.lt⟩
theorem Z8.put {m2:Rt.Mc} (h:Z8 M B ty tail S X X' m w w1) (f:V8 M B ty tail S m m2 X' w1 w2):Z8 M B ty tail S X X' m2 w w2:=by
 refine⟨f.1,h.vz.trans f.2 ?_,h.grow,h.lt⟩
 rw[h.mc.xh]
 intro k hk
 rcases h.grow k hk with d | d
 ·exact Or.inl (zm _ d)
 ·exact Or.inr d
theorem Z8.aside {M B:Nat} {ty:TypeId} {tail:List Value} {S:Rt.Src} {m:Rt.Mc} {X X':ZK} {w w':World} (h:Z8 M B ty tail S X X' m w w') {N:Nat} {cs:Array Value} {t:TypeId} (o:w'.heap[N]?=some (.cells cs t (0,0))) (j:w.heap.size<=N) (f:¬Xe t/\t≠3/\t≠153/\t≠24) (i:Nat) (v:Value):Z8 M B ty tail S X X' m w (w'.setCell ⟨N,i,none⟩ v):=by
 have d:=h.lt
 refine⟨h.mc.aside o (by omega) f i v,⟨h.vz.os,h.vz.tape,h.vz.output,zi h.vz.size (by simp[World.setCell]),fun k hk hn=>?_⟩,h.grow,h.lt⟩
 rw[zO w' ⟨N,i,none⟩ v k (by show k≠N;omega)]
 exact h.vz.block k hk hn
abbrev W3 (w:World) (N:Nat) (a b c:Value):World:=((w.setCell ⟨N,0,none⟩ a).setCell ⟨N,1,none⟩ b).setCell ⟨N,2,none⟩ c
theorem Z8.three (h:Z8 M B ty tail S X X' m w w') (j:w'.heap[N]?=some (.cells cs t (0,0))) (d:w.heap.size<=N) (f:¬Xe t/\t≠3/\t≠153/\t≠24) (a b c:Value):Z8 M B ty tail S X X' m w (W3 w' N a b c):=by
 have i:=zf j 0 a
 have n2:=zf i 1 b
 exact((h.aside j d f 0 a).aside i d f 1 b).aside n2 d f 2 c
def xE (rs:List Rt.Rec):List Value:=rs.flatMap Rt.YV
def eE (M B:Nat) (ty:TypeId) (tail:List Value) (S:Rt.Src) (X:ZK) (o:Rt.Out) (w:World) (e:Ending) (w':World):Prop:=
 ∃rv X',e=.returned (.agg #[.int .i64 o.fin,.int .i64 o.next,rv])/\Z8 M B ty tail S X X' o.m w w'/\w'.ownsRow w.heap.size 162 5 rv o.YU.length (xE o.YU)
abbrev Qd (fm:Rt.qS) (a1 a2 a3:Option Addr) (c1 c2 c3:Nat):Array Value:=#[.int .i64 fm.kind,.string fm.name,.int .i64 fm.cells,.slice a1 fm.params.length c1,.slice a2 fm.index.length c2,.slice a3 fm.values.length c3]
theorem yb {v0 v1 v2:Value} (h:w.heap[N]?=some (.cells #[v0,v1,v2] t (0,0))) :
  w.cell? ⟨N,0,none⟩=some v0/\w.cell? ⟨N,1,none⟩=some v1/\w.cell? ⟨N,2,none⟩=some v2:=
 ⟨zC h 0 (by simp),zC h 1 (by simp),zC h 2 (by simp)⟩
theorem ZY {v:Array Value} (h:qk w BB v fm) (d:Below w.heap.size w w'):qk w' BB v fm:=(xZ (B:=BB) d).form h
theorem FC (w:World) (N:Nat) (a b c:Value):(W3 w N a b c).heap.size=w.heap.size:=by simp[World.setCell]
theorem eQ (n:Nat) (w:World) (B R:Nat) (cs:Array Value) (h:B<=w.heap.size) (a b c:Value) (d:cs.size=n*5) (i:n<=1000):((W3 w R a b c).alloc (.cells cs 162)).ownsRow B 162 5 (.slice (some ⟨w.heap.size,0,none⟩) n n) n cs.toList:=by
 have f:=zN (W3 w R a b c) (.cells cs 162)
 rw[FC]at f
 refine⟨by simp[d],Or.inr ⟨w.heap.size,n,cs,rfl,h,f,zB _,by unfold maxLen;omega,d,?_⟩⟩
 exact yw (by simp[d])
theorem Km {x y z:Value} (h:w.heap[R]?=some (.cells #[x,y,z] t (0,0))) (a b c:Value):(W3 w R a b c).heap[R]?=some (.cells #[a,b,c] t (0,0)):=by
 have:=zf (zf (zf h 0 a) 1 b) 2 c
 simpa using this
theorem fU (m:Rt.Mc) (s:Rt.Q9) (v:Int):(Rt.jN m s v).line=m.line:=by
 unfold Rt.jN
 split
 ·split <;> rfl
 ·rfl
theorem iF (w:World) (N:Nat) (a b c:Value) (k:Nat) (d:k≠N):(W3 w N a b c).heap[k]?=w.heap[k]?:=by
 simp only[W3]
 repeat rw[zO _ _ _ _ d]
theorem mu {q:Nat} (n:Nat) (h:w.heap[q]?=some (.cells cs 162 (0,0))) (d:q≠R) (i:B<=q) (a b c:Value) (f:cs.size=n*5) (j:n<=1000):(W3 w R a b c).ownsRow B 162 5 (.slice (some ⟨q,0,none⟩) n n) n cs.toList:=by
 refine⟨by simp[f],Or.inr ⟨q,n,cs,rfl,i,by rw[iF _ _ _ _ _ _ d];exact h,zB _,by unfold maxLen;omega,f,?_⟩⟩
 exact yw (by simp[f])
theorem nw {a1 a2 a3:Option Addr} {c1 c2 c3:Nat} (h:jz w M B ty tail S m X) (hm:dL S m) (hf:qk w BB (Qd fm a1 a2 a3 c1 c2 c3) fm) (U:Rt.Small fm) (G:∀o∈fm.values,o.length<=900) (hk:fm.kind=8) :
  Calls Tryz.prog 145 #[.pointer (some ⟨M,0,none⟩),.agg (Qd fm a1 a2 a3 c1 c2 c3)] w (eE M B ty tail S X (Rt.perform S m fm) w):=by
 have x:=((zI w.heap.size w).alloc (zB _) (.cells (Qd fm a1 a2 a3 c1 c2 c3) 143)).alloc (by simp) (.cells #[.int .i64 0,.int .i64 0,.slice none 0 0] 157)
 have bF:=yR (zN w (.cells (Qd fm a1 a2 a3 c1 c2 c3) 143)) (.cells #[.int .i64 0,.int .i64 0,.slice none 0 0] 157)
 have bR:=qD w (.cells (Qd fm a1 a2 a3 c1 c2 c3) 143) (.cells #[.int .i64 0,.int .i64 0,.slice none 0 0] 157)
 have hA:=h.zP x
 have V:=ZY hf x
 have HP:=zD (show Rt.perform S m fm=if (Rt.kP S m fm).2=0 then ⟨0,wrap64 (m.line+1),[Rt.stay m.line,Rt.stored m (Rt.vx S m fm.name)],Rt.jN m (Rt.vx S m fm.name) (Rt.kP S m fm).1⟩else Rt.ended m (Rt.kP S m fm).2 by unfold Rt.perform;simp only;rw[zE hk])
 have HH:=zD h
 clear h hf hk
 go_enter Tryz.func145,Tryz.ntmps145
 go_wp2_with fail
 refine(Ks hA hm V U G).mono ?_
 rintro e w1 ⟨rfl,j⟩
 have k:=x.trans (j.mono (B':=w.heap.size) (by simp;omega))
 have R:=zU bF j
 have i:=zU bR j
 have k1:=zC R 1 (by simp)
 simp at k1
 have h1:=hA.zP j
 clear hA V x bF bR j
 generalize Rt.kP S m fm=v at *
 obtain⟨v1,v2⟩:=v
 simp only at HP
 by_cases hv:v2=0
 ·subst hv
  replace HP:=zD (HP.u.trans (zE rfl))
  go_wp2_with fail
  refine(fy fm.name h1 hm).mono ?_
  rintro e w2 ⟨rfl,A⟩
  have L:=k.trans (A.mono (B':=w.heap.size) k.size)
  have h2:=h1.zP A
  have a4:=zU i A
  clear h1 A k R i k1
  have y:=(zI w2.heap.size w2).alloc (zB _) (.cells #[.int .i64 (Rt.vx S m fm.name).line,.int .i64 (Rt.vx S m fm.name).cell] 160)
  have h3:=h2.zP y
  have W:=L.trans (y.mono (B':=w.heap.size) L.size)
  have F:=zU a4 y
  have a8:=zN w2 (.cells #[.int .i64 (Rt.vx S m fm.name).line,.int .i64 (Rt.vx S m fm.name).cell] 160)
  clear h2 y L a4
  generalize Rt.vx S m fm.name=sp at *
  go_wp2_with fail
  refine(Kv sp v1 h3 hm).mono ?_
  rintro e T ⟨rfl,H⟩
  have Z:=(Z8.start HH.u W).put H
  have a0:=(H.2.block _ (zQ F) (QF h3.own F (by decide))).trans F
  clear h3 W F a8 H
  have a9:=zD (show Rt.stored m sp=⟨4,0,sp,Rt.ZL m sp⟩from rfl)
  generalize Rt.ZL m sp=J8 at *
  have J:=(zI T.heap.size T).alloc (zB _) (.cells #[.int .i64 4,.int .i64 0,.int .i64 sp.line,.int .i64 sp.cell,.int .i64 J8] 162)
  have d:=Z.below J
  have f:=zU a0 J
  have a5:=zN T (.cells #[.int .i64 4,.int .i64 0,.int .i64 sp.line,.int .i64 sp.cell,.int .i64 J8] 162)
  have c6:=d.mc.c6
  have HL:=zD (show (Rt.jN m sp v1).line=m.line from fU m sp v1)
  rw[HL.u]at c6
  have a6:=qG d f
  obtain⟨p0,p1,p2,p3,p4⟩:=QY a5
  clear Z d a0 f J a5
  go_wp2_with fail
  generalize T.alloc (.cells #[.int .i64 4,.int .i64 0,.int .i64 sp.line,.int .i64 sp.cell,.int .i64 J8] 162)=w5 at *
  generalize T.heap.size=O at *
  go_region_held3 (fun w'=>w'.cell? ⟨M,6,none⟩=some (.int .i64 m.line)/\w'.cell? ⟨O,0,none⟩=some (.int .i64 4)/\w'.cell? ⟨O,1,none⟩=some (.int .i64 0)/\w'.cell? ⟨O,2,none⟩=some (.int .i64 sp.line)/\w'.cell? ⟨O,3,none⟩=some (.int .i64 sp.cell)/\w'.cell? ⟨O,4,none⟩=some (.int .i64 J8)) (go_keep) (fail)
  obtain⟨d,f⟩:=a6.u
  have I:=((zI w5.heap.size w5).alloc (zB _) (.cells #[.int .i64 1,.int .i64 m.line,.int .i64 0,.int .i64 0,.int .i64 0,.int .i64 4,.int .i64 0,.int .i64 sp.line,.int .i64 sp.cell,.int .i64 J8] 162)).drew
  have bQ:(w5.alloc (.cells #[.int .i64 1,.int .i64 m.line,.int .i64 0,.int .i64 0,.int .i64 0,.int .i64 4,.int .i64 0,.int .i64 sp.line,.int .i64 sp.cell,.int .i64 J8] 162)).drew.heap[w5.heap.size]?=_:=zN w5 (.cells #[.int .i64 1,.int .i64 m.line,.int .i64 0,.int .i64 0,.int .i64 0,.int .i64 4,.int .i64 0,.int .i64 sp.line,.int .i64 sp.cell,.int .i64 J8] 162)
  have N:=d.below I
  have D:=zU f I
  have a7:=N.mc.c6
  rw[HL.u]at a7
  have hQ:=d.vz.size
  have b1:=zQ bQ
  have b0:=zQ f
  clear d f I a6 c6 p0 p1 p2 p3 p4
  generalize (w5.alloc (.cells #[.int .i64 1,.int .i64 m.line,.int .i64 0,.int .i64 0,.int .i64 0,.int .i64 4,.int .i64 0,.int .i64 sp.line,.int .i64 sp.cell,.int .i64 J8] 162)).drew=w6 at *
  generalize w5.heap.size=q at *
  obtain⟨r0,r1,r2⟩:=yb D
  have z:=zS D
  have HF:=zD (fun a b c=>And.intro (N.three D (by omega) (by unfold Xe;decide) a b c) (mu 2 bQ (show q≠w.heap.size+1 by omega) hQ a b c rfl (by omega)))
  clear N D bQ
  go_wp2_with fail
  refine zT (v:=.agg #[.int .i64 0,.int .i64 (wrap64 (m.line+1)),.slice (some ⟨q,0,none⟩) 2 2]) ?_ rfl ⟨_,_,by rw[HP.u],by rw[HP.u];exact(HF.u _ _ _).1,by rw[HP.u,a9.u];exact(HF.u _ _ _).2⟩
  simp[results,Tryz.results145,go_sem,r0,r1,r2]
 ·replace HP:=zD (HP.u.trans (zA hv))
  have bv:(v2 != 0)=true:=by simpa using hv
  obtain⟨r0,r1,r2⟩:=yb i
  have z:=zS i
  have HF:=zD (fun a b c=>(Z8.start HH.u k).three i (by omega) (by unfold Xe;decide) a b c)
  clear h1 k R i k1 hv hm G U
  go_wp2_with fail
  refine zT (v:=.agg #[.int .i64 v2,.int .i64 0,.slice none 0 0]) ?_ rfl ⟨_,_,by rw[HP.u];rfl,by rw[HP.u];exact HF.u _ _ _,by rw[HP.u];exact zW _ _ _ _⟩
  simp[results,Tryz.results145,go_sem,r0,r1,r2]
end Go.Proofs.YthleadfkfnnadaaGreat
namespace Go.Proofs.YthleadfkfnnadaaGreat
open Go.RowKit
variable {cs:Array Value} {held:Bool} {tail:List Value} {X X':ZK} {M B N BB R base n len cap:Nat} {a0:Option Addr} {m:Rt.Mc} {fm:Rt.qS} {S:Rt.Src} {ty t:TypeId} {v:Value} {w w' w1 w2 W:World}
structure rS where
 kind:Int
 a:Int
 b:Int
 c:Int
 s:ByteArray
 v:Value
 l:List Int
def iO (o:rS):Value:=.agg #[.int .i64 o.kind,.int .i64 o.a,.int .i64 o.b,.int .i64 o.c,.string o.s,o.v]
structure BX (w:World) (v:Value) (ops:List rS):Prop where
 cells:∃ad cap,v=.slice ad ops.length cap/\(ops=[]\/∃g o,ad=some ⟨g,o,none⟩/\∀j (h:j < ops.length),w.cell? ⟨g,o+j*6,none⟩=some (.int .i64 ops[j].kind)/\w.cell? ⟨g,o+j*6+1,none⟩=some (.int .i64 ops[j].a)/\w.cell? ⟨g,o+j*6+2,none⟩=some (.int .i64 ops[j].b)/\
  w.cell? ⟨g,o+j*6+3,none⟩=some (.int .i64 ops[j].c)/\w.cell? ⟨g,o+j*6+4,none⟩=some (.string ops[j].s)/\w.cell? ⟨g,o+j*6+5,none⟩=some ops[j].v)
 str:∀op∈ops,op.s.size<=maxLen
 lst:∀op∈ops,kA w op.v op.l/\op.l.length<=17592186044416
 FN:∀op∈ops,(-9223372036854775808<=op.a/\op.a<=9223372036854775807)/\(-9223372036854775808<=op.b/\op.b<=9223372036854775807)/\(-9223372036854775808<=op.c/\op.c<=9223372036854775807)
def GQ (w:World) (kg:Nat) (ks:List Int):Prop:=∀j (h:j < ks.length),w.cell? ⟨kg,j,none⟩=some (.int .i64 ks[j])
structure FT (w0:World) (S:Nat) (ops:List rS) (ks:List Int) (I:World->Nat->Prop):Prop where
 zP:∀w w' k,I w k->Below w.heap.size w w'->I w' k
 skip:∀w k,k < ops.length->I w k->I w (k+1)
 lt:∀w k,I w k->S < w.heap.size
 step:∀w k (hk:k < ops.length),ops[k].kind∈ks->I w k->Below S w0 w->Calls Tryz.prog 10 #[.pointer (some ⟨S,0,none⟩),iO ops[k]] w fun e w'=>e=.returned (.bool true)/\Below S w w'/\I w' (k+1)
 looks:∀w k,k<=ops.length->I w k->Calls Tryz.prog 11 #[.pointer (some ⟨S,0,none⟩)] w fun e w'=>e=.returned (.bool true)/\Below w.heap.size w w'
theorem AB {ops:List rS} {ks:List Int} {kg:Nat} (I:World->Nat->Prop) (h:BX w v ops) (hk:GQ w kg ks) (a1:ks.length<=100) (W:ops.length<=140737488355328)
  (N:∀w',w'.heap[w.heap.size]?=some (.cells #[.slice none 0 0,.slice none 0 0] 30 (0,0))->w'.heap.size=w.heap.size+1->I w' 0) (hP:FT w w.heap.size ops ks I) :
  Calls Tryz.prog 9 #[v,.slice (some ⟨kg,0,none⟩) ks.length ks.length] w fun e w'=>e=.returned (.bool true)/\Below w.heap.size w w':=by
 have HH:=zD h
 have HK:=zD hk
 have HPP:=zD hP
 obtain⟨ad,cap,rfl,_⟩:=h.cells
 have HA:=zD (N _ (zN w (.cells #[.slice none 0 0,.slice none 0 0] 30)) (by simp))
 clear h hk hP N
 go_enter Tryz.func9,Tryz.ntmps9
 go_wp2
 go_loopw [6] (fun i wr=>∃(k:Nat),k<=ops.length/\i=.int .i64 k/\I wr k/\Below w.heap.size w wr) (fun i _=>ops.length-(intOf i).toNat)
 case atStart=>exact⟨0,zo _,rfl,HA.u,(zI _ _).alloc (zB _) _⟩
 case round=>
  obtain⟨k,Z,rfl,hL,H⟩:=hrel
  have HL:=qG hL H
  clear hL H
  by_cases hlt:k < ops.length
  ·have G:(k:Int) < (ops.length:Int):=by omega
   have a2:(0:Int)<=(k:Int):=by omega
   obtain⟨a3,cap',he,hcells⟩:=HH.u.cells
   simp at he
   obtain⟨rfl,rfl⟩:=he
   rcases hcells with hnil | ⟨g,o,hado,hcells⟩
   ·rw[hnil]at hlt;simp at hlt
   subst hado
   have HC:Hd (∀w',Below w.heap.size w w'->w'.cell? ⟨g,o+k*6,none⟩=some (.int .i64 ops[k].kind)/\w'.cell? ⟨g,o+k*6+1,none⟩=some (.int .i64 ops[k].a)/\w'.cell? ⟨g,o+k*6+2,none⟩=some (.int .i64 ops[k].b)/\w'.cell? ⟨g,o+k*6+3,none⟩=some (.int .i64 ops[k].c)/\w'.cell? ⟨g,o+k*6+4,none⟩=some (.string ops[k].s)/\w'.cell? ⟨g,o+k*6+5,none⟩=some ops[k].v):=zD (fun w' hb=>
    let ⟨N,h1,h2,h3,h4,h5⟩:=hcells k hlt;⟨cell_later hb N,cell_later hb h1,cell_later hb h2,cell_later hb h3,cell_later hb h4,cell_later hb h5⟩)
   have M:=zD (show ∀w',ops[k].kind∈ks->I w' k->Below w.heap.size w w'->_ from fun w' h1 h2 h3=>HPP.u.step w' k hlt h1 h2 h3)
   have F:iO ops[k]=.agg #[.int .i64 ops[k].kind,.int .i64 ops[k].a,.int .i64 ops[k].b,.int .i64 ops[k].c,.string ops[k].s,ops[k].v]:=rfl
   rw[F]at M
   clear hcells F
   generalize ops[k].kind=kd at *
   generalize ops[k].a=oa at *
   generalize ops[k].b=ob at *
   generalize ops[k].c=oc at *
   generalize ops[k].s=os at *
   generalize ops[k].v=ol at *
   go_wp2_with fail
   go_loopw [7,8] (fun inb j wr2=>∃q:Nat,q<=ks.length/\j=.int .i64 q/\inb=.bool ((ks.take q).any (fun x=>kd==x))/\I wr2 k/\Below w.heap.size w wr2) (fun _ j _=>ks.length-(intOf j).toNat)
   case atStart=>exact⟨0,zo _,rfl,by simp,HL.u.1,HL.u.2⟩
   case round=>
    obtain⟨q,hq,rfl,rfl,f,d⟩:=hrel
    obtain⟨c0,V,U,T,R,O⟩:=HC.u _ d
    have HL2:=qG f d
    by_cases hql:q < ks.length
    ·have D:(q:Int) < (ks.length:Int):=by omega
     have a0:(0:Int)<=(q:Int):=by omega
     have cK:=cell_later d (HK.u q hql)
     have HT:=zD (show ((ks.take (q+1)).any (fun x=>kd==x))=(((ks.take q).any (fun x=>kd==x))|| (kd==ks[q])) by rw[kI,zJ hql,List.any_append,Option.toList_some,vw,bn,Bool.or_false])
     clear f d V U T R O
     generalize ks[q]=kx at *
     generalize (ks.take q).any (fun x=>kd==x)=ib at *
     cases ib with
     | true=>
      go_wp2_with fail
      go_region
      go_wp2_with fail
      go_roundw
      case rel=>exact⟨q+1,by omega,by go_num,by rw[HT.u];first | rfl | simp,HPP.u.zP _ _ _ HL2.u.1 (zh _),HL2.u.2.trans ((zh _).mono HL2.u.2.size)⟩
      case measure=>simp[intOf];omega
     | false=>
      go_wp2_with fail
      go_region_held3 (fun w'=>w'.cell? ⟨kg,q,none⟩=some (.int .i64 kx)/\w'.cell? ⟨g,o+k*6,none⟩=some (.int .i64 kd)) (go_keep) (fail)
      go_wp2_with fail
      go_roundw
      case rel=>exact⟨q+1,by omega,by go_num,by rw[HT.u];first | rfl | simp,HPP.u.zP _ _ _ HL2.u.1 (zh _),HL2.u.2.trans ((zh _).mono HL2.u.2.size)⟩
      case measure=>simp[intOf];omega
    ·have D:¬(q:Int) < (ks.length:Int):=by omega
     have z:ks.take q=ks:=yw (by omega)
     rw[z]
     cases hz:ks.any (fun x=>kd==x)with
     | false=>
      clear f d c0 V U T R O z
      go_wp2_with fail
      go_roundw
      case rel=>exact⟨k+1,by omega,by go_num,HPP.u.skip _ k hlt HL2.u.1,HL2.u.2⟩
      case measure=>simp[intOf];omega
     | true=>
      have HM:=zD (show kd∈ks by simpa using hz)
      clear f d hz z
      go_wp2_with fail
      refine(M.u _ HM.u HL2.u.1 HL2.u.2).mono ?_
      rintro e w3 ⟨rfl,J,L⟩
      have y:=qG L (HL2.u.2.trans J)
      clear L J c0 V U T R O
      go_wp2_with fail
      refine(HPP.u.looks _ (k+1) (by omega) y.u.1).mono ?_
      rintro e w4 ⟨rfl,A⟩
      have HL4:=qG (HPP.u.zP _ _ _ y.u.1 A) (y.u.2.trans (A.mono y.u.2.size))
      clear A
      go_wp2_with fail
      go_roundw
      case rel=>exact⟨k+1,by omega,by go_num,HL4.u.1,HL4.u.2⟩
      case measure=>simp[intOf];omega
  ·have G:¬(k:Int) < (ops.length:Int):=by omega
   go_wp2_with fail
   go_ret
   exact⟨rfl,HL.u.2⟩
theorem BX.zP {w w':World} {v:Value} {ops:List rS} (h:BX w v ops) (d:Below w.heap.size w w'):BX w' v ops:=by
 obtain⟨⟨x,cap,rfl,h⟩,k,f,i⟩:=h
 refine⟨⟨x,cap,rfl,?_⟩,k,fun op ho=>⟨(f op ho).1.zP d,(f op ho).2⟩,i⟩
 rcases h with h | ⟨g,o,rfl,h⟩
 ·exact Or.inl h
 ·exact Or.inr ⟨g,o,rfl,fun j hj=>let ⟨h0,h1,k,f,i,h5⟩:=h j hj;⟨cell_later d h0,cell_later d h1,cell_later d k,cell_later d f,cell_later d i,cell_later d h5⟩⟩
end Go.Proofs.YthleadfkfnnadaaGreat
namespace Go.Proofs.YthleadfkfnnadaaGreat
open Go.ChangeShapes Go.WideShapes Go.ChangeAt Go.RowKit
variable {cs:Array Value} {held:Bool} {tail:List Value} {X X':ZK} {M B N BB R base n len cap:Nat} {a0:Option Addr} {m:Rt.Mc} {fm:Rt.qS} {S:Rt.Src} {ty t:TypeId} {v:Value} {w w' w1 w2 W:World}
theorem Tryz.own:ownKnob Tryz.prog.godebug=none:=by kernel_rfl
theorem Tryz.laidOut:laidOutB Tryz.prog=true:=by kernel_rfl
theorem Tryz.Ez:Tryz.prog.bytesOf 32=72:=by kernel_rfl
theorem Tryz.De:Tryz.prog.bytesOf 3=8:=by kernel_rfl
theorem Tryz.rC:Tryz.prog.cellsOf 3=1:=by kernel_rfl
theorem Tryz.DY:Tryz.prog.cellsOf 9=1:=by kernel_rfl
theorem Tryz.BL:Tryz.prog.cellsOf 24=1:=by kernel_rfl
theorem Tryz.wB:Tryz.prog.cellsOf 32=6:=by kernel_rfl
theorem Eh {H:Type} {enc:TypeId×Value->H} {spare:Nat->Bool} {cs:List Value} {x:DataW H×List MemPlace} (h:DataW.trod enc Tryz.prog W base spare held n 24 cs=some x) (y:(x.1.weights Tryz.prog 24).all (·<=reachBytes)=true) :
  ∃v xs,cs=[v]/\kA W v xs/\xs.length<=17592186044416:=by
 rcases Go.Deep.open_slice1 Tryz.underlying24 Tryz.rC h with⟨rfl,_⟩| ⟨a,len,cap,m,n,V,D,Pl,rfl,_,hl,hm,hmm,hx,hcells⟩
 ·exact⟨_,[],rfl,⟨none,0,rfl,Or.inl rfl⟩,by simp⟩
 ·have G:len<=m:=by rw[hmm];split <;> omega
  obtain⟨f,z⟩:=Go.Deep.choose_lt (α:=Int) (n:=m) (p:=fun i k=>W.cell? (a.add i)=some (.int .i64 k)) (fun i hi=>by
   obtain⟨F,I⟩:=hcells i hi
   obtain⟨k,A,_,_⟩:=Yh Tryz.underlying3 I
   simp at A
   rw[A]at F
   exact⟨k,F⟩)
  refine⟨_,(List.range len).map f,rfl,⟨some a,cap,by simp,?_⟩,?_⟩
  ·by_cases hl0:len=0
   ·subst hl0;exact Or.inl rfl
   ·obtain⟨b,off,o⟩:=a
    have d:o=none:=by
     have:=World.cell?_spot (z 0 (by omega))
     simpa[Addr.add] using this
    subst d
    refine Or.inr ⟨b,off,rfl,fun j hj=>?_⟩
    simp at hj
    simp only[qc,vn]
    have:=z j (by omega)
    rw[show (⟨b,off,none⟩:Addr).add j=⟨b,off+j,none⟩ by simp[Addr.add]]at this
    exact this
  ·rw[hx]at y
   unfold DataW.weights at y
   rw[Tryz.underlying24]at y
   simp only[kY,zy,yS,qR,Qy,Tryz.De]at y
   have:=reachBytes_lt
   have:=y.1
   simp
   omega
theorem Fj (cs:List Value) (k a b c:Int) (s:ByteArray) (v:Value) (d:cs.length=6) (x:(cs.drop 0).take 1=[.int .i64 k]) (o:(cs.drop 1).take 1=[.int .i64 a]) (j:(cs.drop 2).take 1=[.int .i64 b]) (i:(cs.drop 3).take 1=[.int .i64 c]) (h:(cs.drop 4).take 1=[.string s]) (f:(cs.drop 5).take 1=[v]) :
  cs=[.int .i64 k,.int .i64 a,.int .i64 b,.int .i64 c,.string s,v]:=by
 match cs,d with
 | [c0,c1,c2,c3,c4,c5],_=>simp_all
def GP (w:World) (op:rS):Prop:=op.s.size<=maxLen/\(kA w op.v op.l/\op.l.length<=17592186044416)/\(-9223372036854775808<=op.a/\op.a<=9223372036854775807)/\(-9223372036854775808<=op.b/\op.b<=9223372036854775807)/\(-9223372036854775808<=op.c/\op.c<=9223372036854775807)
theorem Ge {H:Type} {enc:TypeId×Value->H} {spare:Nat->Bool} {cs:List Value} {x:DataW H×List MemPlace} (h:DataW.trod enc Tryz.prog w base spare held n 32 cs=some x) (y:(x.1.weights Tryz.prog 32).all (·<=reachBytes)=true) :
  ∃op:rS,cs=[.int .i64 op.kind,.int .i64 op.a,.int .i64 op.b,.int .i64 op.c,.string op.s,op.v]/\GP w op:=by
 obtain⟨xs,m,rfl,A,O,z,o⟩:=DataW.trod_struct Tryz.underlying32 h
 rw[Tryz.wB]at O
 have V:xs.length=6:=z
 have f:∀i (hi:i < 6),xs[i]?=some xs[i]:=fun i hi=>zJ (by omega)
 have N:DataW.trod enc Tryz.prog w base spare held m 3 ((cs.drop 0).take (Tryz.prog.cellsOf 3))=xs[0]?:=o 0 _ rfl
 have M:DataW.trod enc Tryz.prog w base spare held m 3 ((cs.drop 1).take (Tryz.prog.cellsOf 3))=xs[1]?:=o 1 _ rfl
 have L:DataW.trod enc Tryz.prog w base spare held m 3 ((cs.drop 2).take (Tryz.prog.cellsOf 3))=xs[2]?:=o 2 _ rfl
 have J:DataW.trod enc Tryz.prog w base spare held m 3 ((cs.drop 3).take (Tryz.prog.cellsOf 3))=xs[3]?:=o 3 _ rfl
 have I:DataW.trod enc Tryz.prog w base spare held m 9 ((cs.drop 4).take (Tryz.prog.cellsOf 9))=xs[4]?:=o 4 _ rfl
 have G:DataW.trod enc Tryz.prog w base spare held m 24 ((cs.drop 5).take (Tryz.prog.cellsOf 24))=xs[5]?:=o 5 _ rfl
 rw[Tryz.rC,f _ (by omega)]at N M L J
 rw[Tryz.DY,f _ (by omega)]at I
 rw[Tryz.BL,f _ (by omega)]at G
 obtain⟨k,U,_⟩:=Yh Tryz.underlying3 N
 obtain⟨a,a0,_,ab⟩:=Yh Tryz.underlying3 M
 obtain⟨b,b0,_,bb⟩:=Yh Tryz.underlying3 L
 obtain⟨c,c0,_,cb⟩:=Yh Tryz.underlying3 J
 obtain⟨s,T,_,F⟩:=DataW.trod_string Tryz.underlying9 I
 obtain⟨v,l,R,W,D⟩:=Eh G (by
  rw[A]at y
  unfold DataW.weights at y
  rw[Tryz.underlying32]at y
  rw[vZ]at y ⊢
  intro q Z
  exact y q (DataW.weights_mem_each (j:=5) (t:=24) (d:=xs[5].1) rfl (by rw[yt,f 5 (by omega)];rfl) q Z))
 exact⟨⟨k,a,b,c,s,v,l⟩,Fj cs k a b c s v O U a0 b0 c0 T R,F,⟨W,D⟩,bounds_i64 ab,bounds_i64 bb,bounds_i64 cb⟩
theorem dN {H:Type} {e:TypeId}:∀{ds:List (DataW H)} {d:DataW H},d∈ds->∀q∈d.weights Tryz.prog e,q∈DataW.weightsAll Tryz.prog e ds
 | [],_,h,_,_=>by simp at h
 | a::r,d,h,q,hq=>by
  unfold DataW.weightsAll
  rcases zw.mp h with rfl | h
  ·exact zY _ hq
  ·exact zb _ (dN h q hq)
theorem Fq {H:Type} {enc:TypeId×Value->H} {d0:DataW H} {p:List MemPlace} (h0:DataW.Trod enc Tryz.prog W 0 (fun _=>true) true 22 (.slice a0 len cap) d0 p) (A:(d0.weights Tryz.prog 22).all (·<=reachBytes)=true) :
  ∃ops,BX W (.slice a0 len cap) ops/\ops.length=len/\len*72<=140737488351232:=by
 obtain⟨U,hf⟩:=h0
 rcases Go.Deep.open_slice Tryz.underlying22 hf with⟨hcs,hx⟩| ⟨a,M,cap',m,n,D,Pl,hcs,_,hl,hm,hmm,hx,hcells⟩
 ·simp[Value.cells]at hcs
  obtain⟨rfl,rfl,rfl⟩:=hcs
  exact⟨[],⟨⟨none,0,rfl,Or.inl rfl⟩,by simp,by simp,by simp⟩,rfl,by omega⟩
 ·simp[Value.cells]at hcs
  obtain⟨rfl,rfl,rfl⟩:=hcs
  simp only[yZ]at hx
  obtain⟨Z,_⟩:=hx
  simp only[if_true]at hmm
  subst hmm
  rw[Z]at A
  unfold DataW.weights at A
  rw[Tryz.underlying22]at A
  simp only[kY,zy,yS,qR,Qy,Tryz.Ez]at A
  obtain⟨J,z⟩:=A
  rw[vZ]at z
  rw[Tryz.wB]at hcells
  haveI:Inhabited rS:=⟨⟨0,0,0,0,⟨#[]⟩,.bool false,[]⟩⟩
  obtain⟨f,x⟩:=Go.Deep.choose_lt (α:=rS) (n:=len) (p:=fun i op=>GP W op/\W.cell? (a.add (i*6))=some (.int .i64 op.kind)/\W.cell? (a.add (i*6+1))=some (.int .i64 op.a)/\W.cell? (a.add (i*6+2))=some (.int .i64 op.b)/\W.cell? (a.add (i*6+3))=some (.int .i64 op.c)/\W.cell? (a.add (i*6+4))=some (.string op.s)/\W.cell? (a.add (i*6+5))=some op.v) (fun i hi=>by
   obtain⟨a1,I,G⟩:=hcells i (by omega)
   obtain⟨op,F,L⟩:=Ge G (by
    rw[vZ]
    intro q V
    exact z q (zY _ (dN (xr.mpr ⟨i,by simpa using hi,rfl⟩) q V)))
   obtain⟨_,_,d⟩:=World.cells?_some I
   subst F
   have e:∀j,(a.add (i*6)).add j=a.add (i*6+j):=fun j=>Go.Deep.add_add a (i*6) j
   exact⟨op,L,by have:=d 0 (by omega);rw[e]at this;simpa using this,by have:=d 1 (by omega);rw[e]at this;simpa using this,by have:=d 2 (by omega);rw[e]at this;simpa using this,by have:=d 3 (by omega);rw[e]at this;simpa using this,by have:=d 4 (by omega);rw[e]at this;simpa using this,by have:=d 5 (by omega);rw[e]at this;simpa using this⟩)
  have k:∀op∈(List.range len).map f,GP W op:=fun op hop=>by
   simp at hop
   obtain⟨i,hi,rfl⟩:=hop
   exact(x i hi).1
  refine⟨(List.range len).map f,⟨⟨some a,m,by simp,?_⟩,fun op h=>(k op h).1,fun op h=>(k op h).2.1,fun op h=>(k op h).2.2⟩,by simp,by unfold reachBytes at J;omega⟩
  by_cases hl0:len=0
  ·subst hl0;exact Or.inl rfl
  ·obtain⟨b,off,y⟩:=a
   have o:y=none:=by
    have:=World.cell?_spot (x 0 (by omega)).2.1
    simpa[Addr.add] using this
   subst o
   refine Or.inr ⟨b,off,rfl,fun j hj=>?_⟩
   simp at hj
   obtain⟨_,I,G,T,R,O,N⟩:=x j (by omega)
   simp only[qc,vn]
   have e:∀q,(⟨b,off,none⟩:Addr).add q=⟨b,off+q,none⟩:=fun q=>by simp[Addr.add]
   rw[e]at I G T R O N
   exact⟨I,by rw[vN];exact G,by rw[vN];exact T,by rw[vN];exact R,by rw[vN];exact O,by rw[vN];exact N⟩
theorem Df {H:Type} (d:DataW H):1<=Rows.uptoBulk d:=by
 cases d <;> first | simp[Rows.uptoBulk] | (rename_i l;cases l <;> simp[Rows.uptoBulk])
theorem rH {H:Type}:∀l:List (DataW H),l.length<=Rows.uptoBulkAll l
 | []=>by simp[Rows.uptoBulkAll]
 | x::r=>by
  have f:=Df x
  have d:=rH r
  simp only[Rows.uptoBulkAll,yE]
  omega
theorem CA {H:Type} {enc:TypeId×Value->H} {d0:DataW H} {p:List MemPlace} (j:DataW.Trod enc Tryz.prog W 0 (fun _=>true) true 22 (.slice a0 len cap) d0 p) (i:Rows.uptoSmall H [d0]=true):len<=1048576:=by
 have d:Rows.uptoBulkAll [d0]<=1048576:=qf i
 simp only[Rows.uptoBulkAll]at d
 obtain⟨h,hf⟩:=j
 rcases Go.Deep.open_slice Tryz.underlying22 hf with⟨hcs,_⟩| ⟨a,f,cap',m,n,D,Pl,hcs,_,_,_,_,hx,_⟩
 ·simp[Value.cells]at hcs
  omega
 ·simp[Value.cells]at hcs
  obtain⟨_,rfl,_⟩:=hcs
  simp only[yZ]at hx
  rw[hx.1]at d
  simp only[Rows.uptoBulk]at d
  have:=rH ((List.range len).map D)
  rw[qR,Qy]at this
  omega
end Go.Proofs.YthleadfkfnnadaaGreat
