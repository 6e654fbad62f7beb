/- The machine's beginning: First, zeros, DropTokens. -/
import Derived.Test.YthleadfkfnnadaaGreatRows
import Derived.Test.YthleadfkfnnadaaGreatChecked
import Derived.ProofKit
import Derived.OpenShut
import Derived.SizedLaws
import Derived.Carry
import Derived.Deep.Slices
import Derived.Deep.CondSized
import Derived.Test.YthleadfkfnnadaaGreatMcM
set_option maxHeartbeats 4000000
set_option maxRecDepth 100000
set_option linter.unusedSimpArgs false
namespace Go.Proofs.YthleadfkfnnadaaGreat
open Rt Go.Proofs.Tryz
variable {c:Array Value} {iv:Int} {cs tail:List Value} {X X':ZK} {base n len cap M B N O c1 c2 c3:Nat} {a0 a1 a2 a3:Option Addr} {m m':Rt.Mc} {fm:Rt.qS} {S:Rt.Src} {ty t:TypeId} {v0 v1 v2:Value} {W w w' w3 w4 w1:World}
section
open Go.ChangeShapes Go.WideShapes Go.ChangeAt Go.RowKit
theorem Tryz.own:ownKnob Tryz.prog.godebug=none:=by kernel_rfl
theorem Tryz.laidOut:laidOutB Tryz.prog=true:=by kernel_rfl
theorem Ez:Tryz.prog.bytesOf 32=72:=by kernel_rfl
theorem De:Tryz.prog.bytesOf 3=8:=by kernel_rfl
theorem rC:Tryz.prog.cellsOf 3=1:=by kernel_rfl
theorem DY:Tryz.prog.cellsOf 9=1:=by kernel_rfl
theorem BL:Tryz.prog.cellsOf 24=1:=by kernel_rfl
theorem wB:Tryz.prog.cellsOf 32=6:=by kernel_rfl
theorem Eh {H:Type} {enc:TypeId×Value->H} {spare:Nat->Bool} {held:Bool} {x:DataW H×List MemPlace} (h:DataW.trod enc Tryz.prog W base spare held n 24 cs=some x) (y:(x.1.weights Tryz.prog 24).all (·<=reachBytes)=true):∃v xs,cs=[v]/\kA W v xs/\xs.length<=17592186044416:=by
 rcases Go.Deep.open_slice1 underlying24 rC h with⟨rfl,_⟩| ⟨a,len,cap,m,n,V,D,Pl,rfl,_,hl,hm,hmm,hx,hcells⟩
 ·exact⟨_,[],rfl,⟨none,0,rfl,Or.inl rfl⟩,by simp⟩
 ·have G:len<=m:=by rw[hmm];split <;> omega
  obtain⟨f,z⟩:=Go.Deep.choose_lt (α:=Int) (n:=m) (p:=fun i k=>W.cell? (a.add i)=some (.int .i64 k)) (fun i hi=>by
   obtain⟨F,I⟩:=hcells i hi;obtain⟨k,A,_,_⟩:=Yh underlying3 I;simp at A;rw[A]at F;exact⟨k,F⟩)
  refine⟨_,(List.range len).map f,rfl,⟨some a,cap,by simp,?_⟩,?_⟩
  ·by_cases hl0:len=0
   ·subst hl0;exact Or.inl rfl
   ·obtain⟨b,off,o⟩:=a;have d:o=none:=by
     have:=World.cell?_spot (z 0 (by omega));simpa[Addr.add] using this
    subst d;refine Or.inr ⟨b,off,rfl,fun j hj=>?_⟩;simp at hj;simp only[qc,vn];have:=z j (by omega);rw[show (⟨b,off,none⟩:Addr).add j=⟨b,off+j,none⟩ by simp[Addr.add]]at this;exact this
  ·rw[hx]at y;unfold DataW.weights at y;rw[underlying24]at y;simp only[kY,zy,yS,qR,Qy,De]at y;have:=reachBytes_lt;have:=y.1;simp;omega
theorem Fj (cs:List Value) (k a b c:Int) (s:ByteArray) (v:Value) (d:cs.length=6) (x:(cs.drop 0).take 1=[.int .i64 k]) (o:(cs.drop 1).take 1=[.int .i64 a]) (j:(cs.drop 2).take 1=[.int .i64 b]) (i:(cs.drop 3).take 1=[.int .i64 c]) (h:(cs.drop 4).take 1=[.string s]) (f:(cs.drop 5).take 1=[v]):cs=[.int .i64 k,.int .i64 a,.int .i64 b,.int .i64 c,.string s,v]:=by
 match cs,d with
 | [c0,c1,c2,c3,c4,c5],_=>simp_all
def GP (w:World) (op:rS):Prop:=op.s.size<=maxLen/\(kA w op.v op.l/\op.l.length<=17592186044416)/\(-9223372036854775808<=op.a/\op.a<=9223372036854775807)/\(-9223372036854775808<=op.b/\op.b<=9223372036854775807)/\(-9223372036854775808<=op.c/\op.c<=9223372036854775807)
theorem Ge {H:Type} {enc:TypeId×Value->H} {spare:Nat->Bool} {held:Bool} {x:DataW H×List MemPlace} (h:DataW.trod enc Tryz.prog w base spare held n 32 cs=some x) (y:(x.1.weights Tryz.prog 32).all (·<=reachBytes)=true):∃op:rS,cs=[.int .i64 op.kind,.int .i64 op.a,.int .i64 op.b,.int .i64 op.c,.string op.s,op.v]/\GP w op:=by
 obtain⟨xs,m,rfl,A,O,z,o⟩:=DataW.trod_struct underlying32 h;rw[wB]at O;have V:xs.length=6:=z;have f:∀i (hi:i < 6),xs[i]?=some xs[i]:=fun i hi=>zJ (by omega);have N:DataW.trod enc Tryz.prog w base spare held m 3 ((cs.drop 0).take (Tryz.prog.cellsOf 3))=xs[0]?:=o 0 _ rfl;have M:DataW.trod enc Tryz.prog w base spare held m 3 ((cs.drop 1).take (Tryz.prog.cellsOf 3))=xs[1]?:=o 1 _ rfl;have L:DataW.trod enc Tryz.prog w base spare held m 3 ((cs.drop 2).take (Tryz.prog.cellsOf 3))=xs[2]?:=o 2 _ rfl;have J:DataW.trod enc Tryz.prog w base spare held m 3 ((cs.drop 3).take (Tryz.prog.cellsOf 3))=xs[3]?:=o 3 _ rfl;have I:DataW.trod enc Tryz.prog w base spare held m 9 ((cs.drop 4).take (Tryz.prog.cellsOf 9))=xs[4]?:=o 4 _ rfl;have G:DataW.trod enc Tryz.prog w base spare held m 24 ((cs.drop 5).take (Tryz.prog.cellsOf 24))=xs[5]?:=o 5 _ rfl;rw[rC,f _ (by omega)]at N M L J;rw[DY,f _ (by omega)]at I;rw[BL,f _ (by omega)]at G;obtain⟨k,U,_⟩:=Yh underlying3 N;obtain⟨a,a0,_,ab⟩:=Yh underlying3 M;obtain⟨b,b0,_,bb⟩:=Yh underlying3 L;obtain⟨c,c0,_,cb⟩:=Yh underlying3 J;obtain⟨s,T,_,F⟩:=DataW.trod_string underlying9 I;obtain⟨v,l,R,W,D⟩:=Eh G (by
  rw[A]at y;unfold DataW.weights at y;rw[underlying32]at y;rw[vZ]at y ⊢;intro q Z;exact y q (DataW.weights_mem_each (j:=5) (t:=24) (d:=xs[5].1) rfl (by rw[yt,f 5 (by omega)];rfl) q Z))
 exact⟨⟨k,a,b,c,s,v,l⟩,Fj cs k a b c s v O U a0 b0 c0 T R,F,⟨W,D⟩,bounds_i64 ab,bounds_i64 bb,bounds_i64 cb⟩
theorem dN {H:Type} {e:TypeId}:∀{ds:List (DataW H)} {d:DataW H},d∈ds->∀q∈d.weights Tryz.prog e,q∈DataW.weightsAll Tryz.prog e ds
 | [],_,h,_,_=>by simp at h
 | a::r,d,h,q,hq=>by
  unfold DataW.weightsAll;rcases zw.mp h with rfl | h
  ·exact zY _ hq
  ·exact zb _ (dN h q hq)
theorem Fq {H:Type} {enc:TypeId×Value->H} {d0:DataW H} {p:List MemPlace} (h0:DataW.Trod enc Tryz.prog W 0 (fun _=>true) true 22 (.slice a0 len cap) d0 p) (A:(d0.weights Tryz.prog 22).all (·<=reachBytes)=true):∃ops,BX W (.slice a0 len cap) ops/\ops.length=len/\len*72<=140737488351232:=by
 obtain⟨U,hf⟩:=h0;rcases Go.Deep.open_slice underlying22 hf with⟨hcs,hx⟩| ⟨a,M,cap',m,n,D,Pl,hcs,_,hl,hm,hmm,hx,hcells⟩
 ·simp[Value.cells]at hcs;obtain⟨rfl,rfl,rfl⟩:=hcs;exact⟨[],⟨⟨none,0,rfl,Or.inl rfl⟩,by simp,by simp,by simp⟩,rfl,by omega⟩
 ·simp[Value.cells]at hcs;obtain⟨rfl,rfl,rfl⟩:=hcs;simp only[yZ]at hx;obtain⟨Z,_⟩:=hx;simp only[if_true]at hmm;subst hmm;rw[Z]at A;unfold DataW.weights at A;rw[underlying22]at A;simp only[kY,zy,yS,qR,Qy,Ez]at A;obtain⟨J,z⟩:=A;rw[vZ]at z;rw[wB]at hcells;haveI:Inhabited rS:=⟨⟨0,0,0,0,⟨#[]⟩,.bool false,[]⟩⟩;obtain⟨f,x⟩:=Go.Deep.choose_lt (α:=rS) (n:=len) (p:=fun i op=>GP W op/\W.cell? (a.add (i*6))=some (.int .i64 op.kind)/\W.cell? (a.add (i*6+1))=some (.int .i64 op.a)/\W.cell? (a.add (i*6+2))=some (.int .i64 op.b)/\W.cell? (a.add (i*6+3))=some (.int .i64 op.c)/\W.cell? (a.add (i*6+4))=some (.string op.s)/\W.cell? (a.add (i*6+5))=some op.v) (fun i hi=>by
   obtain⟨a1,I,G⟩:=hcells i (by omega);obtain⟨op,F,L⟩:=Ge G (by
    rw[vZ];intro q V;exact z q (zY _ (dN (xr.mpr ⟨i,by simpa using hi,rfl⟩) q V)))
   obtain⟨_,_,d⟩:=World.cells?_some I;subst F;have e:∀j,(a.add (i*6)).add j=a.add (i*6+j):=fun j=>Go.Deep.add_add a (i*6) j;exact⟨op,L,by have:=d 0 (by omega);rw[e]at this;simpa using this,by have:=d 1 (by omega);rw[e]at this;simpa using this,by have:=d 2 (by omega);rw[e]at this;simpa using this,by have:=d 3 (by omega);rw[e]at this;simpa using this,by have:=d 4 (by omega);rw[e]at this;simpa using this,by have:=d 5 (by omega);rw[e]at this;simpa using this⟩)
  have k:∀op∈(List.range len).map f,GP W op:=fun op hop=>by
   simp at hop;obtain⟨i,hi,rfl⟩:=hop;exact(x i hi).1
  refine⟨(List.range len).map f,⟨⟨some a,m,by simp,?_⟩,fun op h=>(k op h).1,fun op h=>(k op h).2.1,fun op h=>(k op h).2.2⟩,by simp,by unfold reachBytes at J;omega⟩;by_cases hl0:len=0
  ·subst hl0;exact Or.inl rfl
  ·obtain⟨b,off,y⟩:=a;have o:y=none:=by
    have:=World.cell?_spot (x 0 (by omega)).2.1;simpa[Addr.add] using this
   subst o;refine Or.inr ⟨b,off,rfl,fun j hj=>?_⟩;simp at hj;obtain⟨_,I,G,T,R,O,N⟩:=x j (by omega);simp only[qc,vn];have e:∀q,(⟨b,off,none⟩:Addr).add q=⟨b,off+q,none⟩:=fun q=>by simp[Addr.add]
   rw[e]at I G T R O N;exact⟨I,by rw[vN];exact G,by rw[vN];exact T,by rw[vN];exact R,by rw[vN];exact O,by rw[vN];exact N⟩
theorem Df {H:Type} (d:DataW H):1<=Rows.uptoBulk d:=by
 cases d <;> first | simp[Rows.uptoBulk] | (rename_i l;cases l <;> simp[Rows.uptoBulk])
theorem rH {H:Type}:∀l:List (DataW H),l.length<=Rows.uptoBulkAll l
 | []=>by simp[Rows.uptoBulkAll]
 | x::r=>by
  have f:=Df x;have d:=rH r;simp only[Rows.uptoBulkAll,yE];omega
theorem CA {H:Type} {enc:TypeId×Value->H} {d0:DataW H} {p:List MemPlace} (j:DataW.Trod enc Tryz.prog W 0 (fun _=>true) true 22 (.slice a0 len cap) d0 p) (i:Rows.uptoSmall H [d0]=true):len<=1048576:=by
 have d:Rows.uptoBulkAll [d0]<=1048576:=qf i;simp only[Rows.uptoBulkAll]at d;obtain⟨h,hf⟩:=j;rcases Go.Deep.open_slice underlying22 hf with⟨hcs,_⟩| ⟨a,f,cap',m,n,D,Pl,hcs,_,_,_,_,hx,_⟩
 ·simp[Value.cells]at hcs;omega
 ·simp[Value.cells]at hcs;obtain⟨_,rfl,_⟩:=hcs;simp only[yZ]at hx;rw[hx.1]at d;simp only[Rows.uptoBulk]at d;have:=rH ((List.range len).map D);rw[qR,Qy]at this;omega
end
section
open Go.RowKit
attribute [local go_sem ↓] Go.wp_at_zero Go.wp_at_succ
theorem rm (d:List Int) (X:ZK) (m m':Rt.Mc) (i:m'.zH=m.zH) (h:m'.values=m.values) (f:m'.output=m.output):rowsOf d X m'=rowsOf d X m:=by unfold rowsOf;rw[i,h,f]
theorem Z8.own {M B:Nat} {ty:TypeId} {tail:List Value} {S:Rt.Src} {m m':Rt.Mc} {X X':ZK} {w w':World} (h:Z8 M B ty tail S X X' m w w') (i:Nat) (v:Value) (o:(xC X' m tail).setIfInBounds i v=xC X' m' tail) (j:m'.zH=m.zH) (f:m'.values=m.values) (x:m'.output=m.output):Z8 M B ty tail S X X' m' w (w'.setCell ⟨M,i,none⟩ v):=by
 have k:=rm S.input X' m m' j f x;have d:=h.mc.step (m':=m') (X':=X') (zB _) rfl (fun _ _ hx _=>hx) i v o (by rw[k];exact h.mc.own) rfl rfl (by rw[j];exact h.mc.fl) (by rw[f];exact h.mc.vl);exact⟨d,h.vz.B5 i v,h.grow,h.lt⟩
theorem QI (h:jz w M B ty tail S m X) (j:w.heap[N]?=some (.cells c t (0,0))) (i:V8 M B ty tail S m m' X w.drew w') (f:t≠3/\t≠153/\t≠24):w'.heap[N]?=some (.cells c t (0,0)):=by
 have d:w.drew.heap[N]?=some (.cells c t (0,0)):=j;exact(i.2.block N (zQ d) (QF (w:=w.drew) (h.zP (zh w)).own d f)).trans d
theorem wo (s:Rt.Q9) {v:Int}:(Rt.jN m s v).taken=m.taken:=by
 unfold Rt.jN;split
 ·split <;> rfl
 ·rfl
structure iJ (M B:Nat) (ty:TypeId) (tail:List Value) (S:Rt.Src) (X:ZK) (m:Rt.Mc) (sp:Rt.Q9) (iv:Int) (w:World) (O:Nat) (wy:World):Prop where
 aC:Z8 M B ty tail S X X (Rt.jN m sp iv) w wy
 J8:wy.heap[O]?=some (.cells #[.int .i64 4,.int .i64 0,.int .i64 sp.line,.int .i64 sp.cell,.int .i64 (Rt.ZL m sp)] 162 (0,0))
 res:wy.heap[w.heap.size+1]?=some (.cells #[.int .i64 0,.int .i64 0,.slice none 0 0] 157 (0,0))
 ne:w.heap.size+1 < O
theorem cutK {Goal:Prop} {F:Nat->World->Prop} {R:Code} {post:Exit->Act->World->Prop} {fr:Nat->Act} (d:(∀(O:Nat) (wy:World),F O wy->Code.wp Tryz.prog R post (fr O) wy)->Goal) (f:∀(O:Nat) (wy:World),F O wy->Code.wp Tryz.prog R post (fr O) wy):Goal:=d f
theorem iJ.one {sp:Rt.Q9} (j:jz w M B ty tail S m X) (h:jz w3 M B ty tail S m X/\Below w.heap.size w w3/\w3.heap[w.heap.size+1]?=some (.cells #[.int .i64 0,.int .i64 0,.slice none 0 0] 157 (0,0))) (i:V8 M B ty tail S m (Rt.jN m sp iv) X w3.drew w4):iJ M B ty tail S X m sp iv w w4.heap.size (w4.alloc (.cells #[.int .i64 4,.int .i64 0,.int .i64 sp.line,.int .i64 sp.cell,.int .i64 (Rt.ZL m sp)] 162)):=by
 obtain⟨h,k,o⟩:=h;have f:=QI h o i (by decide);have d:=(zI w4.heap.size w4).alloc (zB _) (.cells #[.int .i64 4,.int .i64 0,.int .i64 sp.line,.int .i64 sp.cell,.int .i64 (Rt.ZL m sp)] 162);exact⟨((Z8.start j k.drew).put i).below d,zN _ _,zU f d,zQ f⟩
theorem iJ.two {sp:Rt.Q9} {T:Nat} {bt:Array Value} (A:jz w M B ty tail S m X) (i:jz w3 M B ty tail S m X/\Below w.heap.size w w3/\w3.heap[w.heap.size+1]?=some (.cells #[.int .i64 0,.int .i64 0,.slice none 0 0] 157 (0,0))/\w3.heap[O]?=some (.cells #[.int .i64 0,.int .i64 0,.int .i64 0,.int .i64 0,.int .i64 0] 162 (0,0))/\w3.heap[T]?=some (.cells bt 160 (0,0))) (D:w.heap.size+1 < O) (j:V8 M B ty tail S m (Rt.jN m sp iv) X w3.drew w4):iJ M B ty tail S X m sp iv w O (((((w4.setCell ⟨O,0,none⟩ (.int .i64 4)).setCell ⟨O,1,none⟩ (.int .i64 0)).setCell ⟨O,2,none⟩ (.int .i64 sp.line)).setCell ⟨O,3,none⟩ (.int .i64 sp.cell)).setCell ⟨O,4,none⟩ (.int .i64 (Rt.ZL m sp))):=by
 obtain⟨i,F,G,H,_⟩:=i;have k:=QI i G j (by decide);have h:=QI i H j (by decide);have y:=zf h 0 (.int .i64 4);have n2:=zf y 1 (.int .i64 0);have x:=zf n2 2 (.int .i64 sp.line);have o:=zf x 3 (.int .i64 sp.cell);have z:=zf o 4 (.int .i64 (Rt.ZL m sp));have d:¬Xe 162/\162≠3/\162≠153/\162≠24:=by unfold Xe;decide
 have f:w.heap.size<=O:=by omega
 refine⟨((((((Z8.start A F.drew).put j).aside h f d _ _).aside y f d _ _).aside n2 f d _ _).aside x f d _ _).aside o f d _ _,by simpa using z,?_,D⟩
 repeat rw[zO _ _ _ _ (by show w.heap.size+1≠O;omega)]
 exact k
theorem sD (y:Rt.qS) (a1 a2 a3:Option Addr) (c1 c2 c3:Nat) (h:jz w M B ty tail S m X) (hm:dL S m) (W:y.kind=11):Calls Tryz.prog 148 #[.pointer (some ⟨M,0,none⟩),.agg (Qd y a1 a2 a3 c1 c2 c3)] w (eE M B ty tail S X (Rt.perform S m y) w):=by
 have d:=((zI w.heap.size w).alloc (zB _) (.cells (Qd y a1 a2 a3 c1 c2 c3) 143)).alloc (by simp) (.cells #[.int .i64 0,.int .i64 0,.slice none 0 0] 157);have bF:=yR (zN w (.cells (Qd y a1 a2 a3 c1 c2 c3) 143)) (.cells #[.int .i64 0,.int .i64 0,.slice none 0 0] 157);have N:=qD w (.cells (Qd y a1 a2 a3 c1 c2 c3) 143) (.cells #[.int .i64 0,.int .i64 0,.slice none 0 0] 157);have H:=h.zP d;have HP:=zD (show Rt.perform S m y=if m.taken < 0\/S.input.length<=m.taken then Rt.ended m 4 else ⟨0,wrap64 (m.line+1),[Rt.stay m.line,Rt.stored m (Rt.vx S m y.name),⟨6,0,⟨0,0⟩,0⟩],{ Rt.jN m (Rt.vx S m y.name) ((S.input[m.taken.toNat]?).getD 0)with taken:=wrap64 (m.taken+1) }⟩ by unfold Rt.perform;simp only;rw[zA (by omega),zA (by omega),zA (by omega),zE W]);have HH:=zD h;have f3:=zQ h.block;clear h W;go_enter func148,ntmps148;go_wp2_with fail;generalize (w.alloc (.cells (Qd y a1 a2 a3 c1 c2 c3) 143)).alloc (.cells #[.int .i64 0,.int .i64 0,.slice none 0 0] 157)=wA at *;have c4:=H.c4;have cI:=H.c1;obtain⟨f7,d9,a9⟩:=zK H.input;have g0:=hm.input;have k1:=zC bF 1 (by simp);simp at k1;by_cases ht:m.taken < 0\/S.input.length<=m.taken
 ·replace HP:=zD (HP.u.trans (zE ht))
  obtain⟨r0,r1,r2⟩:=yb N;have z:=zS N;have HA:=qG (Z8.start HH.u d) N;rw[a9]at cI;clear H d bF hm N;have fin:∀(wz:World),Below wA.heap.size wA wz->∀a b c,Z8 M B ty tail S X X m w (W3 wz (w.heap.size+1) a b c):=fun wz hb a b c=>(HA.u.1.below hb).three (zU HA.u.2 hb) (by omega) (by unfold Xe;decide) a b c;have U:=zD fin;clear fin;by_cases h0:m.taken < 0
  ·have b7:decide (m.taken < 0)=true:=by simpa using h0
   clear ht;go_quiet (fail);go_wp2_with fail;refine zT (v:=.agg #[.int .i64 4,.int .i64 0,.slice none 0 0]) ?_ rfl ⟨_,_,by rw[HP.u];rfl,by rw[HP.u];exact U.u _ (below_drewN _ _) _ _ _,by rw[HP.u];exact zW _ _ _ _⟩;simp[results,results148,go_sem,r0,r1,r2]
  ·have b7:decide (m.taken < 0)=false:=by simpa using h0
   have d4:(S.input.length:Int)<=m.taken:=by omega
   clear ht;go_quiet (fail);go_wp2_with fail;refine zT (v:=.agg #[.int .i64 4,.int .i64 0,.slice none 0 0]) ?_ rfl ⟨_,_,by rw[HP.u];rfl,by rw[HP.u];exact U.u _ (below_drewN _ _) _ _ _,by rw[HP.u];exact zW _ _ _ _⟩;simp[results,results148,go_sem,r0,r1,r2]
 ·replace HP:=zD (HP.u.trans (zA ht))
  obtain⟨k,W⟩:=yr (show 0<=m.taken by omega);have V:k < S.input.length:=by omega
  obtain⟨g,f6,Z,_,f0,ca⟩:=yD H.input (j:=k) (u:=.int .i64 S.input[k]) (by simp[xR,V]);rw[Z]at cI;rw[W]at c4;have d8:=zD (show (S.input[m.taken.toNat]?).getD 0=S.input[k] by rw[W];simp[V]);rw[d8.u]at HP;have b7:decide ((k:Int) < 0)=false:=by simp
  have f5:¬(k:Int) < 0:=by omega
  have d4:¬(S.input.length:Int)<=(k:Int):=by omega
  have g2:(k:Int) < (S.input.length:Int):=by omega
  have f9:(0:Int)<=(k:Int):=by omega
  have HA:=gN H d N bF;have HM:=zD hm;have d0:=zD Z;have c0:=zD W;have g3:=zD (zJ V);clear H d bF hm N ht a9 Z W;generalize S.input[k]=iv at *;go_quiet (fail);go_wp2_with fail;obtain⟨H,d,N,bF⟩:=HA.u;refine(fy y.name (H.zP (below_drewN _ _)) HM.u).mono ?_;rintro e w2 ⟨rfl,b2⟩;have D:Below wA.heap.size wA w2:=(below_drewN wA _).trans b2;clear b2;generalize Rt.vx S m y.name=sp at *;have b1:=(zI w2.heap.size w2).alloc (zB _) (.cells #[.int .i64 sp.line,.int .i64 sp.cell] 160);have i:Below wA.heap.size wA (w2.alloc (.cells #[.int .i64 sp.line,.int .i64 sp.cell] 160)):=D.trans (b1.mono (B':=wA.heap.size) D.size);have h3:=H.zP i;have J:=d.trans (i.mono (B':=w.heap.size) d.size);have I:=zU N i;have x1:=cell_later i cI;have x4:=cell_later i c4;have xa:=cell_later i ca;have bT:=zN w2 (.cells #[.int .i64 sp.line,.int .i64 sp.cell] 160);have t0:=zC bT 0 (by simp);have t1:=zC bT 1 (by simp);simp only[yQ,yH,zv]at t0 t1;clear H d N bF D b1 i cI c4 ca k1 HA;go_wp2_with fail;generalize w2.alloc (.cells #[.int .i64 sp.line,.int .i64 sp.cell] 160)=w3 at *;generalize w2.heap.size=T at *;have f8:IntKind.i64.wrap (k:Int)=(k:Int):=by rw[yv,yC _ (by omega)]
  have A:=(zI w3.heap.size w3).alloc (zB _) (.cells #[.int .i64 0,.int .i64 0,.int .i64 0,.int .i64 0,.int .i64 0] 162);have H3:=XX h3 J I;have g4:=zD bT;have HQ:=DA (h3.zP A) (J.trans (A.mono (B':=w.heap.size) J.size)) (zU I A) (zN w3 (.cells #[.int .i64 0,.int .i64 0,.int .i64 0,.int .i64 0,.int .i64 0] 162)) (zU bT A);have b3:¬T=w3.heap.size:=by have:=zQ bT;omega
  have b6:¬M=w3.heap.size:=by have:=zQ h3.block;omega
  have b0:¬g=w3.heap.size:=by
   have h4:=h3.input;rw[d0.u]at h4;have:=(h4.lt g rfl).2;omega
  have b5:¬w.heap.size+1=w3.heap.size:=by have:=zQ I;omega
  have b4:=zQ bT;have a5:=zQ h3.block;have a0:g < w3.heap.size:=by
   have h4:=h3.input;rw[d0.u]at h4;exact(h4.lt g rfl).2
  have G:=zQ I;clear h3 J I bT A;have R:w.heap.size+1 < w3.heap.size:=G;apply cutK (F:=iJ M B ty tail S X m sp iv w)
  ·intro HT;have d6:=zD HT;clear HT;go_region_with (first | (go_at_call 181;refine(Kv sp iv (H3.u.1.zP (zh _)) HM.u).mono ?_;rintro e w4 ⟨rfl,hp4⟩;have HR:=zD (iJ.one HH.u H3.u hp4);replace hp4:=zD hp4)| (go_at_call 181;refine(Kv sp iv (HQ.u.1.zP (zh _)) HM.u).mono ?_;rintro e w4 ⟨rfl,hp4⟩;obtain⟨y0,y1,y2,y3,y4⟩:=QY (QI HQ.u.1 HQ.u.2.2.2.1 hp4 (by decide));have yz:=zS (QI HQ.u.1 HQ.u.2.2.2.1 hp4 (by decide));have HR:=zD (iJ.two HH.u HQ.u R hp4)))
   all_goals
    rename_i hKK;refine hKK _ _ ?_;have a7:=HR.u;revert a7
    first
     | (generalize w4.alloc (.cells #[.int .i64 4,.int .i64 0,.int .i64 sp.line,.int .i64 sp.cell,.int .i64 (Rt.ZL m sp)] 162)=wy;generalize w4.heap.size=O)
     | (generalize ((((w4.setCell ⟨w3.heap.size,0,none⟩ (.int .i64 4)).setCell ⟨w3.heap.size,1,none⟩ (.int .i64 0)).setCell ⟨w3.heap.size,2,none⟩ (.int .i64 sp.line)).setCell ⟨w3.heap.size,3,none⟩ (.int .i64 sp.cell)).setCell ⟨w3.heap.size,4,none⟩ (.int .i64 (Rt.ZL m sp))=wy;generalize w3.heap.size=O)
    intro a7;exact d6.u _ _ a7
  ·intro O wy hR;obtain⟨o,bO,b8,g1⟩:=hR;have c4:=o.mc.c4;rw[wo,c0.u]at c4;have f4:=o.mc.fz 4;have d3:M≠O:=by have:=o.lt;omega
   have d2:M≠w.heap.size+1:=by have:=o.lt;omega
   have f:=o.own (m':={ Rt.jN m sp iv with taken:=wrap64 (m.taken+1) }) 4 (.int .i64 (wrap64 (m.taken+1))) (by simp[xC]) rfl rfl rfl;have a8:wrap64 ((k:Int)+1)=(k:Int)+1:=yC _ (by omega);rw[c0.u,a8]at f HP;have b9:=(zO wy ⟨M,4,none⟩ (.int .i64 ((k:Int)+1)) O (xK d3)).trans bO;have x:=(zO wy ⟨M,4,none⟩ (.int .i64 ((k:Int)+1)) _ (xK d2)).trans b8;have d7:=zD (show Rt.stored m sp=⟨4,0,sp,Rt.ZL m sp⟩from rfl);generalize Rt.ZL m sp=J8 at *;obtain⟨p0,p1,p2,p3,p4⟩:=QY b9;have c6:=f.mc.c6;have HL:=zD (fU m sp iv);rw[show ({ Rt.jN m sp iv with taken:=(k:Int)+1 }:Rt.Mc).line=m.line from HL.u]at c6;have d1:=qG f x;clear a8 o bO b8 f x b9 x1 x4 xa t0 t1 b3 b6 b0 b5 b4 a5 a0 G R;go_wp2_with fail;generalize wy.setCell ⟨M,4,none⟩ (.int .i64 ((k:Int)+1))=w5 at *;clear c4 f4;go_region_held3 (fun w'=>w'.cell? ⟨M,6,none⟩=some (.int .i64 m.line)/\w'.cell? ⟨O,0,none⟩=some (.int .i64 4)/\w'.cell? ⟨O,1,none⟩=some (.int .i64 0)/\w'.cell? ⟨O,2,none⟩=some (.int .i64 sp.line)/\w'.cell? ⟨O,3,none⟩=some (.int .i64 sp.cell)/\w'.cell? ⟨O,4,none⟩=some (.int .i64 J8)) (go_keep) (fail);obtain⟨f,x⟩:=d1.u;have a4:=((zI w5.heap.size w5).alloc (zB _) (.cells #[.int .i64 1,.int .i64 m.line,.int .i64 0,.int .i64 0,.int .i64 0,.int .i64 4,.int .i64 0,.int .i64 sp.line,.int .i64 sp.cell,.int .i64 J8,.int .i64 6,.int .i64 0,.int .i64 0,.int .i64 0,.int .i64 0] 162)).drew;have bQ:(w5.alloc (.cells #[.int .i64 1,.int .i64 m.line,.int .i64 0,.int .i64 0,.int .i64 0,.int .i64 4,.int .i64 0,.int .i64 sp.line,.int .i64 sp.cell,.int .i64 J8,.int .i64 6,.int .i64 0,.int .i64 0,.int .i64 0,.int .i64 0] 162)).drew.heap[w5.heap.size]?=_:=zN w5 (.cells #[.int .i64 1,.int .i64 m.line,.int .i64 0,.int .i64 0,.int .i64 0,.int .i64 4,.int .i64 0,.int .i64 sp.line,.int .i64 sp.cell,.int .i64 J8,.int .i64 6,.int .i64 0,.int .i64 0,.int .i64 0,.int .i64 0] 162);have a6:=f.below a4;have L:=zU x a4;have d5:=a6.mc.c6;rw[show ({ Rt.jN m sp iv with taken:=(k:Int)+1 }:Rt.Mc).line=m.line from HL.u]at d5;have hQ:=f.vz.size;have f2:=zQ bQ;have f1:=zQ x;clear f x a4 d1 c6 p0 p1 p2 p3 p4;generalize (w5.alloc (.cells #[.int .i64 1,.int .i64 m.line,.int .i64 0,.int .i64 0,.int .i64 0,.int .i64 4,.int .i64 0,.int .i64 sp.line,.int .i64 sp.cell,.int .i64 J8,.int .i64 6,.int .i64 0,.int .i64 0,.int .i64 0,.int .i64 0] 162)).drew=w6 at *;generalize w5.heap.size=q at *;obtain⟨r0,r1,r2⟩:=yb L;have z:=zS L;have HF:=zD (fun a b c=>And.intro (a6.three L (by omega) (by unfold Xe;decide) a b c) (mu 3 bQ (show q≠w.heap.size+1 by omega) hQ a b c rfl (by omega)));clear a6 L bQ;go_wp2_with fail;refine zT (v:=.agg #[.int .i64 0,.int .i64 (wrap64 (m.line+1)),.slice (some ⟨q,0,none⟩) 3 3]) ?_ rfl ⟨_,_,by rw[HP.u],by rw[HP.u];exact(HF.u _ _ _).1,by rw[HP.u,d7.u];exact(HF.u _ _ _).2⟩;simp[results,results148,go_sem,r0,r1,r2]
theorem Z8.from (i:jz w M B ty tail S m X) (f:Below w.heap.size w w1) (h:Z8 M B ty tail S X X' m' w1 w'):Z8 M B ty tail S X X' m' w w':=
 ⟨h.mc,(VM.jQ _ f).trans h.vz (vd.refl _ _),fun k hk=>by rcases h.grow k hk with d | d;exact Or.inl d;exact Or.inr (zi f.size d),zQ i.block⟩
theorem pK (h:jz w M B ty tail S m X) (D:m.zH.length < 2):Calls Tryz.prog 151 #[.pointer (some ⟨M,0,none⟩)] w (eE M B ty tail S X (Rt.ended m 1) w):=by
 have k:=(zI w.heap.size w).alloc (zB _) (.cells #[.int .i64 0,.int .i64 0,.slice none 0 0] 157);have x:=h.c2;obtain⟨o,i,d⟩:=zK h.zH;rw[d]at x;have y:=zD h;have f:=zQ h.block;clear h d;have A:IntKind.i64.wrap ((m.zH.length:Int)-1)=(m.zH.length:Int)-1:=by rw[yv,yC _ (by omega)]
 have j:(m.zH.length:Int)-1 < 1:=by omega
 generalize m.zH.length=n at *;go_enter func151,ntmps151;go_wp2_with fail;have z:=zD ((Z8.start y.u ((zI w.heap.size w).alloc (zB _) (.cells #[.int .i64 1,.int .i64 0,.slice none 0 0] 157))));have E:=yb (zN w (.cells #[.int .i64 1,.int .i64 0,.slice none 0 0] 157));refine zT (v:=.agg #[.int .i64 1,.int .i64 0,.slice none 0 0]) ?_ rfl ⟨_,_,rfl,z.u,zW _ _ _ _⟩;revert E;generalize w.alloc (.cells #[.int .i64 1,.int .i64 0,.slice none 0 0] 157)=wz;intro E;simp[results,results151,go_sem,E.1,E.2.1,E.2.2]
theorem Z8.keeps (i:jz w M B ty tail S m X) (h:Z8 M B ty tail S X X' m' w w') (f:w.heap[N]?=some (.cells c t (0,0))) (d:N≠M) (j:t≠3/\t≠153/\t≠24):w'.heap[N]?=some (.cells c t (0,0)):=by
 refine(h.vz.block N (zQ f) (fun hk=>?_)).trans f;rcases zw.mp hk with hk | hk
 ·exact d hk
 ·rw[<-i.xh]at hk;exact QF i.own f j hk
theorem eE.held {o:Rt.Out} {R:Nat} {rv:Value} (d:jz w M B ty tail S m X) (h:Below w.heap.size w w1) (k:w1.heap[R]?=some (.cells #[v0,v1,v2] 157 (0,0))) (f:w.heap.size<=R) (j:Z8 M B ty tail S X X' o.m w1 w4) (i:w4.ownsRow w1.heap.size 162 5 rv o.YU.length (xE o.YU)):w4.heap[R]?=some (.cells #[v0,v1,v2] 157 (0,0))/\∀a b c,eE M B ty tail S X o w (.returned (.agg #[.int .i64 o.fin,.int .i64 o.next,rv])) (W3 w4 R a b c):=by
 have y:=zQ d.block;have x:=Z8.keeps (d.zP h) j k (by omega) (by decide);refine⟨x,fun a b c=>⟨rv,X',rfl,(Z8.from d h j).three x f (by unfold Xe;decide) a b c,?_⟩⟩;refine yP (yn i h.size) (fun g hg=>?_);have:=(i.lt g hg).1;have:=zQ k;exact iF (by omega)
def Gu (M B:Nat) (ty:TypeId) (tail:List Value) (S:Rt.Src) (X:ZK) (m:Rt.Mc) (w:World) (e:Ending) (w':World):Prop:=
 ∃rv X',e=.returned rv/\Z8 M B ty tail S X X' (Rt.qd S m).1 w w'/\w'.ownsRow w.heap.size 162 5 rv (Rt.qd S m).2.length (xE (Rt.qd S m).2)
theorem iZ (S:Rt.Src) (m:Rt.Mc) (f:Rt.qS) (h:(Rt.perform S m f).fin≠0):(Rt.perform S m f).m=m:=by
 unfold Rt.perform at h ⊢;simp only at h ⊢
 repeat' split at h
 all_goals first | rfl | exact absurd rfl h | skip
 all_goals simp_all [Rt.ended]
theorem Vf {x:Int}:-9223372036854775808<=wrap64 x/\wrap64 x<=9223372036854775807:=by unfold wrap64;omega
theorem iW (S:Rt.Src) (m:Rt.Mc) (f:Rt.qS):-9223372036854775808<=(Rt.perform S m f).next/\(Rt.perform S m f).next<=9223372036854775807:=by
 have d:(-9223372036854775808:Int)<=0/\(0:Int)<=9223372036854775807:=by omega
 unfold Rt.perform;simp only
 repeat' split
 all_goals first | exact d | exact Vf | skip
 all_goals
  unfold Rt.ky;split
  all_goals exact Vf
theorem lH (n:Nat) (w:World) (B:Nat) (cs:Array Value) (f:B<=w.heap.size) (d:cs.size=n*5) (h:n<=1000):(w.alloc (.cells cs 162)).ownsRow B 162 5 (.slice (some ⟨w.heap.size,0,none⟩) n n) n cs.toList:=by
 refine⟨by simp[d],Or.inr ⟨w.heap.size,n,cs,rfl,f,zN w _,zB _,by unfold maxLen;omega,d,?_⟩⟩;exact yw (by simp[d])
theorem cutL {Goal:Prop} {F:Nat->Option Addr->Option Addr->Option Addr->Option Addr->Nat->Nat->Nat->Nat->World->Prop} {R:Code} {post:Exit->Act->World->Prop} {fr:Nat->Option Addr->Option Addr->Option Addr->Option Addr->Nat->Nat->Nat->Nat->Act} (d:(∀O a0 a1 a2 a3 c0 c1 c2 c3 wy,F O a0 a1 a2 a3 c0 c1 c2 c3 wy->Code.wp Tryz.prog R post (fr O a0 a1 a2 a3 c0 c1 c2 c3) wy)->Goal) (f:∀O a0 a1 a2 a3 c0 c1 c2 c3 wy,F O a0 a1 a2 a3 c0 c1 c2 c3 wy->Code.wp Tryz.prog R post (fr O a0 a1 a2 a3 c0 c1 c2 c3) wy):Goal:=d f
structure iH (B:Nat) (fm:Rt.qS) (w:World) (O:Nat) (a1 a2 a3:Option Addr) (c1 c2 c3:Nat) (wy:World):Prop where
 below:Below w.heap.size w wy
 form:wy.heap[O]?=some (.cells (Qd fm a1 a2 a3 c1 c2 c3) 143 (0,0))
 fv:qk wy B (Qd fm a1 a2 a3 c1 c2 c3) fm
 le:w.heap.size<=O
theorem iH.one (f:Below w.heap.size w w1) (h:qk w1 B (Qd fm a1 a2 a3 c1 c2 c3) fm):iH B fm w w1.heap.size a1 a2 a3 c1 c2 c3 (w1.alloc (.cells (Qd fm a1 a2 a3 c1 c2 c3) 143)):=by
 have d:=(zI w1.heap.size w1).alloc (zB _) (.cells (Qd fm a1 a2 a3 c1 c2 c3) 143);exact⟨f.trans (d.mono (B':=w.heap.size) f.size),zN _ _,ZY h d,f.size⟩
theorem iH.two {v3 v4 v5:Value} (i:Below w.heap.size w w1) (f:w1.heap[O]?=some (.cells #[v0,v1,v2,v3,v4,v5] 143 (0,0))) (h:qk w1 B (Qd fm a1 a2 a3 c1 c2 c3) fm) (d:w.heap.size<=O):iH B fm w O a1 a2 a3 c1 c2 c3 (W6 w1 O (.int .i64 fm.kind) (.string fm.name) (.int .i64 fm.cells) (.slice a1 fm.params.length c1) (.slice a2 fm.index.length c2) (.slice a3 fm.values.length c3)):=by
 refine⟨YI i d _ _ _ _ _ _,?_,?_,d⟩
 ·have:=zf (zf (zf (zf (zf (zf f 0 (.int .i64 fm.kind)) 1 (.string fm.name)) 2 (.int .i64 fm.cells)) 3 (.slice a1 fm.params.length c1)) 4 (.slice a2 fm.index.length c2)) 5 (.slice a3 fm.values.length c3);simpa using this
 ·exact Vc h f _ _ _ _ _ _
theorem En {P:Nat} {zL:List Rt.PL} {lk:Qw} {lv:Value} {cs:List (List Value)} (h:vu w P B zL lk lv cs) (d:zL.length<=101) (f:mX zL lk):Calls Tryz.prog 88 #[.pointer (some ⟨P,0,none⟩)] w fun e w'=>e=.returned (.int .i64 (Rt.goOn zL lk 102 (wrap64 (Rt.xb zL Rt.xP+1))))/\Below w.heap.size w w':=by
 go_enter func88,ntmps88;go_wp2_with fail;refine(XE Rt.xP h d).mono ?_;rintro e w1 ⟨rfl,rfl⟩;go_wp2_with fail;refine(pW _ h d f (Vf)).mono ?_;rintro e w2 ⟨rfl,i⟩;have j:=zD i;clear i h;go_wp2;go_ret;exact⟨rfl,j.u⟩
theorem wG (fm:Rt.qS) (V U T:Option Addr) (R c2 c3:Nat) (hc:fm.cells<=1000):Calls Tryz.prog 144 #[.agg (Qd fm V U T R c2 c3)] w fun e w'=>Below w.heap.size w w'/\∃rv,e=.returned rv/\w'.ownsRow w.heap.size 3 1 rv (Rt.ji fm).length (xR (Rt.ji fm)):=by
 obtain⟨O,G,F,D,A⟩:=yi XL;obtain⟨n,z⟩:∃n:Int,n=if fm.kind=1 then 1 else fm.cells:=⟨_,rfl⟩
 have W:=zD (show Rt.ji fm=List.replicate n.toNat 0 by rw[z];unfold Rt.ji;split <;> rfl);have a0:n<=1000:=by rw[z];split <;> omega
 have hb0:=(zI w.heap.size w).alloc (zB _) (.cells (Qd fm V U T R c2 c3) 143);generalize Rt.ji fm=zs at *;by_cases hk:fm.kind=1
 ·have L:(fm.kind==1)=true:=by simpa using hk
  rw[zE hk]at z;subst z;clear hk;go_enter func144,ntmps144;go_wp2_with fail;go_loopw [4,5] (fun v i wr=>∃k:Nat,(k:Int)<=max (1:Int) 0/\i=.int .i64 k/\wr.ownsRow w.heap.size 3 1 v k (xR (List.replicate k 0))/\Below w.heap.size w wr)
   (fun _ i _=>(1:Int).toNat+1-(intOf i).toNat)
  case atStart=>exact⟨0,by omega,rfl,zW _ _ _ _,hb0⟩
  case round=>
   obtain⟨k,hk,rfl,d,j⟩:=hrel;have y:=j.size;obtain⟨M,H,rfl⟩:=zK d;clear hb0;by_cases hlt:(k:Int) < (1:Int)
   ·go_wp2_with (at_builtin;refine xQ _ rfl _ _ 24 rfl w.heap.size 3 O _ 1 8 underlying24 G F D A rfl (by decide) _ _ _ rfl (d.alloc _) ⟨_,0,none⟩ 1 1 [.int .i64 0] rfl rfl (cell_one_new _ _ _) ?c2 ?c3 ?c4 ?c5 ?_)
    case c2=>intro u hu;simp at hu;rcases hu with rfl;rfl
    case c3=>unfold maxLen;omega
    case c4=>omega
    case c5=>simp;omega
    intro v' Z f h _;have o:=qY j y d h;have x:=qG f o;clear f o h d j;go_wp2_with fail;go_roundw
    case rel=>
     obtain⟨J,I⟩:=x.u;exact⟨k+1,by omega,by go_num,by rw[List.replicate_succ',xR,yB];exact J,I⟩
    case measure=>simp[intOf];omega
   ·have N:Hd (zs=List.replicate k 0):=zD (by rw[W.u];congr 1;omega);have x:=qG d j;clear d j;go_wp2;go_ret;exact⟨x.u.2,_,rfl,by rw[N.u,qN];exact x.u.1⟩
 ·have L:(fm.kind==1)=false:=by simpa using hk
  rw[zA hk]at z;subst z;clear hk;go_enter func144,ntmps144;go_wp2_with fail;go_loopw [4,5] (fun v i wr=>∃k:Nat,(k:Int)<=max fm.cells 0/\i=.int .i64 k/\wr.ownsRow w.heap.size 3 1 v k (xR (List.replicate k 0))/\Below w.heap.size w wr)
   (fun _ i _=>fm.cells.toNat+1-(intOf i).toNat)
  case atStart=>exact⟨0,by omega,rfl,zW _ _ _ _,hb0⟩
  case round=>
   obtain⟨k,hk,rfl,d,j⟩:=hrel;have y:=j.size;obtain⟨M,H,rfl⟩:=zK d;clear hb0;by_cases hlt:(k:Int) < fm.cells
   ·go_wp2_with (at_builtin;refine xQ _ rfl _ _ 24 rfl w.heap.size 3 O _ 1 8 underlying24 G F D A rfl (by decide) _ _ _ rfl (d.alloc _) ⟨_,0,none⟩ 1 1 [.int .i64 0] rfl rfl (cell_one_new _ _ _) ?c2 ?c3 ?c4 ?c5 ?_)
    case c2=>intro u hu;simp at hu;rcases hu with rfl;rfl
    case c3=>unfold maxLen;omega
    case c4=>omega
    case c5=>simp;omega
    intro v' Z f h _;have o:=qY j y d h;have x:=qG f o;clear f o h d j;go_wp2_with fail;go_roundw
    case rel=>
     obtain⟨J,I⟩:=x.u;exact⟨k+1,by omega,by go_num,by rw[List.replicate_succ',xR,yB];exact J,I⟩
    case measure=>simp[intOf];omega
   ·have N:Hd (zs=List.replicate k 0):=zD (by rw[W.u];congr 1;omega);have x:=qG d j;clear d j;go_wp2;go_ret;exact⟨x.u.2,_,rfl,by rw[N.u,qN];exact x.u.1⟩
end
end Go.Proofs.YthleadfkfnnadaaGreat
