/- The names of a program: calls, parameters. -/
import Derived.Test.YthleadfkfnnadaaGreatNames1
set_option maxHeartbeats 4000000
set_option maxRecDepth 100000
set_option linter.unusedSimpArgs false
namespace Go.Proofs.YthleadfkfnnadaaGreat
open Rt Go.Proofs.Tryz
open Go.RowKit
variable {b:Bool} {cs:List (List Value)} {zL:List Rt.PL} {B cap k P c1:Nat} {ad a1:Option Addr} {lv:Value} {w:World}
theorem VP:∀(ts:List qM) (i:Nat) (h:i < ts.length),(xX ts)[i*3]?=some (.int .i64 ts[i].code)/\(xX ts)[i*3+1]?=some (.int .i64 ts[i].number)/\(xX ts)[i*3+2]?=some (.string ts[i].name)
 | [],i,h=>by simp at h
 | t::r,0,_=>by simp[xX,aN]
 | t::r,i+1,h=>by
  have d:=VP r i (by simpa using h);have e:xX (t::r)=[Value.int .i64 t.code,Value.int .i64 t.number,Value.string t.name]++xX r:=by simp[xX,aN]
  have f:(i+1)*3=i*3+3:=by omega
  rw[e,f];simpa using d
theorem lO {ops:List qM} (h:w.ownsRow B 236 3 (.slice ad ops.length cap) ops.length (xX ops)) (y:k < ops.length):∃g,ad=some ⟨g,0,none⟩/\w.cell? ⟨g,k*3,none⟩=some (.int .i64 ops[k].code)/\w.cell? ⟨g,k*3+1,none⟩=some (.int .i64 ops[k].number)/\w.cell? ⟨g,k*3+2,none⟩=some (.string ops[k].name):=by
 obtain⟨D,A,z⟩:=VP ops k y;obtain⟨g,c,i,_,_,x⟩:=yD h D;obtain⟨g1,H,f,_,_,o⟩:=yD h A;obtain⟨F,G,d,_,_,j⟩:=yD h z;simp at i f d;rw[i.1]at f d;simp at f d;refine⟨g,i.1,x,?_,?_⟩
 ·rw[f.1];exact o
 ·rw[d.1];exact j
theorem FA {ops:List qM} {f:qM->Bool} (h:(ops.drop k).all f=b) (d:¬k < ops.length):b=true:=by
 rw[zp (by omega)]at h;exact h.symm
theorem GJ {ops:List qM} {f:qM->Bool} (h:(ops.drop k).all f=b) (d:k < ops.length) (i:f ops[k]=false):b=false:=by
 rw[zZ d,kY,i]at h;exact h.symm
theorem E9 {ops:List qM} {f:qM->Bool} (h:(ops.drop k).all f=b) (d:k < ops.length) (i:f ops[k]=true):(ops.drop (k+1)).all f=b:=by
 rw[zZ d,kY,i]at h;exact h
theorem QZ (n:Int) {ops:List qM} (h:qH w P zL lv cs) (I:zL.length<=101) (H:(Rt.yA zL n).params.length<=1000) (J:w.ownsRow (P+1) 236 3 (.slice ad ops.length cap) ops.length (xX ops)) (a2:ops.length<=1000):Calls Tryz.prog 202 #[.pointer (some ⟨P,0,none⟩),.int .i64 n,.agg #[.slice ad ops.length cap]] w fun e w'=>e=.returned (.bool (Rt.XP zL n ops))/\Below w.heap.size w w':=by
 have hb0:=(zI w.heap.size w).alloc (zB _) (.cells #[.slice ad ops.length cap] 140);have hE0:=zN w (.cells #[.slice ad ops.length cap] 140);have h0:=h.zP hb0;have hx0:=yG J hb0;clear h J;go_enter func202,ntmps202;go_wp2_with fail;go_loopw [7,8] (fun i _ wr=>∃k:Nat,k<=ops.length/\i=.int .i64 k/\(ops.drop k).all (CS zL n)=Rt.XP zL n ops/\qH wr P zL lv cs/\wr.heap[w.heap.size]?=some (.cells #[.slice ad ops.length cap] 140 (0,0))/\
   wr.ownsRow (P+1) 236 3 (.slice ad ops.length cap) ops.length (xX ops)/\Below w.heap.size w wr)
  (fun i _ _=>ops.length-(intOf i).toNat)
 case atStart=>exact⟨0,zo _,rfl,rfl,h0,hE0,hx0,hb0⟩
 case round=>
  clear h0 hE0 hx0 hb0;obtain⟨k,hk,rfl,hT,L,W,J,F⟩:=hrel;have HT:=zD hT;clear hT;have cE:=zC W 0 (by simp);simp at cE;have a0:=F.size;have a3:=zQ W;by_cases hlt:k < ops.length
  ·obtain⟨g,rfl,o0,o1,o2⟩:=lO J hlt;have V:(k:Int) < (ops.length:Int):=by omega
   have y:=(zI wr.heap.size wr).alloc (zB _) (.cells #[.int .i64 ops[k].code,.int .i64 ops[k].number,.string ops[k].name] 236);have f:=L.zP y;have z:=zU W y;have x:=yG J y;have j:=F.trans (y.mono (B':=w.heap.size) a0);have D:=zN wr (.cells #[.int .i64 ops[k].code,.int .i64 ops[k].number,.string ops[k].name] 236);have HN:=zD (GJ HT.u hlt);have HY:=zD (E9 HT.u hlt);have HF:=zD (show CS zL n ops[k]=(if ops[k].code=2 then Rt.isVar zL n ops[k].name else if ops[k].code=3 then ZW zL n ops[k].name else true)from rfl);clear L W J F;generalize ops[k]=o at *;by_cases h2:o.code=2
   ·have a1:(o.code==2)=true:=by simpa using h2
    have Z:(o.code==3)=false:=by rw[h2];rfl
    have A:=zD (HF.u.trans (zE h2));clear h2;go_wp2_with fail;refine(QS _ o.name f I H).mono ?_;rintro e w2 ⟨rfl,d⟩;have M:=zU D d;have c0:=zC M 0 (by simp);simp at c0;cases hv:Rt.isVar zL n o.name with
    | true=>
     have G:=DA (HY.u (A.u.trans hv)) (f.zP d) (zU z d) (yG x d) (j.trans (d.mono (B':=w.heap.size) (by have:=y.size;omega)));clear f z x j D M d hv;go_wp2_with fail;go_roundw
     case rel=>
      obtain⟨U,T,R,O,N⟩:=G.u;exact⟨k+1,by omega,by go_num,U,T,R,O,N⟩
     case measure=>simp[intOf];omega
    | false=>
     have G:=qG (HN.u (A.u.trans hv)) (j.trans (d.mono (B':=w.heap.size) (by have:=y.size;omega)));clear f z x j D M d hv;go_wp2;go_ret;exact⟨by rw[G.u.1];rfl,G.u.2⟩
   have a1:(o.code==2)=false:=by simpa using h2
   by_cases h3:o.code=3
   ·have Z:(o.code==3)=true:=by simpa using h3
    have A:=zD (HF.u.trans ((zA h2).trans (zE h3)));clear h2 h3;go_wp2_with fail;refine(dm _ o.name f I H).mono ?_;rintro e w2 ⟨rfl,d⟩;cases hv:ZW zL n o.name with
    | true=>
     have G:=DA (HY.u (A.u.trans hv)) (f.zP d) (zU z d) (yG x d) (j.trans (d.mono (B':=w.heap.size) (by have:=y.size;omega)));clear f z x j D d hv;go_wp2_with fail;go_roundw
     case rel=>
      obtain⟨U,T,R,O,N⟩:=G.u;exact⟨k+1,by omega,by go_num,U,T,R,O,N⟩
     case measure=>simp[intOf];omega
    | false=>
     have G:=qG (HN.u (A.u.trans hv)) (j.trans (d.mono (B':=w.heap.size) (by have:=y.size;omega)));clear f z x j D d hv;go_wp2;go_ret;exact⟨by rw[G.u.1];rfl,G.u.2⟩
   ·have Z:(o.code==3)=false:=by simpa using h3
    have A:=zD (HF.u.trans ((zA h2).trans (zA h3)));clear h2 h3;have G:=DA (HY.u A.u) f z x j;clear f z x j D;go_wp2_with fail;go_roundw
    case rel=>
     obtain⟨U,T,R,O,N⟩:=G.u;exact⟨k+1,by omega,by go_num,U,T,R,O,N⟩
    case measure=>simp[intOf];omega
  ·have HE:=zD (FA HT.u hlt);have V:¬(k:Int) < (ops.length:Int):=by omega
   have HB:=zD F;clear L W J F;go_wp2;go_ret;exact⟨by rw[HE.u];rfl,HB.u⟩
section
attribute [local go_sem ↓] Go.wp_at_zero Go.wp_at_succ
theorem qi.get {w:World} {B:Nat}:∀(vs:List Value) (os:List (List qM)) (i:Nat) (h:i < os.length),qi w B vs os->∃x,vs[i]?=some x/\w.ownsRow B 236 3 x os[i].length (xX os[i])
 | x::_,o::_,0,_,⟨h1,_⟩=>⟨x,rfl,h1⟩
 | _::xs,_::os,i+1,h,⟨_,h2⟩=>by
  obtain⟨y,d,f⟩:=qi.get xs os i (by simpa using h) h2;exact⟨y,by simpa using d,f⟩
 | [],_::_,_,_,h=>h.elim
 | _,[],_,h,_=>by simp at h
theorem Bn {os:List (List qM)} {f:List qM->Bool} (h:(os.drop k).all f=b) (d:¬k < os.length):b=true:=by
 rw[zp (by omega)]at h;exact h.symm
theorem D0 {os:List (List qM)} {f:List qM->Bool} (h:(os.drop k).all f=b) (d:k < os.length) (i:f os[k]=false):b=false:=by
 rw[zZ d,kY,i]at h;exact h.symm
theorem Bm {os:List (List qM)} {f:List qM->Bool} (h:(os.drop k).all f=b) (d:k < os.length) (i:f os[k]=true):(os.drop (k+1)).all f=b:=by
 rw[zZ d,kY,i]at h;exact h
theorem kj {pl:Rt.PL} {a2 a3:Option Addr} (a0:Option Addr) {c2 c3:Nat} (Z:Nat) (U T:Int) (h:qH w P zL lv cs) (A:zL.length<=101) (z:(Rt.yA zL pl.proc).params.length<=1000) (F:Rt.Small pl.form) (hf:qk w (P+1) #[.int .i64 pl.form.kind,.string pl.form.name,.int .i64 pl.form.cells,.slice a1 pl.form.params.length c1,.slice a2 pl.form.index.length c2,.slice a3 pl.form.values.length c3] pl.form):Calls Tryz.prog 173 #[.pointer (some ⟨P,0,none⟩),.agg #[.slice a0 pl.yY.length Z,.int .i64 pl.form.kind,.string pl.form.name,.int .i64 pl.form.cells,.slice a1 pl.form.params.length c1,.slice a2 pl.form.index.length c2,.slice a3 pl.form.values.length c3,.int .i64 pl.depth,.int .i64 pl.opener,.int .i64 U,.int .i64 T,.int .i64 pl.proc]] w fun e w'=>
   e=.returned (.bool (Rt.jF zL pl))/\Below w.heap.size w w':=by
 have j:=(zI w.heap.size w).alloc (zB _) (.cells #[.slice a0 pl.yY.length Z,.int .i64 pl.form.kind,.string pl.form.name,.int .i64 pl.form.cells,.slice a1 pl.form.params.length c1,.slice a2 pl.form.index.length c2,.slice a3 pl.form.values.length c3,.int .i64 pl.depth,.int .i64 pl.opener,.int .i64 U,.int .i64 T,.int .i64 pl.proc] 145);have I:=zN w (.cells #[.slice a0 pl.yY.length Z,.int .i64 pl.form.kind,.string pl.form.name,.int .i64 pl.form.cells,.slice a1 pl.form.params.length c1,.slice a2 pl.form.index.length c2,.slice a3 pl.form.values.length c3,.int .i64 pl.depth,.int .i64 pl.opener,.int .i64 U,.int .i64 T,.int .i64 pl.proc] 145);have W:=h.zP j;have a5:=(xZ (B:=P+1) j).form hf;obtain⟨pv,iv,vv,vs,N,b1,b2,b3,b4⟩:=a5;simp at N;obtain⟨rfl,rfl,rfl⟩:=N;clear h hf;go_enter func173,ntmps173;go_wp2_with fail;refine(QZ pl.proc W A z b2 (zi F.index (by omega))).mono ?_;rintro e w1 ⟨rfl,f⟩;cases hv:Rt.XP zL pl.proc pl.form.index with
 | false=>
  have HE:=zD (show Rt.jF zL pl=false by simp[Rt.jF,hv]);have HB:=zD (j.trans (f.mono (B':=w.heap.size) (by simp)));clear W I j f b1 b2 b3 b4 hv;go_wp2;go_ret;exact⟨by rw[HE.u];rfl,HB.u⟩
 | true=>
  have hI:pl.form.values.all (Rt.XP zL pl.proc)=Rt.jF zL pl:=by simp[Rt.jF,hv]
  have h1:=W.zP f;have hL1:=zU I f;have b31:=yG b3 f;have b41:=(xZ (B:=P+1) f).exprs _ _ b4;have hbe1:=j.trans (f.mono (B':=w.heap.size) (by simp));clear W I j f b1 b2 b3 b4 hv;go_wp2_with fail;go_loopw [5] (fun i wr=>∃k:Nat,k<=pl.form.values.length/\i=.int .i64 k/\(pl.form.values.drop k).all (Rt.XP zL pl.proc)=Rt.jF zL pl/\qH wr P zL lv cs/\
    wr.heap[w.heap.size]?=some (.cells #[.slice a0 pl.yY.length Z,.int .i64 pl.form.kind,.string pl.form.name,.int .i64 pl.form.cells,.slice a1 pl.form.params.length c1,.slice a2 pl.form.index.length c2,.slice a3 pl.form.values.length c3,.int .i64 pl.depth,.int .i64 pl.opener,.int .i64 U,.int .i64 T,.int .i64 pl.proc] 145 (0,0))/\
    wr.ownsRow (P+1) 140 1 (.slice a3 pl.form.values.length c3) pl.form.values.length vs/\qi wr (P+1) vs pl.form.values/\Below w.heap.size w wr)
   (fun i _=>pl.form.values.length-(intOf i).toNat)
  case atStart=>exact⟨0,zo _,rfl,hI,h1,hL1,b31,b41,hbe1⟩
  case round=>
   clear h1 hL1 b31 b41 hbe1 hI;obtain⟨k,hk,rfl,hT,G,O,x,y,o⟩:=hrel;have HT:=zD hT;clear hT;have L:=o.size;obtain⟨l0,l1,l2,l3,l4,l5,l6,l7,l8,l9,b5,b0⟩:=Yn O;have a6:=F.values;by_cases hlt:k < pl.form.values.length
   ·have M:(k:Int) < (pl.form.values.length:Int):=by omega
    have b6:(0:Int)<=(k:Int):=by omega
    obtain⟨xv,J,D⟩:=qi.get _ _ k hlt y;obtain⟨b7,a9,rfl⟩:=zK D;obtain⟨g,cap',hg,_,a7,cx⟩:=yD x J;simp at hg;obtain⟨rfl,rfl⟩:=hg;have a8:=zQ O;have a4:pl.form.values[k].length<=1000:=zi (F.each _ (zj hlt)) (by omega);have HN:=zD (D0 HT.u hlt);have HY:=zD (Bm HT.u hlt);have R:=GW G O x y o D;clear G O x y o D J;generalize pl.form.values[k]=ov at *;go_wp2_with fail;go_region_with
     ((go_at_call 202;refine(QZ pl.proc (by exact R.u.1.zP (zh _)) A z (by exact yG R.u.2.2.2.2.2 (zh _)) a4).mono ?_;rintro e w2 ⟨rfl,H⟩))
    all_goals
     obtain⟨q1,q2,q3,q4,V,_⟩:=R.u;have d:=yh H;cases hv:Rt.XP zL pl.proc ov with
     | true=>
      have HG:=GW (HY.u hv) (q1.zP d) (zU q2 d) (yG q3 d) ((xZ (B:=P+1) d).exprs _ _ q4) (V.trans (d.mono (B':=w.heap.size) L));clear q1 q2 q3 q4 V H d hv R;go_wp2_with fail;go_roundw
      case rel=>
       obtain⟨r1,r2,r3,r4,r5,r6⟩:=HG.u;exact⟨k+1,by omega,by go_num,r1,r2,r3,r4,r5,r6⟩
      case measure=>simp[intOf];omega
     | false=>
      have HG:=qG (HN.u hv) (V.trans (d.mono (B':=w.heap.size) L));clear q1 q2 q3 q4 V H d hv R;go_wp2;go_ret;exact⟨by rw[HG.u.1];rfl,HG.u.2⟩
   ·have HE:=zD (Bn HT.u hlt);have M:¬(k:Int) < (pl.form.values.length:Int):=by omega
    have HB:=zD o;clear G O x y o;go_wp2;go_ret;exact⟨by rw[HE.u];rfl,HB.u⟩
end
theorem nb (d:Rt.qS) (N M L:Option Addr) (G F D:Nat) (h:qH w P zL lv cs) (o:zL.length<=101):Calls Tryz.prog 172 #[.pointer (some ⟨P,0,none⟩),.agg #[.int .i64 d.kind,.string d.name,.int .i64 d.cells,.slice N d.params.length G,.slice M d.index.length F,.slice L d.values.length D]] w fun e w'=>e=.returned (.bool (Rt.XF zL d))/\Below w.heap.size w w':=by
 have i:=(zI w.heap.size w).alloc (zB _) (.cells #[.int .i64 d.kind,.string d.name,.int .i64 d.cells,.slice N d.params.length G,.slice M d.index.length F,.slice L d.values.length D] 143);have j:=zN w (.cells #[.int .i64 d.kind,.string d.name,.int .i64 d.cells,.slice N d.params.length G,.slice M d.index.length F,.slice L d.values.length D] 143);have R:=h.zP i;clear h;go_enter func172,ntmps172;go_wp2_with fail;refine(Xq d.name R o).mono ?_;rintro e w2 ⟨fv,rfl,⟨pv,iv,vv,Z,rfl,V,U,T,_⟩,f⟩;obtain⟨J,cap1,rfl⟩:=zK V;obtain⟨I,y,rfl⟩:=zK U;obtain⟨H,x,rfl⟩:=zK T;obtain⟨_,_,_,_,_,W,_,_,_,_,_,_⟩:=YD (zU j f);have hz:=zQ (zU j f);have O:=zD ((i.trans (f.mono (B':=w.heap.size) (by simp))).alloc (by omega) (.cells #[.int .i64 (Rt.yJ zL d.name).kind,.string (Rt.yJ zL d.name).name,.int .i64 (Rt.yJ zL d.name).cells,.slice J (Rt.yJ zL d.name).params.length cap1,.slice I (Rt.yJ zL d.name).index.length y,.slice H (Rt.yJ zL d.name).values.length x] 143));have z:=zD (show Rt.XF zL d=(decide ((Rt.yJ zL d.name).kind=3) && decide ((Rt.yJ zL d.name).params.length=d.values.length))from rfl);clear R i j f V U T;generalize (Rt.yJ zL d.name)=df at *;by_cases hk:df.kind=3
 ·have A:(df.kind==3)=true:=by simpa using hk
  rw[hk]at O;have k:=zD (z.u.trans (by rw[hk];rfl:_=decide (df.params.length=d.values.length)));clear z;go_wp2;go_ret;refine⟨?_,?_⟩
  ·rw[k.u];refine yj ?_;rw[xO];simp;omega
  ·have:=O.u
   first | exact this | (rw[hk];exact this)
 ·have A:(df.kind==3)=false:=by simpa using hk
  have k:=zD (z.u.trans (by simp[hk]:_=false));clear z hk;go_wp2;go_ret;exact⟨by rw[k.u];rfl,O.u⟩
theorem kT (w:World) {q:Nat}:Below B w (w.drewN q):=⟨rfl,rfl,rfl,zB _,fun _ _=>rfl⟩
theorem ig {fm:Rt.qS} (M L:Option Addr) (J I:Nat) (z:w.ownsRow B 9 1 (.slice a1 fm.params.length c1) fm.params.length (fm.params.map Value.string)) (a5:fm.params.length<=1000):Calls Tryz.prog 171 #[.agg #[.int .i64 fm.kind,.string fm.name,.int .i64 fm.cells,.slice a1 fm.params.length c1,.slice M fm.index.length J,.slice L fm.values.length I]] w fun e w'=>e=.returned (.bool (Rt.QJ fm))/\Below w.heap.size w w':=by
 have hb0:=(zI w.heap.size w).alloc (zB _) (.cells #[.int .i64 fm.kind,.string fm.name,.int .i64 fm.cells,.slice a1 fm.params.length c1,.slice M fm.index.length J,.slice L fm.values.length I] 143);have hN0:=zN w (.cells #[.int .i64 fm.kind,.string fm.name,.int .i64 fm.cells,.slice a1 fm.params.length c1,.slice M fm.index.length J,.slice L fm.values.length I] 143);have hp0:=yG z hb0;by_cases hm:(fm.name.toList==Rt.QN)=true/\0 < fm.params.length
 ·obtain⟨hm1,hm2⟩:=hm;have O:Hd (Rt.QJ fm=false):=zD (by simp[Rt.QJ,hm1,hm2]);unfold Rt.QN at hm1;have a0:(0:Int) < (fm.params.length:Int):=by omega
  have HB:=zD hb0;clear hb0 hN0 hp0 z;go_enter func171,ntmps171;go_wp2;go_ret;exact⟨by rw[O.u];rfl,HB.u⟩
 ·have O:Hd (∀b:Prop,(Rt.bh fm.params fm.params.length↔b)->[Decidable b]->Rt.QJ fm=decide b):=by
   refine zD ?_;intro b hb _;have h1:((fm.name.toList==Rt.QN) && decide (0 < fm.params.length))=false:=by
    rw[yL];intro e;simp at e;exact hm ⟨by simpa using e.1,by omega⟩
   rw[Rt.QJ,h1];simp[hb]
  have W:=zD (O.u True);have Z:=zD (O.u False);clear O;have hcase:(fm.name.toList==[109,97,105,110])=true/\¬(0:Int) < (fm.params.length:Int)\/(fm.name.toList==[109,97,105,110])=false:=by
   cases e:(fm.name.toList==[109,97,105,110])with
   | true=>exact Or.inl ⟨rfl,by have:¬0 < fm.params.length:=fun x=>hm ⟨e,x⟩;omega⟩
   | false=>exact Or.inr rfl
  clear hm z;have a4:=zQ hN0;rcases hcase with⟨hm1,hm2⟩| hm1
  all_goals
   go_enter func171,ntmps171;go_wp2_with fail;go_loopw [3,4] (fun i _ wr=>∃k:Nat,k<=fm.params.length/\i=.int .i64 k/\Rt.bh fm.params k/\wr.heap[w.heap.size]?=some (.cells #[.int .i64 fm.kind,.string fm.name,.int .i64 fm.cells,.slice a1 fm.params.length c1,.slice M fm.index.length J,.slice L fm.values.length I] 143 (0,0))/\
     wr.ownsRow B 9 1 (.slice a1 fm.params.length c1) fm.params.length (fm.params.map Value.string)/\Below w.heap.size w wr)
    (fun i _ _=>fm.params.length-(intOf i).toNat)
   case atStart=>exact⟨0,zo _,rfl,fun i j h1 h2=>by omega,hN0,hp0,hb0⟩
   case round=>
    clear hN0 hp0 hb0;obtain⟨k,hk,rfl,hT,R,z,y⟩:=hrel;have HT:=zD hT;clear hT;obtain⟨_,_,_,x3,_,_,_,_,_,_,_,_⟩:=YD R;by_cases hlt:k < fm.params.length
    ·try (exfalso;omega)
     all_goals
      have F:(k:Int) < (fm.params.length:Int):=by omega
      have HH:=XX R z y;clear R z y;go_wp2_with fail;go_loopw [4] (fun j wr2=>∃m:Nat,m<=k/\j=.int .i64 m/\(∀j,j < m->¬fm.params[k]?=fm.params[j]?)/\wr2.heap[w.heap.size]?=some (.cells #[.int .i64 fm.kind,.string fm.name,.int .i64 fm.cells,.slice a1 fm.params.length c1,.slice M fm.index.length J,.slice L fm.values.length I] 143 (0,0))/\
        wr2.ownsRow B 9 1 (.slice a1 fm.params.length c1) fm.params.length (fm.params.map Value.string)/\Below w.heap.size w wr2)
       (fun j _=>k-(intOf j).toNat)
      case atStart=>exact⟨0,zo _,rfl,fun j h=>by omega,HH.u.1,HH.u.2.1,HH.u.2.2⟩
      case round=>
       clear HH;obtain⟨m,hm,rfl,H,o,f,d⟩:=hrel;have N:=zD H;clear H;obtain⟨_,_,_,y3,_,_,_,_,_,_,_,_⟩:=YD o;by_cases hlt2:m < k
       ·have A:(m:Int) < (k:Int):=by omega
        obtain⟨g,cap',hg,_,_,ck⟩:=yD f (j:=k) (u:=.string fm.params[k]) (by simp[hlt]);obtain⟨g',U,D,_,_,cm⟩:=yD f (j:=m) (u:=.string (fm.params[m]'(by omega))) (by rw[yt,zJ (by omega)];rfl);simp at hg D;obtain⟨rfl,rfl⟩:=hg;simp at D;obtain⟨rfl,rfl⟩:=D;have a7:(m:Int) < (fm.params.length:Int):=by omega
        have a8:(0:Int)<=(m:Int):=by omega
        have a9:(0:Int)<=(k:Int):=by omega
        have HH:=XX o f d;clear o f d;by_cases heq:fm.params[k]=fm.params[m]'(by omega)
        ·have G:=QB heq;have V:Hd (Rt.QJ fm=false):=by
          refine zD ?_;have:=Z.u ⟨fun h=>(h k m hlt2 hlt hlt (by rw[zJ hlt,zJ (by omega),heq])).elim,fun h=>h.elim⟩;simpa using this
         clear heq;go_wp2_with fail;go_quiet (fail);go_wp2;go_ret;exact⟨by rw[V.u];rfl,HH.u.2.2.trans (kT _)⟩
        ·have G:=KI heq;have HT3:Hd (∀j,j < m+1->¬fm.params[k]?=fm.params[j]?):=by
          refine zD ?_;intro j hj;by_cases e:j=m
          ·subst e;rw[zJ hlt,zJ (by omega)];simpa using heq
          ·exact N.u j (by omega)
         clear heq;go_wp2_with fail;go_quiet (fail);go_wp2_with fail;go_roundw
         case rel=>exact⟨m+1,by omega,by go_num,HT3.u,HH.u.1,HH.u.2.1,HH.u.2.2.trans (kT _)⟩
         case measure=>simp[intOf];omega
       ·have A:¬(m:Int) < (k:Int):=by omega
        have a6:m=k:=by omega
        have HT3:Hd (Rt.bh fm.params (k+1)):=by
         refine zD ?_;intro i j h1 h2 h3;by_cases e:i=k
         ·subst e;exact N.u j (by omega)
         ·exact HT.u i j h1 (by omega) h3
        have HH:=XX o f d;clear o f d;go_wp2_with fail;go_roundw
        case rel=>exact⟨k+1,by omega,by go_num,HT3.u,HH.u.1,HH.u.2.1,HH.u.2.2⟩
        case measure=>simp[intOf];omega
    ·have F:¬(k:Int) < (fm.params.length:Int):=by omega
     have T:k=fm.params.length:=by omega
     have V:Hd (Rt.QJ fm=true):=by
      refine zD ?_;have:=W.u ⟨fun _=>trivial,fun _=>by rw[<-T];exact HT.u⟩;simpa using this
     have HH:=zD y;clear R z y;go_wp2;go_ret;exact⟨by rw[V.u];rfl,HH.u⟩
end Go.Proofs.YthleadfkfnnadaaGreat
