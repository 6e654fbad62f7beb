/- The walk of parse.Line. -/
import Derived.Test.YthleadfkfnnadaaGreatFormsf
set_option maxHeartbeats 4000000
set_option maxRecDepth 100000
set_option linter.unusedSimpArgs false
namespace Go.Proofs.YthleadfkfnnadaaGreat
open Rt Go.Proofs.Tryz
open Go.RowKit
variable {v:Array Value} {ts:List Rt.Tk} {B B' N R n:Nat} {fm:Rt.qS} {tv:Value} {w w':World}
theorem vO (h:qk w B v fm) (G:N < B) (j:B'<=B) {a b c d e f:Value}:qk (W6 w N a b c d e f) B' v fm:=by
 obtain⟨y,iv,vv,k,rfl,F,D,A,z⟩:=h;have i:∀(t:TypeId) (size n:Nat) (v:Value) (xs:List Value),w.ownsRow B t size v n xs->(W6 w N a b c d e f).ownsRow B' t size v n xs:=fun t size n v xs h=>yn (ZU h (fun g hg=>by have:=(h.lt g hg).1;omega) _ _ _ _ _ _) j;refine⟨y,iv,vv,k,rfl,i _ _ _ _ _ F,i _ _ _ _ _ D,i _ _ _ _ _ A,?_⟩;exact V4 j _ _ (qi.map (fun x o h=>ZU h (fun g hg=>by have:=(h.lt g hg).1;omega) _ _ _ _ _ _) _ _ z)
theorem Cj (first:ByteArray) (F:kC w R tv ts n zg []) (h0:(first.toList==[118,97,114])=true):Calls Tryz.prog 169 #[.pointer (some ⟨R,0,none⟩),.string first] w (YQ (Rt.xY first) R tv ts n w):=by
 have G:R < w.heap.size:=zt w _ (zC F.block 0 (by simp));have HP:Hd (Rt.xY first (ts.drop n)=Rt.pNamed 1 (ts.drop n)):=by
  refine zD ?_;simp[Rt.xY,h0]
 go_enter func169,ntmps169;go_wp2_with fail;obtain⟨j,f⟩:=F.zP ((zI w.heap.size w).alloc (zB _) (.cells yo 143));have h:(w.alloc (.cells yo 143)).heap[w.heap.size]?=some (.cells yo 143 (0,0)):=zN w _;refine(lT 1 j).mono ?_;rintro e w1 (⟨k,n1,fv,x,rfl,y,z,d⟩| ⟨x,rfl,ov,d⟩)
 ·obtain⟨N,M,L,J,I,H,f0,f1,f2,f3,f4,f5⟩:=YD (d.qT h (by omega));have i:=z;obtain⟨pv,iv,vv,vs,rfl,b1,Z,W,_⟩:=z;obtain⟨U,cap1,rfl⟩:=zK b1;obtain⟨T,D,rfl⟩:=zK Z;obtain⟨O,A,rfl⟩:=zK W;have V:=zD (HP.u.trans x);have HV:=zD i;have HR:=zD y;have o:=zD (f.trans d);clear F j y f d x h i b1 Z W;go_wp2_with fail;refine zT (v:=.tuple #[.agg #[.int .i64 k.kind,.string k.name,.int .i64 k.cells,.slice U k.params.length cap1,.slice T k.index.length D,.slice O k.values.length A],.bool true]) ?_ rfl
   (Or.inl ⟨k,n1,_,V.u,rfl,HR.u.jM G _ _ _ _ _ _,vO HV.u (by simp) (by simp),o.u.jM (zB _) _ _ _ _ _ _⟩);simp[results,results169,go_sem,N,M,L,J,I,H]
 ·obtain⟨N,M,L,J,I,H,f0,f1,f2,f3,f4,f5⟩:=YD (d.qT h (by omega));have V:=zD (HP.u.trans x);have o:=zD (f.trans d);clear F j f d x h;go_wp2_with fail;refine zT (v:=.tuple #[.agg yo,.bool false]) ?_ rfl (Or.inr ⟨V.u,rfl,_,o.u.jM (zB _) _ _ _ _ _ _⟩);simp[results,results169,go_sem,N,M,L,J,I,H]
theorem tH (first:ByteArray) (G:kC w R tv ts n zg []) (x:∀t∈ts,t.text.size<=40000) (h0:(first.toList==[118,97,114])=false) (h1:(first.toList==[97,114,114,97,121])=true):Calls Tryz.prog 169 #[.pointer (some ⟨R,0,none⟩),.string first] w (YQ (Rt.xY first) R tv ts n w):=by
 have H:R < w.heap.size:=zt w _ (zC G.block 0 (by simp));have W:=zD x;clear x;have HP:Hd (Rt.xY first (ts.drop n)=Rt.pArray (ts.drop n)):=by
  refine zD ?_;simp[Rt.xY,h0,h1]
 go_enter func169,ntmps169;go_wp2_with fail;obtain⟨j,f⟩:=G.zP ((zI w.heap.size w).alloc (zB _) (.cells yo 143));have h:(w.alloc (.cells yo 143)).heap[w.heap.size]?=some (.cells yo 143 (0,0)):=zN w _;refine(BR j W.u).mono ?_;rintro e w1 (⟨k,n1,fv,y,rfl,z,A,d⟩| ⟨y,rfl,ov,d⟩)
 ·obtain⟨O,N,M,L,J,I,f0,f1,f2,f3,f4,f5⟩:=YD (d.qT h (by omega));have i:=A;obtain⟨pv,iv,vv,vs,rfl,b1,b2,b3,_⟩:=A;obtain⟨V,cap1,rfl⟩:=zK b1;obtain⟨U,F,rfl⟩:=zK b2;obtain⟨T,D,rfl⟩:=zK b3;have Z:=zD (HP.u.trans y);have HV:=zD i;have HR:=zD z;have o:=zD (f.trans d);clear G j z f d y h i b1 b2 b3;go_wp2_with fail;refine zT (v:=.tuple #[.agg #[.int .i64 k.kind,.string k.name,.int .i64 k.cells,.slice V k.params.length cap1,.slice U k.index.length F,.slice T k.values.length D],.bool true]) ?_ rfl
   (Or.inl ⟨k,n1,_,Z.u,rfl,HR.u.jM H _ _ _ _ _ _,vO HV.u (by simp) (by simp),o.u.jM (zB _) _ _ _ _ _ _⟩);simp[results,results169,go_sem,O,N,M,L,J,I]
 ·obtain⟨O,N,M,L,J,I,f0,f1,f2,f3,f4,f5⟩:=YD (d.qT h (by omega));have Z:=zD (HP.u.trans y);have o:=zD (f.trans d);clear G j f d y h;go_wp2_with fail;refine zT (v:=.tuple #[.agg yo,.bool false]) ?_ rfl (Or.inr ⟨Z.u,rfl,_,o.u.jM (zB _) _ _ _ _ _ _⟩);simp[results,results169,go_sem,O,N,M,L,J,I]
theorem An (first:ByteArray) (F:kC w R tv ts n zg []) (h0:(first.toList==[118,97,114])=false) (h1:(first.toList==[97,114,114,97,121])=false) (h2:(first.toList==[112,114,111,99])=true):Calls Tryz.prog 169 #[.pointer (some ⟨R,0,none⟩),.string first] w (YQ (Rt.xY first) R tv ts n w):=by
 have G:R < w.heap.size:=zt w _ (zC F.block 0 (by simp));have HP:Hd (Rt.xY first (ts.drop n)=Rt.pProc (ts.drop n)):=by
  refine zD ?_;simp[Rt.xY,h0,h1,h2]
 go_enter func169,ntmps169;go_wp2_with fail;obtain⟨j,f⟩:=F.zP ((zI w.heap.size w).alloc (zB _) (.cells yo 143));have h:(w.alloc (.cells yo 143)).heap[w.heap.size]?=some (.cells yo 143 (0,0)):=zN w _;refine(iV j).mono ?_;rintro e w1 (⟨k,n1,fv,x,rfl,y,z,d⟩| ⟨x,rfl,ov,d⟩)
 ·obtain⟨N,M,L,J,I,H,f0,f1,f2,f3,f4,f5⟩:=YD (d.qT h (by omega));have i:=z;obtain⟨pv,iv,vv,vs,rfl,b1,Z,W,_⟩:=z;obtain⟨U,cap1,rfl⟩:=zK b1;obtain⟨T,D,rfl⟩:=zK Z;obtain⟨O,A,rfl⟩:=zK W;have V:=zD (HP.u.trans x);have HV:=zD i;have HR:=zD y;have o:=zD (f.trans d);clear F j y f d x h i b1 Z W;go_wp2_with fail;refine zT (v:=.tuple #[.agg #[.int .i64 k.kind,.string k.name,.int .i64 k.cells,.slice U k.params.length cap1,.slice T k.index.length D,.slice O k.values.length A],.bool true]) ?_ rfl
   (Or.inl ⟨k,n1,_,V.u,rfl,HR.u.jM G _ _ _ _ _ _,vO HV.u (by simp) (by simp),o.u.jM (zB _) _ _ _ _ _ _⟩);simp[results,results169,go_sem,N,M,L,J,I,H]
 ·obtain⟨N,M,L,J,I,H,f0,f1,f2,f3,f4,f5⟩:=YD (d.qT h (by omega));have V:=zD (HP.u.trans x);have o:=zD (f.trans d);clear F j f d x h;go_wp2_with fail;refine zT (v:=.tuple #[.agg yo,.bool false]) ?_ rfl (Or.inr ⟨V.u,rfl,_,o.u.jM (zB _) _ _ _ _ _ _⟩);simp[results,results169,go_sem,N,M,L,J,I,H]
theorem Cl (first:ByteArray) (d:kC w R tv ts n zg []) (o:(first.toList==[118,97,114])=false) (k:(first.toList==[97,114,114,97,121])=false) (j:(first.toList==[112,114,111,99])=false) (i:(first.toList==[101,110,100])=true):Calls Tryz.prog 169 #[.pointer (some ⟨R,0,none⟩),.string first] w (YQ (Rt.xY first) R tv ts n w):=by
 have h:R < w.heap.size:=zt w _ (zC d.block 0 (by simp));have x:Hd (Rt.xY first (ts.drop n)=some (⟨4,⟨#[]⟩,0,[],[],[]⟩,ts.drop n)):=by
  refine zD ?_;simp[Rt.xY,o,k,j,i]
 have f:=zD (d.zP ((zI w.heap.size w).alloc (zB _) (.cells #[.int .i64 4,.string ⟨#[]⟩,.int .i64 0,zg,zg,zg] 143)));clear d;go_enter func169,ntmps169;go_wp2_with fail;refine zT (v:=.tuple #[.agg #[.int .i64 4,.string ⟨#[]⟩,.int .i64 0,zg,zg,zg],.bool true]) ?_ rfl
  (Or.inl ⟨_,n,_,x.u,rfl,f.u.1,vM,f.u.2⟩);simp[results,results169,go_sem]
theorem Ef (first:ByteArray) (G:kC w R tv ts n zg []) (x:∀t∈ts,t.text.size<=40000) (h0:(first.toList==[118,97,114])=false) (h1:(first.toList==[97,114,114,97,121])=false) (h2:(first.toList==[112,114,111,99])=false) (h3:(first.toList==[101,110,100])=false) (h4:(first.toList==[105,102])=true):Calls Tryz.prog 169 #[.pointer (some ⟨R,0,none⟩),.string first] w (YQ (Rt.xY first) R tv ts n w):=by
 have H:R < w.heap.size:=zt w _ (zC G.block 0 (by simp));have W:=zD x;clear x;have HP:Hd (Rt.xY first (ts.drop n)=Rt.kn 5 (ts.drop n)):=by
  refine zD ?_;simp[Rt.xY,h0,h1,h2,h3,h4]
 go_enter func169,ntmps169;go_wp2_with fail;obtain⟨j,f⟩:=G.zP ((zI w.heap.size w).alloc (zB _) (.cells yo 143));have h:(w.alloc (.cells yo 143)).heap[w.heap.size]?=some (.cells yo 143 (0,0)):=zN w _;refine(Vh 5 j W.u).mono ?_;rintro e w1 (⟨k,n1,fv,y,rfl,z,A,d⟩| ⟨y,rfl,ov,d⟩)
 ·obtain⟨O,N,M,L,J,I,f0,f1,f2,f3,f4,f5⟩:=YD (d.qT h (by omega));have i:=A;obtain⟨pv,iv,vv,vs,rfl,b1,b2,b3,_⟩:=A;obtain⟨V,cap1,rfl⟩:=zK b1;obtain⟨U,F,rfl⟩:=zK b2;obtain⟨T,D,rfl⟩:=zK b3;have Z:=zD (HP.u.trans y);have HV:=zD i;have HR:=zD z;have o:=zD (f.trans d);clear G j z f d y h i b1 b2 b3;go_wp2_with fail;refine zT (v:=.tuple #[.agg #[.int .i64 k.kind,.string k.name,.int .i64 k.cells,.slice V k.params.length cap1,.slice U k.index.length F,.slice T k.values.length D],.bool true]) ?_ rfl
   (Or.inl ⟨k,n1,_,Z.u,rfl,HR.u.jM H _ _ _ _ _ _,vO HV.u (by simp) (by simp),o.u.jM (zB _) _ _ _ _ _ _⟩);simp[results,results169,go_sem,O,N,M,L,J,I]
 ·obtain⟨O,N,M,L,J,I,f0,f1,f2,f3,f4,f5⟩:=YD (d.qT h (by omega));have Z:=zD (HP.u.trans y);have o:=zD (f.trans d);clear G j f d y h;go_wp2_with fail;refine zT (v:=.tuple #[.agg yo,.bool false]) ?_ rfl (Or.inr ⟨Z.u,rfl,_,o.u.jM (zB _) _ _ _ _ _ _⟩);simp[results,results169,go_sem,O,N,M,L,J,I]
theorem Ao (first:ByteArray) (d:kC w R tv ts n zg []) (y:(first.toList==[118,97,114])=false) (x:(first.toList==[97,114,114,97,121])=false) (o:(first.toList==[112,114,111,99])=false) (k:(first.toList==[101,110,100])=false) (j:(first.toList==[105,102])=false) (i:(first.toList==[101,108,115,101])=true):Calls Tryz.prog 169 #[.pointer (some ⟨R,0,none⟩),.string first] w (YQ (Rt.xY first) R tv ts n w):=by
 have h:R < w.heap.size:=zt w _ (zC d.block 0 (by simp));have z:Hd (Rt.xY first (ts.drop n)=some (⟨6,⟨#[]⟩,0,[],[],[]⟩,ts.drop n)):=by
  refine zD ?_;simp[Rt.xY,y,x,o,k,j,i]
 have f:=zD (d.zP ((zI w.heap.size w).alloc (zB _) (.cells #[.int .i64 6,.string ⟨#[]⟩,.int .i64 0,zg,zg,zg] 143)));clear d;go_enter func169,ntmps169;go_wp2_with fail;refine zT (v:=.tuple #[.agg #[.int .i64 6,.string ⟨#[]⟩,.int .i64 0,zg,zg,zg],.bool true]) ?_ rfl
  (Or.inl ⟨_,n,_,z.u,rfl,f.u.1,vM,f.u.2⟩);simp[results,results169,go_sem]
theorem tB (first:ByteArray) (G:kC w R tv ts n zg []) (x:∀t∈ts,t.text.size<=40000) (h0:(first.toList==[118,97,114])=false) (h1:(first.toList==[97,114,114,97,121])=false) (h2:(first.toList==[112,114,111,99])=false) (h3:(first.toList==[101,110,100])=false) (h4:(first.toList==[105,102])=false) (h5:(first.toList==[101,108,115,101])=false) (h6:(first.toList==[119,104,105,108,101])=true):Calls Tryz.prog 169 #[.pointer (some ⟨R,0,none⟩),.string first] w (YQ (Rt.xY first) R tv ts n w):=by
 have H:R < w.heap.size:=zt w _ (zC G.block 0 (by simp));have W:=zD x;clear x;have HP:Hd (Rt.xY first (ts.drop n)=Rt.kn 7 (ts.drop n)):=by
  refine zD ?_;simp[Rt.xY,h0,h1,h2,h3,h4,h5,h6]
 go_enter func169,ntmps169;go_wp2_with fail;obtain⟨j,f⟩:=G.zP ((zI w.heap.size w).alloc (zB _) (.cells yo 143));have h:(w.alloc (.cells yo 143)).heap[w.heap.size]?=some (.cells yo 143 (0,0)):=zN w _;refine(Vh 7 j W.u).mono ?_;rintro e w1 (⟨k,n1,fv,y,rfl,z,A,d⟩| ⟨y,rfl,ov,d⟩)
 ·obtain⟨O,N,M,L,J,I,f0,f1,f2,f3,f4,f5⟩:=YD (d.qT h (by omega));have i:=A;obtain⟨pv,iv,vv,vs,rfl,b1,b2,b3,_⟩:=A;obtain⟨V,cap1,rfl⟩:=zK b1;obtain⟨U,F,rfl⟩:=zK b2;obtain⟨T,D,rfl⟩:=zK b3;have Z:=zD (HP.u.trans y);have HV:=zD i;have HR:=zD z;have o:=zD (f.trans d);clear G j z f d y h i b1 b2 b3;go_wp2_with fail;refine zT (v:=.tuple #[.agg #[.int .i64 k.kind,.string k.name,.int .i64 k.cells,.slice V k.params.length cap1,.slice U k.index.length F,.slice T k.values.length D],.bool true]) ?_ rfl
   (Or.inl ⟨k,n1,_,Z.u,rfl,HR.u.jM H _ _ _ _ _ _,vO HV.u (by simp) (by simp),o.u.jM (zB _) _ _ _ _ _ _⟩);simp[results,results169,go_sem,O,N,M,L,J,I]
 ·obtain⟨O,N,M,L,J,I,f0,f1,f2,f3,f4,f5⟩:=YD (d.qT h (by omega));have Z:=zD (HP.u.trans y);have o:=zD (f.trans d);clear G j f d y h;go_wp2_with fail;refine zT (v:=.tuple #[.agg yo,.bool false]) ?_ rfl (Or.inr ⟨Z.u,rfl,_,o.u.jM (zB _) _ _ _ _ _ _⟩);simp[results,results169,go_sem,O,N,M,L,J,I]
theorem Ck (first:ByteArray) (G:kC w R tv ts n zg []) (x:∀t∈ts,t.text.size<=40000) (h0:(first.toList==[118,97,114])=false) (h1:(first.toList==[97,114,114,97,121])=false) (h2:(first.toList==[112,114,111,99])=false) (h3:(first.toList==[101,110,100])=false) (h4:(first.toList==[105,102])=false) (h5:(first.toList==[101,108,115,101])=false) (h6:(first.toList==[119,104,105,108,101])=false) (h7:(first.toList==[115,101,116])=true):Calls Tryz.prog 169 #[.pointer (some ⟨R,0,none⟩),.string first] w (YQ (Rt.xY first) R tv ts n w):=by
 have H:R < w.heap.size:=zt w _ (zC G.block 0 (by simp));have W:=zD x;clear x;have HP:Hd (Rt.xY first (ts.drop n)=Rt.J6 (ts.drop n)):=by
  refine zD ?_;simp[Rt.xY,h0,h1,h2,h3,h4,h5,h6,h7]
 go_enter func169,ntmps169;go_wp2_with fail;obtain⟨j,f⟩:=G.zP ((zI w.heap.size w).alloc (zB _) (.cells yo 143));have h:(w.alloc (.cells yo 143)).heap[w.heap.size]?=some (.cells yo 143 (0,0)):=zN w _;refine(EF j W.u).mono ?_;rintro e w1 (⟨k,n1,fv,y,rfl,z,A,d⟩| ⟨y,rfl,ov,d⟩)
 ·obtain⟨O,N,M,L,J,I,f0,f1,f2,f3,f4,f5⟩:=YD (d.qT h (by omega));have i:=A;obtain⟨pv,iv,vv,vs,rfl,b1,b2,b3,_⟩:=A;obtain⟨V,cap1,rfl⟩:=zK b1;obtain⟨U,F,rfl⟩:=zK b2;obtain⟨T,D,rfl⟩:=zK b3;have Z:=zD (HP.u.trans y);have HV:=zD i;have HR:=zD z;have o:=zD (f.trans d);clear G j z f d y h i b1 b2 b3;go_wp2_with fail;refine zT (v:=.tuple #[.agg #[.int .i64 k.kind,.string k.name,.int .i64 k.cells,.slice V k.params.length cap1,.slice U k.index.length F,.slice T k.values.length D],.bool true]) ?_ rfl
   (Or.inl ⟨k,n1,_,Z.u,rfl,HR.u.jM H _ _ _ _ _ _,vO HV.u (by simp) (by simp),o.u.jM (zB _) _ _ _ _ _ _⟩);simp[results,results169,go_sem,O,N,M,L,J,I]
 ·obtain⟨O,N,M,L,J,I,f0,f1,f2,f3,f4,f5⟩:=YD (d.qT h (by omega));have Z:=zD (HP.u.trans y);have o:=zD (f.trans d);clear G j f d y h;go_wp2_with fail;refine zT (v:=.tuple #[.agg yo,.bool false]) ?_ rfl (Or.inr ⟨Z.u,rfl,_,o.u.jM (zB _) _ _ _ _ _ _⟩);simp[results,results169,go_sem,O,N,M,L,J,I]
theorem tE (first:ByteArray) (G:kC w R tv ts n zg []) (x:∀t∈ts,t.text.size<=40000) (h0:(first.toList==[118,97,114])=false) (h1:(first.toList==[97,114,114,97,121])=false) (h2:(first.toList==[112,114,111,99])=false) (h3:(first.toList==[101,110,100])=false) (h4:(first.toList==[105,102])=false) (h5:(first.toList==[101,108,115,101])=false) (h6:(first.toList==[119,104,105,108,101])=false) (h7:(first.toList==[115,101,116])=false) (h8:(first.toList==[112,114,105,110,116])=true):Calls Tryz.prog 169 #[.pointer (some ⟨R,0,none⟩),.string first] w (YQ (Rt.xY first) R tv ts n w):=by
 have H:R < w.heap.size:=zt w _ (zC G.block 0 (by simp));have W:=zD x;clear x;have HP:Hd (Rt.xY first (ts.drop n)=Rt.kn 10 (ts.drop n)):=by
  refine zD ?_;simp[Rt.xY,h0,h1,h2,h3,h4,h5,h6,h7,h8]
 go_enter func169,ntmps169;go_wp2_with fail;obtain⟨j,f⟩:=G.zP ((zI w.heap.size w).alloc (zB _) (.cells yo 143));have h:(w.alloc (.cells yo 143)).heap[w.heap.size]?=some (.cells yo 143 (0,0)):=zN w _;refine(Vh 10 j W.u).mono ?_;rintro e w1 (⟨k,n1,fv,y,rfl,z,A,d⟩| ⟨y,rfl,ov,d⟩)
 ·obtain⟨O,N,M,L,J,I,f0,f1,f2,f3,f4,f5⟩:=YD (d.qT h (by omega));have i:=A;obtain⟨pv,iv,vv,vs,rfl,b1,b2,b3,_⟩:=A;obtain⟨V,cap1,rfl⟩:=zK b1;obtain⟨U,F,rfl⟩:=zK b2;obtain⟨T,D,rfl⟩:=zK b3;have Z:=zD (HP.u.trans y);have HV:=zD i;have HR:=zD z;have o:=zD (f.trans d);clear G j z f d y h i b1 b2 b3;go_wp2_with fail;refine zT (v:=.tuple #[.agg #[.int .i64 k.kind,.string k.name,.int .i64 k.cells,.slice V k.params.length cap1,.slice U k.index.length F,.slice T k.values.length D],.bool true]) ?_ rfl
   (Or.inl ⟨k,n1,_,Z.u,rfl,HR.u.jM H _ _ _ _ _ _,vO HV.u (by simp) (by simp),o.u.jM (zB _) _ _ _ _ _ _⟩);simp[results,results169,go_sem,O,N,M,L,J,I]
 ·obtain⟨O,N,M,L,J,I,f0,f1,f2,f3,f4,f5⟩:=YD (d.qT h (by omega));have Z:=zD (HP.u.trans y);have o:=zD (f.trans d);clear G j f d y h;go_wp2_with fail;refine zT (v:=.tuple #[.agg yo,.bool false]) ?_ rfl (Or.inr ⟨Z.u,rfl,_,o.u.jM (zB _) _ _ _ _ _ _⟩);simp[results,results169,go_sem,O,N,M,L,J,I]
theorem Am (first:ByteArray) (F:kC w R tv ts n zg []) (h0:(first.toList==[118,97,114])=false) (h1:(first.toList==[97,114,114,97,121])=false) (h2:(first.toList==[112,114,111,99])=false) (h3:(first.toList==[101,110,100])=false) (h4:(first.toList==[105,102])=false) (h5:(first.toList==[101,108,115,101])=false) (h6:(first.toList==[119,104,105,108,101])=false) (h7:(first.toList==[115,101,116])=false) (h8:(first.toList==[112,114,105,110,116])=false) (h9:(first.toList==[114,101,97,100])=true):Calls Tryz.prog 169 #[.pointer (some ⟨R,0,none⟩),.string first] w (YQ (Rt.xY first) R tv ts n w):=by
 have G:R < w.heap.size:=zt w _ (zC F.block 0 (by simp));have HP:Hd (Rt.xY first (ts.drop n)=Rt.pNamed 11 (ts.drop n)):=by
  refine zD ?_;simp[Rt.xY,h0,h1,h2,h3,h4,h5,h6,h7,h8,h9]
 go_enter func169,ntmps169;go_wp2_with fail;obtain⟨j,f⟩:=F.zP ((zI w.heap.size w).alloc (zB _) (.cells yo 143));have h:(w.alloc (.cells yo 143)).heap[w.heap.size]?=some (.cells yo 143 (0,0)):=zN w _;refine(lT 11 j).mono ?_;rintro e w1 (⟨k,n1,fv,x,rfl,y,z,d⟩| ⟨x,rfl,ov,d⟩)
 ·obtain⟨N,M,L,J,I,H,f0,f1,f2,f3,f4,f5⟩:=YD (d.qT h (by omega));have i:=z;obtain⟨pv,iv,vv,vs,rfl,b1,Z,W,_⟩:=z;obtain⟨U,cap1,rfl⟩:=zK b1;obtain⟨T,D,rfl⟩:=zK Z;obtain⟨O,A,rfl⟩:=zK W;have V:=zD (HP.u.trans x);have HV:=zD i;have HR:=zD y;have o:=zD (f.trans d);clear F j y f d x h i b1 Z W;go_wp2_with fail;refine zT (v:=.tuple #[.agg #[.int .i64 k.kind,.string k.name,.int .i64 k.cells,.slice U k.params.length cap1,.slice T k.index.length D,.slice O k.values.length A],.bool true]) ?_ rfl
   (Or.inl ⟨k,n1,_,V.u,rfl,HR.u.jM G _ _ _ _ _ _,vO HV.u (by simp) (by simp),o.u.jM (zB _) _ _ _ _ _ _⟩);simp[results,results169,go_sem,N,M,L,J,I,H]
 ·obtain⟨N,M,L,J,I,H,f0,f1,f2,f3,f4,f5⟩:=YD (d.qT h (by omega));have V:=zD (HP.u.trans x);have o:=zD (f.trans d);clear F j f d x h;go_wp2_with fail;refine zT (v:=.tuple #[.agg yo,.bool false]) ?_ rfl (Or.inr ⟨V.u,rfl,_,o.u.jM (zB _) _ _ _ _ _ _⟩);simp[results,results169,go_sem,N,M,L,J,I,H]
theorem Aq (first:ByteArray) (G:kC w R tv ts n zg []) (x:∀t∈ts,t.text.size<=40000) (h0:(first.toList==[118,97,114])=false) (h1:(first.toList==[97,114,114,97,121])=false) (h2:(first.toList==[112,114,111,99])=false) (h3:(first.toList==[101,110,100])=false) (h4:(first.toList==[105,102])=false) (h5:(first.toList==[101,108,115,101])=false) (h6:(first.toList==[119,104,105,108,101])=false) (h7:(first.toList==[115,101,116])=false) (h8:(first.toList==[112,114,105,110,116])=false) (h9:(first.toList==[114,101,97,100])=false) (I:(first.toList==[99,97,108,108])=true):Calls Tryz.prog 169 #[.pointer (some ⟨R,0,none⟩),.string first] w (YQ (Rt.xY first) R tv ts n w):=by
 have H:R < w.heap.size:=zt w _ (zC G.block 0 (by simp));have Z:=zD x;clear x;have HP:Hd (Rt.xY first (ts.drop n)=Rt.pCall (ts.drop n)):=by
  refine zD ?_;simp[Rt.xY,h0,h1,h2,h3,h4,h5,h6,h7,h8,h9,I]
 go_enter func169,ntmps169;go_wp2_with fail;obtain⟨j,f⟩:=G.zP ((zI w.heap.size w).alloc (zB _) (.cells yo 143));have h:(w.alloc (.cells yo 143)).heap[w.heap.size]?=some (.cells yo 143 (0,0)):=zN w _;refine(Db j Z.u).mono ?_;rintro e w1 (⟨k,n1,fv,y,rfl,z,A,d⟩| ⟨y,rfl,ov,d⟩)
 ·obtain⟨T,O,N,M,L,J,f0,f1,f2,f3,f4,f5⟩:=YD (d.qT h (by omega));have i:=A;obtain⟨pv,iv,vv,vs,rfl,b1,b2,b3,_⟩:=A;obtain⟨W,cap1,rfl⟩:=zK b1;obtain⟨V,F,rfl⟩:=zK b2;obtain⟨U,D,rfl⟩:=zK b3;have HE:=zD (HP.u.trans y);have HV:=zD i;have HR:=zD z;have o:=zD (f.trans d);clear G j z f d y h i b1 b2 b3;go_wp2_with fail;refine zT (v:=.tuple #[.agg #[.int .i64 k.kind,.string k.name,.int .i64 k.cells,.slice W k.params.length cap1,.slice V k.index.length F,.slice U k.values.length D],.bool true]) ?_ rfl
   (Or.inl ⟨k,n1,_,HE.u,rfl,HR.u.jM H _ _ _ _ _ _,vO HV.u (by simp) (by simp),o.u.jM (zB _) _ _ _ _ _ _⟩);simp[results,results169,go_sem,T,O,N,M,L,J]
 ·obtain⟨T,O,N,M,L,J,f0,f1,f2,f3,f4,f5⟩:=YD (d.qT h (by omega));have HE:=zD (HP.u.trans y);have o:=zD (f.trans d);clear G j f d y h;go_wp2_with fail;refine zT (v:=.tuple #[.agg yo,.bool false]) ?_ rfl (Or.inr ⟨HE.u,rfl,_,o.u.jM (zB _) _ _ _ _ _ _⟩);simp[results,results169,go_sem,T,O,N,M,L,J]
theorem pJ (first:ByteArray) (d:kC w R tv ts n zg []) (H:(first.toList==[118,97,114])=false) (G:(first.toList==[97,114,114,97,121])=false) (F:(first.toList==[112,114,111,99])=false) (D:(first.toList==[101,110,100])=false) (A:(first.toList==[105,102])=false) (z:(first.toList==[101,108,115,101])=false) (y:(first.toList==[119,104,105,108,101])=false) (x:(first.toList==[115,101,116])=false) (o:(first.toList==[112,114,105,110,116])=false) (k:(first.toList==[114,101,97,100])=false) (h:(first.toList==[99,97,108,108])=false) (f:(first.toList==[114,101,116,117,114,110])=true):Calls Tryz.prog 169 #[.pointer (some ⟨R,0,none⟩),.string first] w (YQ (Rt.xY first) R tv ts n w):=by
 have j:R < w.heap.size:=zt w _ (zC d.block 0 (by simp));have I:Hd (Rt.xY first (ts.drop n)=some (⟨13,⟨#[]⟩,0,[],[],[]⟩,ts.drop n)):=by
  refine zD ?_;simp[Rt.xY,H,G,F,D,A,z,y,x,o,k,h,f]
 have i:=zD (d.zP ((zI w.heap.size w).alloc (zB _) (.cells #[.int .i64 13,.string ⟨#[]⟩,.int .i64 0,zg,zg,zg] 143)));clear d;go_enter func169,ntmps169;go_wp2_with fail;refine zT (v:=.tuple #[.agg #[.int .i64 13,.string ⟨#[]⟩,.int .i64 0,zg,zg,zg],.bool true]) ?_ rfl
  (Or.inl ⟨_,n,_,I.u,rfl,i.u.1,vM,i.u.2⟩);simp[results,results169,go_sem]
theorem tG (first:ByteArray) (d:kC w R tv ts n zg []) (G:(first.toList==[118,97,114])=false) (F:(first.toList==[97,114,114,97,121])=false) (D:(first.toList==[112,114,111,99])=false) (A:(first.toList==[101,110,100])=false) (z:(first.toList==[105,102])=false) (y:(first.toList==[101,108,115,101])=false) (x:(first.toList==[119,104,105,108,101])=false) (o:(first.toList==[115,101,116])=false) (k:(first.toList==[112,114,105,110,116])=false) (j:(first.toList==[114,101,97,100])=false) (h:(first.toList==[99,97,108,108])=false) (f:(first.toList==[114,101,116,117,114,110])=false):Calls Tryz.prog 169 #[.pointer (some ⟨R,0,none⟩),.string first] w (YQ (Rt.xY first) R tv ts n w):=by
 have i:R < w.heap.size:=zt w _ (zC d.block 0 (by simp));have I:Hd (Rt.xY first (ts.drop n)=none):=by
  refine zD ?_;simp[Rt.xY,G,F,D,A,z,y,x,o,k,j,h,f]
 have H:=zD (d.zP ((zI w.heap.size w).alloc (zB _) (.cells yo 143)));clear d;go_enter func169,ntmps169;go_wp2_with fail;refine zT (v:=.tuple #[.agg yo,.bool false]) ?_ rfl (Or.inr ⟨I.u,rfl,_,H.u.2⟩);simp[results,results169,go_sem]
theorem Cn (first:ByteArray) (f:kC w R tv ts n zg []) (d:∀t∈ts,t.text.size<=40000):Calls Tryz.prog 169 #[.pointer (some ⟨R,0,none⟩),.string first] w (YQ (Rt.xY first) R tv ts n w):=by
 cases h0:(first.toList==[118,97,114])with
 | true=>exact Cj first f h0
 | false=>
 cases h1:(first.toList==[97,114,114,97,121])with
 | true=>exact tH first f d h0 h1
 | false=>
 cases h2:(first.toList==[112,114,111,99])with
 | true=>exact An first f h0 h1 h2
 | false=>
 cases h3:(first.toList==[101,110,100])with
 | true=>exact Cl first f h0 h1 h2 h3
 | false=>
 cases h4:(first.toList==[105,102])with
 | true=>exact Ef first f d h0 h1 h2 h3 h4
 | false=>
 cases h5:(first.toList==[101,108,115,101])with
 | true=>exact Ao first f h0 h1 h2 h3 h4 h5
 | false=>
 cases h6:(first.toList==[119,104,105,108,101])with
 | true=>exact tB first f d h0 h1 h2 h3 h4 h5 h6
 | false=>
 cases h7:(first.toList==[115,101,116])with
 | true=>exact Ck first f d h0 h1 h2 h3 h4 h5 h6 h7
 | false=>
 cases h8:(first.toList==[112,114,105,110,116])with
 | true=>exact tE first f d h0 h1 h2 h3 h4 h5 h6 h7 h8
 | false=>
 cases h9:(first.toList==[114,101,97,100])with
 | true=>exact Am first f h0 h1 h2 h3 h4 h5 h6 h7 h8 h9
 | false=>
 cases h10:(first.toList==[99,97,108,108])with
 | true=>exact Aq first f d h0 h1 h2 h3 h4 h5 h6 h7 h8 h9 h10
 | false=>
 cases h11:(first.toList==[114,101,116,117,114,110])with
 | true=>exact pJ first f h0 h1 h2 h3 h4 h5 h6 h7 h8 h9 h10 h11
 | false=>
 exact tG first f h0 h1 h2 h3 h4 h5 h6 h7 h8 h9 h10 h11
theorem D5 (h:w.ownsRow B 188 2 tv ts.length (qa ts)) (f:0 < ts.length) (o:w.heap.size<=R):Gs w R tv ts:=by
 obtain⟨g,cap,rfl,_,k,_⟩:=yD h (Y9 ts 0 f).1;refine⟨g,cap,rfl,by omega,fun i hi=>⟨?_,?_⟩⟩
 ·obtain⟨g',cap',d,_,_,j⟩:=yD h (Y9 ts i hi).1;simp at d;rw[d.1];exact j
 ·obtain⟨g',cap',d,_,_,j⟩:=yD h (Y9 ts i hi).2;simp at d;rw[d.1];exact j
theorem ZJ.toBelow {ov:Value} (h:ZJ R zg ov w w') (f:B<=R) (d:B<=w.heap.size):Below B w w':=
 ⟨h.os,h.tape,h.output,h.size,fun k hk=>h.block k (by omega) (by omega) (by simp[Value.ownBlock])⟩
theorem YI {w1:World} (h:Below B w w1) (i:B<=N) (a b c d e f:Value):Below B w (W6 w1 N a b c d e f):=
 (((((h.setCell (p:=⟨N,0,none⟩) i a).setCell (p:=⟨N,1,none⟩) i b).setCell (p:=⟨N,2,none⟩) i c).setCell (p:=⟨N,3,none⟩) i d).setCell (p:=⟨N,4,none⟩) i e).setCell (p:=⟨N,5,none⟩) i f
theorem du {w w':World} {B B':Nat} (d:∀(t:TypeId) (size n:Nat) (v:Value) (xs:List Value),w.ownsRow B t size v n xs->w'.ownsRow B' t size v n xs):∀xs os,qi w B xs os->qi w' B' xs os
 | [],[],_=>trivial
 | _::xs,_::os,⟨h1,h2⟩=>⟨d _ _ _ _ _ h1,du d xs os h2⟩
 | [],_::_,h=>h.elim
 | _::_,[],h=>h.elim
theorem Kr (h:qk w B v fm) (d:∀(t:TypeId) (size n:Nat) (v:Value) (xs:List Value),w.ownsRow B t size v n xs->w'.ownsRow B' t size v n xs):qk w' B' v fm:=by
 obtain⟨i,iv,vv,f,rfl,x,o,k,j⟩:=h;refine⟨i,iv,vv,f,rfl,d _ _ _ _ _ x,d _ _ _ _ _ o,d _ _ _ _ _ k,?_⟩;exact du d _ _ j
def FJ (ts:List Rt.Tk) (w:World) (e:Ending) (w':World):Prop:=
 Below w.heap.size w w'/\((∃fm fv,Rt.pLineAll ts=some fm/\e=.returned (.tuple #[.agg fv,.bool true])/\qk w' w.heap.size fv fm)\/(Rt.pLineAll ts=none/\e=.returned (.tuple #[.agg yo,.bool false])))
theorem ie (Z:w.ownsRow B 188 2 tv ts.length (qa ts)) (H:ts.length<=24) (L:∀t∈ts,t.text.size<=40000):Calls Tryz.prog 122 #[tv] w (FJ ts w):=by
 obtain⟨ad,cap,rfl⟩:=zK Z
 match ts,Z,H,L with
 | [],Z,_,_=>
  have W:=zD ((zI w.heap.size w).alloc (zB _) (.cells yo 143));clear Z;go_enter func122,ntmps122;go_wp2_with fail;refine zT (v:=.tuple #[.agg yo,.bool true]) ?_ rfl ⟨W.u,Or.inl ⟨_,_,rfl,rfl,vM⟩⟩;simp[results,results122,go_sem]
 | t::r,Z,H,L=>
  have a8:=zD L;clear L;have a4:=D5 (R:=w.heap.size) Z (by simp) (zB _);obtain⟨b,cap',he,hb,hc⟩:=a4;obtain⟨a7,a6⟩:=hc 0 (by simp);simp at he a7 a6;obtain⟨rfl,rfl⟩:=he;have j:=((zI w.heap.size w).alloc (zB _) (.cells yo 143)).alloc (by simp) (.cells #[.slice (some ⟨b,0,none⟩) (t::r).length cap,.int .i64 1,zg] 208);have hr:kC ((w.alloc (.cells yo 143)).alloc (.cells #[.slice (some ⟨b,0,none⟩) (t::r).length cap,.int .i64 1,zg] 208)) (w.heap.size+1) (.slice (some ⟨b,0,none⟩) (t::r).length cap) (t::r) 1 zg []:=by
   refine⟨by simp,H,by simp,?_,?_,zW _ _ _ _⟩
   ·have:=zN (w.alloc (.cells yo 143)) (.cells #[.slice (some ⟨b,0,none⟩) (t::r).length cap,.int .i64 1,zg] 208);simpa using this
   ·exact⟨b,cap,rfl,by omega,fun i hi=>⟨cell_later j (hc i hi).1,cell_later j (hc i hi).2⟩⟩
  have M:((w.alloc (.cells yo 143)).alloc (.cells #[.slice (some ⟨b,0,none⟩) (t::r).length cap,.int .i64 1,zg] 208)).heap[w.heap.size]?=some (.cells yo 143 (0,0)):=yR (zN w _) _;clear hc;have a9:(((t::r).length:Int)==0)=false:=by rw[zV];simp only[yE];omega
  have a5:(0:Int) < ((t::r).length:Int):=by simp only[yE];omega
  generalize b4:(t::r).length=LN at *;go_enter func122,ntmps122;go_wp2_with fail;refine(Cn t.text hr a8.u).mono ?_;rintro e w1 (⟨fm,n1,fv,hs,rfl,a2,a3,d⟩| ⟨hs,rfl,ov,d⟩)
  ·have J:=d.qT M (by omega);have a0:w.heap.size+2<=w1.heap.size:=by have:=d.size;simp at this;omega
   have N:=a3;obtain⟨pv,iv,vv,vs,rfl,b1,b2,b3,_⟩:=a3;obtain⟨D,cap1,rfl⟩:=zK b1;obtain⟨A,o,rfl⟩:=zK b2;obtain⟨z,k,rfl⟩:=zK b3;have I:=j.trans (d.toBelow (B:=w.heap.size) (by omega) (by simp <;> omega));have hA:=a2.zP ((zI w1.heap.size w1).alloc (zB _) (.cells #[.int .i64 fm.kind,.string fm.name,.int .i64 fm.cells,.slice D fm.params.length cap1,.slice A fm.index.length o,.slice z fm.values.length k] 143));have y:=I.alloc (by omega) (.cells #[.int .i64 fm.kind,.string fm.name,.int .i64 fm.cells,.slice D fm.params.length cap1,.slice A fm.index.length o,.slice z fm.values.length k] 143);have T:=yR J (.cells #[.int .i64 fm.kind,.string fm.name,.int .i64 fm.cells,.slice D fm.params.length cap1,.slice A fm.index.length o,.slice z fm.values.length k] 143);have V:=zN w1 (.cells #[.int .i64 fm.kind,.string fm.name,.int .i64 fm.cells,.slice D fm.params.length cap1,.slice A fm.index.length o,.slice z fm.values.length k] 143);have F:qk (w1.alloc (.cells #[.int .i64 fm.kind,.string fm.name,.int .i64 fm.cells,.slice D fm.params.length cap1,.slice A fm.index.length o,.slice z fm.values.length k] 143)) (w.heap.size+2) _ fm:=Kr N (fun t size n v xs h=>yn (h.alloc _) (by simp <;> omega));have HS:=zD hs;clear hr a2 M J d j I hs N b1 b2 b3;go_wp2_with fail;refine(Cb hA.1).mono ?_;rintro e w3 ⟨rfl,a1,f⟩;have O:=f.qT T (by omega);have U:=f.qT V (by omega);have G:=Kr F (w':=w3) (B':=w.heap.size+2) (fun t size n v xs h=>f.ZH h (by omega));have x:=y.trans (f.toBelow (B:=w.heap.size) (by omega) (by simp <;> omega));obtain⟨c0,c1,c2,c3,c4,c5,f0,f1,f2,f3,f4,f5⟩:=YD O;have ⟨d0,d1,d2,d3,d4,d5,_,_,_,_,_,_⟩:=YD U;have b0:¬w1.heap.size=w.heap.size:=by omega
   by_cases hmore:n1 < (t::r).length
   ·have hd:decide (n1 < (t::r).length)=true:=by simpa using hmore
    rw[hd];have HE:Hd (Rt.pLineAll (t::r)=none):=by
     refine zD ?_;have h:=HS.u;simp only[Z7,Zb]at h;rw[Rt.pLineAll,h];simp only;rw[zA (fun e=>by rw[ql hmore]at e;cases e)]
    have W:=zD x;clear a1 f O U G x hA y T V F hmore;go_wp2_with fail;refine zT (v:=.tuple #[.agg yo,.bool false]) ?_ rfl ⟨YI W.u (zB _) _ _ _ _ _ _,Or.inr ⟨HE.u,rfl⟩⟩;simp[results,results122,go_sem,c0,c1,c2,c3,c4,c5]
   ·have hd:decide (n1 < (t::r).length)=false:=by simpa using hmore
    rw[hd];have HE:Hd (Rt.pLineAll (t::r)=some fm):=by
     refine zD ?_;have h:=HS.u;simp only[Z7,Zb]at h;rw[Rt.pLineAll,h];simp only;rw[zE (vW hmore)]
    have W:=zD x;have HV:=zD G;clear a1 f O U G x hA y T V F hmore;go_wp2_with fail;refine zT (v:=.tuple #[.agg #[.int .i64 fm.kind,.string fm.name,.int .i64 fm.cells,.slice D fm.params.length cap1,.slice A fm.index.length o,.slice z fm.values.length k],.bool true]) ?_ rfl
     ⟨YI W.u (zB _) _ _ _ _ _ _,Or.inl ⟨fm,_,HE.u,rfl,vO HV.u (by omega) (by omega)⟩⟩;simp[results,results122,go_sem,c0,c1,c2,c3,c4,c5]
  ·have J:=d.qT M (by omega);have a0:w.heap.size < w1.heap.size:=by have:=d.size;simp at this;omega
   have HE:Hd (Rt.pLineAll (t::r)=none):=by
    refine zD ?_;simp only[Z7,Zb]at hs;rw[Rt.pLineAll,hs]
   have W:=zD (j.trans (d.toBelow (B:=w.heap.size) (by omega) (by simp <;> omega)));obtain⟨c0,c1,c2,c3,c4,c5,f0,f1,f2,f3,f4,f5⟩:=YD J;clear hr M J d j hs;go_wp2_with fail;refine zT (v:=.tuple #[.agg yo,.bool false]) ?_ rfl ⟨(YI W.u (zB _) _ _ _ _ _ _).alloc (by rw[eO];omega) _,Or.inr ⟨HE.u,rfl⟩⟩;simp[results,results122,go_sem,c0,c1,c2,c3,c4,c5,a0]
end Go.Proofs.YthleadfkfnnadaaGreat
