/- The law: a pair of sessions is moved (Backward). -/
import Derived.Test.YthleadfkfnnadaaGreatLnG
set_option maxHeartbeats 4000000
set_option maxRecDepth 100000
set_option linter.unusedSimpArgs false
namespace Go.Proofs.YthleadfkfnnadaaGreat
open Rt Go.Proofs.Tryz
open Go.RowKit
attribute [local go_sem ↓] Go.wp_at_zero Go.wp_at_succ
variable {w:World}
namespace Rt
theorem bends_cases (S:Src) (mk:List Bool) (low:Nat) (kind fuel d0:Int) (n k:Nat):(¬jS (XY S n low mk) kind d0 k=0->G4 S mk low kind fuel d0 n k=jS (XY S n low mk) kind d0 k)/\(jS (XY S n low mk) kind d0 k=0->(n=0->G4 S mk low kind fuel d0 n k=5)/\(n≠0->n=low->G4 S mk low kind fuel d0 n k=6)/\(n≠0->n≠low->fuel<=k->G4 S mk low kind fuel d0 n k=4)/\(n≠0->n≠low->¬fuel<=k->G4 S mk low kind fuel d0 n k=0)):=by
 have f:(XY S n low mk).idx=(n:Int):=rfl;have d:(XY S n low mk).low=(low:Int):=rfl;unfold G4 G2;rw[f,d];refine⟨fun h=>zE h,fun h=>⟨fun h1=>?_,fun h1 h2=>?_,fun h1 h2 h3=>?_,fun h1 h2 h3=>?_⟩⟩
 ·rw[zA (kW h),zE (by omega)]
 ·rw[zA (kW h),zA (by omega),zE (by omega)]
 ·rw[zA (kW h),zA (by omega),zA (by omega),zE h3]
 ·rw[zA (kW h),zA (by omega),zA (by omega),zA h3]
end Rt
section
variable {C:Nat} {ps zL:List Rt.PL} {ls:List (List ByteArray)} {S:Rt.Src} {cap:Int} {len n low:Nat} {Y:iQ}
theorem cbwd_ref {Yw:List Bool} (h:vg w C zL ls S cap len n low (Yw.take (ls.length+1)) Y) (hn:n<=len) (hx:Rf.Ctx ps zL ls S) (hP:Be S) (D:VK S cap n low) (hm:Yw.length=101) (hl:len+1001 < 1000000000000) (kind:Int) (fuel:Nat) (b4:0<=kind/\kind<=3) (b6:fuel<=1000):Calls Tryz.prog 68 #[.pointer (some ⟨C,0,none⟩),.int .i64 kind,.int .i64 fuel] w (G1 C zL ls S cap (Yw.take (ls.length+1)) Y len (G7 S Yw low kind fuel (Rt.atM S n).zH.length (fuel+1) n 0).1 low (G7 S Yw low kind fuel (Rt.atM S n).zH.length (fuel+1) n 0).2.1 (G7 S Yw low kind fuel (Rt.atM S n).zH.length (fuel+1) n 0).2.2 w):=by
 obtain⟨d0,F⟩:∃d0,d0=(Rt.atM S n).zH.length:=⟨_,rfl⟩;rw[<-F];obtain⟨j,h1,b7,h2,h3,h4⟩:=Hl S Yw low kind fuel d0 (fuel+1) n 0 D.le (by omega) (by omega);rw[h1];simp only[xW]at h2 h3 h4 ⊢;clear h1;have o:∀i,i<=j->Rf.KA ps zL ls S (Rt.atM S (n-i)):=fun i hi=>nU hx hP.input (n-i) (fun k hk=>D.run k (by omega));have z:Q2 kind fuel=0:=by unfold Q2;rw[zA (by omega),zA (by omega)]
 have HC:=zD (uW kind fuel);rw[z]at HC;obtain⟨g,c,X,hX,R,hq,U⟩:=h.cells hn;obtain⟨c0,c1,c2,c3,c4,c5,c6,c7⟩:=xH h.block;rw[R]at c3;obtain⟨xa,xc,ya,yc,za,zc,oa,oc,f1,f2,f3,f4⟩:=hq.ZX;have t0:=U 0 (by omega);simp only[jh,yQ,zv,qO]at t0;rw[f1,show (ZN zL S n).zH.length=d0 from (Rf.XD _ _ _).trans F.symm]at t0;have b3:(0:Int)<=(n:Int):=by omega
 have b2:(n:Int) < (len:Int)+1:=by omega
 have HH:=DA h hx o h3 h4;clear h hX U R hq f1 f2 f3 f4 D z F o h3 h4 hx hP c0 c1 c2 c4 c6 c7;go_enter func68,ntmps68;go_wp2_with fail;refine(HC.u w).mono ?_;rintro e w0 ⟨rfl,O⟩;rw[O];clear O w0;go_wp2_with fail;go_quiet (fail);go_wp2_with fail;have V:Below w.heap.size w (w.drewN nq):=below_drewN _ _;generalize w.drewN nq=w0 at *;have HB0:=zD V;clear V t0 c3 c5;go_loopw [11] (fun a wr=>∃i:Nat,i<=j/\a=.int .i64 (i:Int)/\J0 C zL ls S cap len (n-i) low (Yw.take (ls.length+1)) Y Y w wr) (fun a _=>j+1-(intOf a).toNat)
 case atStart=>exact⟨0,zo _,rfl,J0.below HH.u.1 HB0.u⟩
 case round=>
  obtain⟨i,hi,rfl,hA⟩:=hrel;obtain⟨c0,c1,c2,c3,c4,c5,c6,c7⟩:=xH hA.aC.cur.block;obtain⟨g1,g2⟩:=bends_cases S Yw low kind fuel d0 (n-i) i;have y:¬G4 S Yw low kind fuel d0 (n-i) i=0->i=j:=fun he=>Zt fun hne=>he (HH.u.2.2.2.2 i (by omega));have W:=hA.aC.cur.block;have HA:=zD hA;have a5:n-i<=len:=by omega
  generalize d:n-i=q at *;have HG:=XX y g1 g2;have a9:=zD W;clear hA c0 c1 c2 c3 c4 c7 g1 g2 y W;go_upto_if 32 with (fail);go_cut [] (fun wx=>jS (XY S q low Yw) kind d0 i=0/\Below wr.heap.size wr wx)
  case first=>
   by_cases hi0:i=0
   case pos=>
    subst hi0;go_wp2_with fail;go_meet
    case rel=>exact⟨by unfold jS;simp,zI _ _⟩
   case neg=>
    have a6:(0:Int) < (i:Int):=by omega
    obtain⟨l,b,a1,a2,a3⟩:=GI (q:=q) HH.u.2.1 (by rw[<-d];exact HH.u.2.2.1 i hi) hm;have a4:=a3 low kind d0 i;rw[zA (by omega)]at a4;have HC:Hd (∀w1,Below wr.heap.size wr w1->Calls Tryz.prog 111 #[.pointer (some ⟨C,0,none⟩),.int .i64 kind,.int .i64 (d0:Int)] w1 fun e w'=>e=.returned (.int .i64 (jS (XY S q low Yw) kind d0 i))/\Below w1.heap.size w1 w'):=zD (fun w1 hb1=>by rw[a4];exact DU (HA.u.aC.cur.zP hb1) a5 kind d0 l a1 b a2);clear a1 a2 a3 a4;generalize a7:jS (XY S q low Yw) kind d0 i=A at *;clear a7;go_wp2_with fail;refine(HC.u _ (zI _ _)).mono ?_;rintro e w2 ⟨rfl,Z⟩;have HB3:=zD Z;clear Z;by_cases hA0:A=0
    case pos=>
     have a8:(A != 0)=false:=by simp[hA0]
     go_wp2_with fail;go_meet
     case rel=>exact⟨hA0,HB3.u⟩
    case neg=>
     have a8:(A != 0)=true:=by simpa using hA0
     go_wp2_with fail;go_ret3;obtain⟨x,s2,H⟩:=HG.u;have he:=s2 hA0;have G:=x (by rw[he];exact hA0);subst G;refine⟨by rw[d,he] <;> rfl,Y,?_⟩;rw[d];exact HA.u.trans (J0.below HA.u.aC.cur HB3.u)
  case rest=>
   obtain⟨ha,I⟩:=hcut;obtain⟨x,_,H⟩:=HG.u;obtain⟨N,M,L,J⟩:=H ha;have d5:=cell_later I c5;have d6:=cell_later I c6;have z5:=zS (zU a9.u I) 5;have HB:=zD I;have f:=zD (HA.u.trans (J0.below HA.u.aC.cur I));clear I c5 c6 ha;by_cases hq0:q=0
   case pos=>
    have he:=N hq0;have G:=x (by rw[he];omega);have a0:((q:Int)==0)=true:=by simp[hq0]
    clear x H N M L J;go_wp2_with fail;go_ret3;subst G;refine⟨by rw[d,he] <;> rfl,Y,?_⟩;rw[d];exact f.u
   case neg=>
    have a0:((q:Int)==0)=false:=by rw[zV];omega
    by_cases hql:q=low
    case pos=>
     have he:=M hq0 hql;have G:=x (by rw[he];omega);have T:((q:Int)==(low:Int))=true:=by simp[hql]
     clear x H N M L J;go_wp2_with fail;go_quiet (fail);go_wp2_with fail;go_ret3;subst G;refine⟨by rw[d,he] <;> rfl,Y,?_⟩;rw[d];exact f.u.trans (J0.below f.u.aC.cur (below_drewN _ _))
    case neg=>
     have T:((q:Int)==(low:Int))=false:=by rw[zV];omega
     by_cases hif:i=fuel
     case pos=>
      have he:=L hq0 hql (by omega);have G:=x (by rw[he];omega);subst hif;clear x H N M L J;go_wp2_with fail;go_quiet (fail);go_wp2_with fail;go_ret3;subst G;refine⟨by rw[d,he] <;> rfl,Y,?_⟩;rw[d];exact f.u.trans (J0.below f.u.aC.cur (below_drewN _ _))
     case neg=>
      have b5:i < j:=by
       rcases bj i j with h | h
       ·exact h
       ·have:i=j:=by omega
        subst this;exact absurd (J hq0 hql (by omega)) (by rw[<-d];exact HH.u.2.2.2.1)
      have a6:((i:Int)==(fuel:Int))=false:=by rw[zV];omega
      have b1:IntKind.i64.wrap ((i:Int)+1)=(i:Int)+1:=zl _ ⟨by omega,by omega⟩;have b0:IntKind.i64.wrap ((q:Int)-1)=(q:Int)-1:=zl _ ⟨by omega,by omega⟩;clear x H N M L J;go_wp2_with fail;go_quiet (fail);go_wp2_with fail;go_roundw
      case rel=>
       refine⟨i+1,by omega,by go_num,?_⟩;rw[show n-(i+1)=q-1 by omega];have hD:=f.u.trans (J0.below f.u.aC.cur (below_drewN _ nq));refine hD.trans (hD.aC.cur.Fp (n2:=q-1) (low2:=low) 5 _ ?_);simp[Du];omega
      case measure=>simp[intOf];omega
end
section
attribute [local go_sem ↓] Es
section
variable {s:mU}
theorem movb_no (h:vf w s) (d f:Int) (y:¬Q2 d f=0):Calls Tryz.prog 35 #[.pointer (some ⟨s.q,0,none⟩),.bool false,.int .i64 d,.int .i64 f] w fun e w'=>e=.returned (.bool true)/\∃s',YJ s s' w w':=by
 have HH:=zD h;have T:w.cell? ⟨s.q,0,none⟩=some (.pointer (some ⟨s.P,0,none⟩)):=zC h.pair 0 (by simp);have O:w.cell? ⟨s.q,1,none⟩=some (.pointer (some ⟨s.C,0,none⟩)):=zC h.pair 1 (by simp);have a0:=zQ h.pair;have Z:=zD (fun w=>sb_no s.P d f w y);have HD:=zD (fun w=>cb_no s.C d f w y);have a3:(Q2 d f != 0)=true:=by simpa using y
 have U:=zN w (.cells Q1 111);have A:=(zI w.heap.size w).alloc (zB _) (.cells Q1 111);have q0:=cell_later A T;have N:=cell_later A O;have D:=qG A U;clear h y A U T O;generalize Q2 d f=R at *;go_enter func35,ntmps35;go_wp2_with fail;refine(Z.u _).mono ?_;rintro e w1 ⟨rfl,i⟩;have k:=zU D.u.2 i;have d1:=cell_later i N;obtain⟨M,L,J,I,H,G,z⟩:=YA k;have a2:¬s.q=w.heap.size:=by omega
 have a1:¬w.heap.size=s.q:=by omega
 have x:=zD (YI (D.u.1.trans (i.mono (B':=w.heap.size) D.u.1.size)) (zB _) (.int .i64 0) (.int .i64 0) (.int .i64 0) (.int .i64 0) (.int .i64 0) (.int .i64 0));have o:=zD (uP k (.int .i64 0) (.int .i64 0) (.int .i64 0) (.int .i64 0) (.int .i64 0) (.int .i64 0));clear i q0 N k Z;go_wp2_with fail;refine(HD.u _).mono ?_;rintro e w2 ⟨rfl,j⟩;have F:=zD (show Below w.heap.size w w2 by rw[j];exact x.u);have W:=o.u;have V:w2.heap[w.heap.size]?=some (.cells Q1 111 (0,0)):=by rw[j];exact W
 clear M L J I H G z d1 HD j W x o D;obtain⟨M,L,J,I,H,G,z⟩:=YA V;clear V;unfold Q1;go_wp2_with (go_at_call 20;refine(K3 R).mono ?_;rintro e w' ⟨rfl,rfl⟩)
 all_goals
  go_ret;exact⟨by first | rfl | simp,s,YJ.below HH.u F.u⟩
theorem movb_yes (h:vf w s) {rs:Int} (f i:Int) {n' low' k:Nat} (d:Nat) (HS:∀w1,vf w1 s->Calls Tryz.prog 67 #[.pointer (some ⟨s.P,0,none⟩),.int .i64 f,.int .i64 i] w1 (MvP s.P s.B s.S s.cap s.Yw s.X s.jv n' low' k rs w1)) (HD:∀w1,vg w1 s.C s.zL s.ls s.S s.cap s.len s.n s.low (s.Yw.take (s.ls.length+1)) s.Y->Calls Tryz.prog 68 #[.pointer (some ⟨s.C,0,none⟩),.int .i64 f,.int .i64 i] w1 (G1 s.C s.zL s.ls s.S s.cap (s.Yw.take (s.ls.length+1)) s.Y d n' low' k rs w1)) (I:n'<=d) (D:d<=s.len+1000):Calls Tryz.prog 35 #[.pointer (some ⟨s.q,0,none⟩),.bool false,.int .i64 f,.int .i64 i] w fun e w'=>e=.returned (.bool true)/\∃s',YJ s s' w w':=by
 have j:=zD h;have O:=zD HS;have T:=zD HD;have p0:w.cell? ⟨s.q,0,none⟩=some (.pointer (some ⟨s.P,0,none⟩)):=zC h.pair 0 (by simp);have a1:=zQ h.pair;have bR:=zN w (.cells Q1 111);have J:=(zI w.heap.size w).alloc (zB _) (.cells Q1 111);have q0:=cell_later J p0;have U:=qG J bR;clear h J bR p0 HS HD;go_enter func35,ntmps35;go_wp2_with fail;refine(O.u _ (j.u.zP U.u.1)).mono ?_;rintro e w1 ⟨rfl,X',a0,M,A⟩;have x:=(vX.start j.u.Yo.Yo U.u.1).trans M;have o:=(M.kept (k:=w.heap.size) (by simp) (fun hm=>by have:=j.u.Yo.Yo.Vq hm;omega)).trans U.u.2;have y:=(j.u.ua x (Or.inr (Or.inr rfl)) ⟨_,j.u.pair⟩).trans j.u.pair;have d1:w1.cell? ⟨s.q,1,none⟩=some (.pointer (some ⟨s.C,0,none⟩)):=zC y 1 (by simp);obtain⟨r0,r1,r2,Z,W,V,z⟩:=YA o;have a3:¬s.q=w.heap.size:=by omega
 have a2:¬w.heap.size=s.q:=by omega
 have H:=XX (x.YD o (zB _) (by unfold bg Xe;decide) (.int .i64 rs) (.int .i64 (k:Int)) (.int .i64 (Rt.atM s.S n').fin) (.int .i64 (Rt.atM s.S n').line) (.int .i64 ((Rt.atM s.S n').zH.length:Int)) (.int .i64 (n':Int))) A (uP o (.int .i64 rs) (.int .i64 (k:Int)) (.int .i64 (Rt.atM s.S n').fin) (.int .i64 (Rt.atM s.S n').line) (.int .i64 ((Rt.atM s.S n').zH.length:Int)) (.int .i64 (n':Int)));clear M x o y A q0;unfold Vn;go_wp2_with fail;clear r0 r1 r2 Z W V z d1;refine(T.u _ (j.u.Eu H.u.1)).mono ?_;rintro e w2 ⟨rfl,Y',L⟩;have hF:=j.u.act H.u.1 H.u.2.1 j.u.Bb L.aC I D;have N:=H.u.2.2;have G:=(L.aC.vz.block _ (zQ N) (fun hm=>by have:=j.u.cur.lt (zY _ hm);omega)).trans N;obtain⟨r0,r1,r2,Z,W,V,z⟩:=YA G;have HF:=zD hF;clear hF L N G;go_wp2_with (go_at_call 20;refine(K3 0).mono ?_;rintro e w' ⟨rfl,rfl⟩);refine(dV HF.u.ok rs k).mono ?_;rintro e w3 ⟨rfl,F⟩;have R:=zD (YJ.zP HF.u F);clear F;go_wp2;go_ret;exact⟨rfl,_,R.u⟩
end
theorem movedb_ref {s:mU} (h:vf w s) (kind fuel:Int) (k:s.len+1001 < 1000000000000):Calls Tryz.prog 35 #[.pointer (some ⟨s.q,0,none⟩),.bool false,.int .i64 kind,.int .i64 fuel] w fun e w'=>e=.returned (.bool true)/\∃s',YJ s s' w w':=by
 by_cases hr:Q2 kind fuel=0
 ·have d:(0<=kind/\kind<=3)/\0<=fuel/\fuel<=1000:=by
   unfold Q2 at hr;split at hr
   ·omega
   ·split at hr
    ·omega
    ·omega
  obtain⟨f,rfl⟩:∃f:Nat,fuel=(f:Int):=⟨fuel.toNat,by omega⟩;obtain⟨j,g1,_⟩:=Hl s.S s.Yw s.low kind f (Rt.atM s.S s.n).zH.length (f+1) s.n 0 h.Yo.ok.le (by omega) (by omega);have i:=h.le;refine movb_yes h kind f s.len (fun w1 h1=>h1.Yo.bwd h1.Bb kind f d.1 (by omega) (by omega)) (fun w1 hC=>cbwd_ref hC h.le h.ctx h.Bb.Gc h.Yo.ok h.Bb.Yw k kind f d.1 (by omega)) ?_ (by omega);rw[g1];show s.n-j<=s.len;omega
 ·exact movb_no h kind fuel hr
end
end Go.Proofs.YthleadfkfnnadaaGreat
