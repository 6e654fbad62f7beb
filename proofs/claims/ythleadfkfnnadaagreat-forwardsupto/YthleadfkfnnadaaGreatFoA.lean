/- The law: Forwards. -/
import Derived.Test.YthleadfkfnnadaaGreatCuF
import Derived.Test.YthleadfkfnnadaaGreatSsP
import Derived.Test.YthleadfkfnnadaaGreatLnD
import Derived.Test.YthleadfkfnnadaaGreatCuD
set_option maxHeartbeats 4000000
set_option maxRecDepth 100000
set_option linter.unusedSimpArgs false
namespace Go.Proofs.YthleadfkfnnadaaGreat
open Go.RowKit
attribute [local go_sem ↓] Go.wp_at_zero Go.wp_at_succ
variable {Yw:List Bool} {s:mU} {w:World}
namespace Rt
theorem lW (S:Src) (cap:Int) (i n low:Nat):JI S cap (i+1) n low=ik S cap (n+i) (JI S cap i n low):=by
 rw[lX S cap i 1 n low]
 rfl
theorem VK.iP {S:Src} {cap:Int} {n low:Nat} (h:VK S cap n low) (d:0<=cap):∀i,(∀k,k < i->(atM S (n+k)).fin=0)->VK S cap (n+i) (JI S cap i n low)
 | 0,_=>h
 | i+1,hz=>by
  rw[lW]
  exact(h.iP d i (fun k hk=>hz k (by omega))).step d (hz i (by omega))
end Rt
theorem GI {ps zL:List Rt.PL} {ls:List (List ByteArray)} {S:Rt.Src} {q:Nat} (d:Rf.Ctx ps zL ls S) (i:Rf.KA ps zL ls S (Rt.atM S q)) (x:Yw.length=101):∃(l:Nat) (b:Bool),(Rt.atM S q).line=(l:Int)/\(Yw.take (ls.length+1))[l]?=some b/\∀low kind d0 mv,Rt.jS (Rt.XY S q low Yw) kind d0 mv=if mv=0 then 0 else if Rt.kf kind d0 (Rt.atM S q).zH.length=true then 1 else if b=true then 2 else 0:=by
 obtain⟨l,j,f,_⟩:=i.line
 have y:l < ls.length:=by rw[<-d.len];exact j
 have h:=d.law.len
 refine⟨l+1,Yw[l+1]'(by omega),f,?_,fun low kind d0 mv=>?_⟩
 ·rw[List.getElem?_take_of_lt (by omega),zJ]
 ·unfold Rt.jS Rt.Qk
  have o:(Rt.XY S q low Yw).m=Rt.atM S q:=rfl
  have k:(Rt.XY S q low Yw).marks=Yw:=rfl
  rw[o,k,f,show ((l:Int)+1).toNat=l+1 by omega,zJ (by omega),qA (by omega)]
  simp
namespace Rt
theorem ta (S:Src) (i:List Bool) (d f j:Int) (n k:Nat):(¬(atM S n).fin=0->Qq S i d f j n k=3)/\((atM S n).fin=0->¬jS (XY S n 0 i) d j k=0->Qq S i d f j n k=jS (XY S n 0 i) d j k)/\((atM S n).fin=0->jS (XY S n 0 i) d j k=0->(f<=k->Qq S i d f j n k=4)/\(¬f<=k->Qq S i d f j n k=0)):=by
 have e:(XY S n 0 i).m=atM S n:=rfl
 unfold Qq kq
 rw[e]
 refine⟨fun h=>zE h,fun h h2=>?_,fun h h2=>⟨fun h3=>?_,fun h3=>?_⟩⟩
 ·rw[zA (kW h),zA (fun hh=>h2 hh.1)]
 ·rw[zA (kW h),zE ⟨h2,h3⟩]
 ·rw[zA (kW h),zA (fun hh=>h3 hh.2),h2]
end Rt
section
variable {C : Nat} {ps zL : List Rt.PL} {ls : List (List ByteArray)} {S : Rt.Src} {cap : Int} {len n low : Nat} {Y : iQ}
def G1 (C:Nat) (zL:List Rt.PL) (ls:List (List ByteArray)) (S:Rt.Src) (cap:Int) (mk:List Bool) (Y:iQ) (len n low k:Nat) (rs:Int) (w:World) (e:Ending) (w':World):Prop:=
 e=.returned (.tuple #[.int .i64 rs,.int .i64 (k:Int),.int .i64 0])/\∃Y',J0 C zL ls S cap len n low mk Y Y' w w'
theorem DX (h:vg w C zL ls S cap len n low (Yw.take (ls.length+1)) Y) (hn:n<=len) (hx:Rf.Ctx ps zL ls S) (hP:Be S) (R:Rt.VK S cap n low) (hc:0<=cap/\cap<=500) (hm:Yw.length=101) (hl:len+1001 < 1000000000000) (d:Int) (fuel:Nat) (b3:0<=d/\d<=3) (b5:fuel<=1000) :
  Calls Tryz.prog 66 #[.pointer (some ⟨C,0,none⟩),.int .i64 d,.int .i64 fuel] w (G1 C zL ls S cap (Yw.take (ls.length+1)) Y (max len (Rt.fwdN S Yw d fuel (Rt.atM S n).zH.length (fuel+1) n 0).1) (Rt.fwdN S Yw d fuel (Rt.atM S n).zH.length (fuel+1) n 0).1 (Rt.JI S cap ((Rt.fwdN S Yw d fuel (Rt.atM S n).zH.length (fuel+1) n 0).1-n) n low) (Rt.fwdN S Yw d fuel (Rt.atM S n).zH.length (fuel+1) n 0).2.1 (Rt.fwdN S Yw d fuel (Rt.atM S n).zH.length (fuel+1) n 0).2.2 w):=by
 obtain⟨y,M⟩:∃y,y=(Rt.atM S n).zH.length:=⟨_,rfl⟩
 rw[<-M]
 obtain⟨j,h1,h2,h3,h4⟩:=Rt.dC S Yw d fuel y (fuel+1) n 0 (by omega) (by omega)
 rw[h1]
 simp only[xW]at h2 h3 h4 ⊢
 rw[show n+j-n=j by omega]
 clear h1
 have hz:∀i,i < j->(Rt.atM S (n+i)).fin=0:=fun i hi=>(Rt.Xo (h4 i hi)).1
 have G:∀i,i<=j->Rt.VK S cap (n+i) (Rt.JI S cap i n low):=fun i hi=>R.iP hc.1 i (fun k hk=>hz k (by omega))
 have F:∀i,i<=j->Rf.KA ps zL ls S (Rt.atM S (n+i)):=fun i hi=>nU hx hP.input (n+i) (G i hi).run
 have J:Q2 d fuel=0:=by unfold Q2;rw[zA (by omega),zA (by omega)]
 have HC:=zD (uW d fuel)
 rw[J]at HC
 obtain⟨g,c,X,hX,z,hq,H⟩:=h.cells hn
 obtain⟨c0,c1,c2,c3,c4,c5,c6,c7⟩:=xH h.block
 rw[z]at c3
 obtain⟨xa,xc,ya,yc,za,zc,oa,oc,f1,f2,f3,f4⟩:=hq.ZX
 have t0:=H 0 (by omega)
 simp only[jh,yQ,zv,qO]at t0
 rw[f1,show (ZN zL S n).zH.length=y from (Rf.XD _ _ _).trans M.symm]at t0
 have a6:(0:Int)<=(n:Int):=by omega
 have a5:(n:Int) < (len:Int)+1:=by omega
 have L:=hd7 h hx hP G F h3 h4
 clear h hX H z hq f1 f2 f3 f4 R J M hz G F h3 h4 hx hP c0 c1 c2 c4 c6 c7
 go_enter Tryz.func66,Tryz.ntmps66
 go_wp2_with fail
 refine(HC.u w).mono ?_
 rintro e w0 ⟨rfl,O⟩
 rw[O]
 clear O w0
 go_wp2_with fail
 go_quiet (fail)
 go_wp2_with fail
 have U:Below w.heap.size w (w.drewN nq):=below_drewN _ _
 generalize w.drewN nq=w0 at *
 have b0:=zD U
 clear U t0 c3 c5
 go_loopw [11] (fun a wr=>∃(i:Nat) (Yi:iQ),i<=j/\a=.int .i64 (i:Int)/\J0 C zL ls S cap (max len (n+i)) (n+i) (Rt.JI S cap i n low) (Yw.take (ls.length+1)) Y Yi w wr) (fun a _=>j+1-(intOf a).toNat)
 case atStart=>
  refine⟨0,Y,zo _,rfl,?_⟩
  rw[qO,Nat.max_eq_left hn]
  exact J0.below L.u.1 b0.u
 case round=>
  obtain⟨i,Yi,hi,rfl,hA⟩:=hrel
  obtain⟨g,c,X,_,z,hq,H⟩:=hA.aC.cur.cells (Y7 len (n+i))
  obtain⟨c0,c1,c2,c3,c4,c5,c6,c7⟩:=xH hA.aC.cur.block
  rw[z]at c3
  have t6:=H 6 (by omega)
  simp only[jh,yQ,zv,yH]at t6
  rw[show (ZN zL S (n+i)).fin=(Rt.atM S (n+i)).fin from rfl]at t6
  obtain⟨g1,g2,g3⟩:=Rt.ta S Yw d fuel y (n+i) i
  have o:¬Rt.Qq S Yw d fuel y (n+i) i=0->i=j:=fun he=>Zt fun hne=>he (L.u.2.2.2.2.2.2 i (by omega))
  have I:=zD hA
  have T:=Y7 len (n+i)
  have b2:max len (n+i)<=len+1000:=by omega
  generalize f:n+i=q at *
  generalize D:max len q=ln at *
  have a6:(0:Int)<=(q:Int):=by omega
  have a5:(q:Int) < (ln:Int)+1:=by omega
  clear hA z hq H c0 c1 c2 c4 c6 c7
  by_cases hfin:(Rt.atM S q).fin=0
  case neg=>
   have Z:=o (by rw[g1 hfin];omega)
   have ge:=g1 hfin
   have b6:((Rt.atM S q).fin != 0)=true:=by simpa using hfin
   generalize (Rt.atM S q).fin=fn at *
   subst Z
   have HG:=zD ge
   clear g1 g2 g3 o hfin ge
   go_wp2_with fail
   go_quiet (fail)
   go_wp2_with fail
   go_ret3
   refine⟨by rw[f,HG.u] <;> rfl,Yi,?_⟩
   rw[f,D]
   exact I.u.trans (J0.below I.u.aC.cur (kT _ _))
  case pos=>
   rw[hfin]at t6
   have HG:=XX o (g2 hfin) (g3 hfin)
   clear g1 g2 g3 o
   go_wp2_with fail
   go_quiet (fail)
   go_upto_if 45 with (fail)
   have x:Below wr.heap.size wr (wr.drewN nq):=below_drewN _ _
   go_cut [] (fun wx=>Rt.jS (Rt.XY S q 0 Yw) d y i=0/\Below wr.heap.size wr wx)
   case first=>
    by_cases hi0:i=0
    case pos=>
     subst hi0
     go_wp2_with fail
     go_meet
     case rel=>exact⟨by unfold Rt.jS;simp,x⟩
    case neg=>
     have a7:(0:Int) < (i:Int):=by omega
     obtain⟨l,b,a1,a2,a3⟩:=GI (q:=q) L.u.2.1 (by rw[<-f];exact L.u.2.2.2.2.1 i hi) hm
     have a4:=a3 0 d y i
     rw[zA (by omega)]at a4
     have HC:Hd (∀w1,Below wr.heap.size wr w1->Calls Tryz.prog 111 #[.pointer (some ⟨C,0,none⟩),.int .i64 d,.int .i64 (y:Int)] w1 fun e w'=>e=.returned (.int .i64 (Rt.jS (Rt.XY S q 0 Yw) d y i))/\Below w1.heap.size w1 w'):=zD (fun w1 hb1=>by rw[a4];exact DU (I.u.aC.cur.zP hb1) T d y l a1 b a2)
     clear a1 a2 a3 a4
     generalize a8:Rt.jS (Rt.XY S q 0 Yw) d y i=A at *
     clear a8
     go_wp2_with fail
     refine(HC.u _ x).mono ?_
     rintro e w2 ⟨rfl,W⟩
     have V:=x.trans (W.mono x.size)
     have HB3:=zD V
     clear W V x
     by_cases hA0:A=0
     case pos=>
      have a9:(A != 0)=false:=by simp[hA0]
      go_wp2_with fail
      go_meet
      case rel=>exact⟨hA0,HB3.u⟩
     case neg=>
      have a9:(A != 0)=true:=by simpa using hA0
      go_wp2_with fail
      go_ret3
      obtain⟨N,s2,s3⟩:=HG.u
      have he:=s2 hA0
      have Z:=N (by rw[he];exact hA0)
      subst Z
      refine⟨by rw[f,he] <;> rfl,Yi,?_⟩
      rw[f,D]
      exact I.u.trans (J0.below I.u.aC.cur HB3.u)
   case rest=>
    obtain⟨ha,hb⟩:=hcut
    obtain⟨N,_,s3⟩:=HG.u
    obtain⟨s4,s5⟩:=s3 ha
    have HB:=zD hb
    clear x hb t6 c3 c5
    by_cases hif:i=fuel
    case pos=>
     have he:=s4 (by omega)
     have Z:=N (by rw[he];omega)
     subst hif
     clear N s3 s4 s5
     go_wp2_with fail
     go_ret3
     subst Z
     refine⟨by rw[f,he] <;> rfl,Yi,?_⟩
     rw[f,D]
     exact I.u.trans (J0.below I.u.aC.cur HB.u)
    case neg=>
     have b4:i < j:=by
      rcases bj i j with h | h
      ·exact h
      ·have:i=j:=by omega
       subst this
       exact absurd (s5 (by omega)) (by rw[<-f];exact L.u.2.2.2.2.2.1)
     have a7:((i:Int)==(fuel:Int))=false:=by rw[zV];omega
     have a0:=zD (Fv (I.u.aC.cur.zP HB.u) T L.u.2.1 L.u.2.2.1 (by have:=L.u.2.2.2.1 i hi;rw[f]at this;exact this) hfin hc (by omega))
     clear N s3 s4 s5
     go_wp2_with fail
     refine a0.u.mono ?_
     rintro e w3 ⟨rfl,Y',hM⟩
     have HM:=zD hM
     clear hM a0
     have b1:IntKind.i64.wrap ((i:Int)+1)=(i:Int)+1:=zl _ ⟨by omega,by omega⟩
     go_wp2_with fail
     go_roundw
     case rel=>
      refine⟨i+1,Y',by omega,by go_num,?_⟩
      have e1:n+(i+1)=q+1:=by omega
      have e2:max len (q+1)=max ln (q+1):=by omega
      rw[e1,e2,Rt.lW,f]
      exact(I.u.trans (J0.below I.u.aC.cur HB.u)).trans HM.u
     case measure=>simp[intOf];omega
end
theorem Es (w:World):(Op.equalIn 10000 111 (.agg #[.int .i64 0,.int .i64 0,.int .i64 0,.int .i64 0,.int .i64 0,.int .i64 0]) (.agg #[.int .i64 0,.int .i64 0,.int .i64 0,.int .i64 0,.int .i64 0,.int .i64 0])).run Tryz.prog w=.ok true w:=by
 have d:Tryz.prog.underlying 111=some (.struct (Tryz.prog.fieldsOf 111)):=by kernel_rfl
 rw[show (10000:Nat)=9999+1 from rfl,run_equalIn_agg w 9999 111 _ _ d (by kernel_rfl)]
 simp only[Program.fieldsOf,Tryz.underlying111]
 go_simp
theorem uP {b:Nat} {v0 v1 v2 v3 v4 v5:Value} {t:TypeId} (h:w.heap[b]?=some (.cells #[v0,v1,v2,v3,v4,v5] t (0,0))) (o k j i f d:Value):(W6 w b o k j i f d).heap[b]?=some (.cells #[o,k,j,i,f,d] t (0,0)):=by
 have:=zf (zf (zf (zf (zf (zf h 0 o) 1 k) 2 j) 3 i) 4 f) 5 d
 simpa using this
theorem YJ.zP {s s':mU} {w w1 w2:World} (h:YJ s s' w w1) (d:Below w1.heap.size w1 w2):YJ s s' w w2:=
 ⟨h.ok.zP d,h.q,d.os.trans h.os,d.tape.trans h.tape,d.output.trans h.output,zi h.size d.size,fun k hk hn=>(d.block k (zX hk h.size)).trans (h.block k hk hn),fun k t ht hk=>(d.block k (zX hk.lt h.size)).trans (h.kept k t ht hk),h.own,h.iP⟩
attribute [local go_sem ↓] Es
section
variable {s : mU}
theorem Ea (h:vf w s) (d f:Int) (y:¬Q2 d f=0) :
  Calls Tryz.prog 35 #[.pointer (some ⟨s.q,0,none⟩),.bool true,.int .i64 d,.int .i64 f] w fun e w'=>e=.returned (.bool true)/\∃s',YJ s s' w w':=by
 have HH:=zD h
 have T:w.cell? ⟨s.q,0,none⟩=some (.pointer (some ⟨s.P,0,none⟩)):=zC h.pair 0 (by simp)
 have O:w.cell? ⟨s.q,1,none⟩=some (.pointer (some ⟨s.C,0,none⟩)):=zC h.pair 1 (by simp)
 have a0:=zQ h.pair
 have Z:=zD (fun w=>GY s.P d f w y)
 have HD:=zD (fun w=>Gp s.C d f w y)
 have a3:(Q2 d f != 0)=true:=by simpa using y
 have U:=zN w (.cells Q1 111)
 have A:=(zI w.heap.size w).alloc (zB _) (.cells Q1 111)
 have q0:=cell_later A T
 have N:=cell_later A O
 have D:=qG A U
 clear h y A U T O
 generalize Q2 d f=R at *
 go_enter Tryz.func35,Tryz.ntmps35
 go_wp2_with fail
 refine(Z.u _).mono ?_
 rintro e w1 ⟨rfl,i⟩
 have k:=zU D.u.2 i
 have d1:=cell_later i N
 obtain⟨M,L,J,I,H,G,z⟩:=YA k
 have a2:¬s.q=w.heap.size:=by omega
 have a1:¬w.heap.size=s.q:=by omega
 have x:=zD (YI (D.u.1.trans (i.mono (B':=w.heap.size) D.u.1.size)) (zB _) (.int .i64 0) (.int .i64 0) (.int .i64 0) (.int .i64 0) (.int .i64 0) (.int .i64 0))
 have o:=zD (uP k (.int .i64 0) (.int .i64 0) (.int .i64 0) (.int .i64 0) (.int .i64 0) (.int .i64 0))
 clear i q0 N k Z
 go_wp2_with fail
 refine(HD.u _).mono ?_
 rintro e w2 ⟨rfl,j⟩
 have F:=zD (show Below w.heap.size w w2 by rw[j];exact x.u)
 have W:=o.u
 have V:w2.heap[w.heap.size]?=some (.cells Q1 111 (0,0)):=by rw[j];exact W
 clear M L J I H G z d1 HD j W x o D
 obtain⟨M,L,J,I,H,G,z⟩:=YA V
 clear V
 unfold Q1
 go_wp2_with (go_at_call 20;refine(K3 R _).mono ?_;rintro e w' ⟨rfl,rfl⟩)
 all_goals
  go_ret
  exact⟨by first | rfl | simp,s,YJ.below HH.u F.u⟩
theorem CZ (h:vf w s) (i j rs:Int) (f d low' k:Nat) (HS:∀w1,vf w1 s->Calls Tryz.prog 65 #[.pointer (some ⟨s.P,0,none⟩),.int .i64 i,.int .i64 j] w1 (MvP s.P s.B s.S s.cap s.Yw s.X s.jv d low' k rs w1)) (HD:∀w1,vg w1 s.C s.zL s.ls s.S s.cap s.len s.n s.low (s.Yw.take (s.ls.length+1)) s.Y->Calls Tryz.prog 66 #[.pointer (some ⟨s.C,0,none⟩),.int .i64 i,.int .i64 j] w1 (G1 s.C s.zL s.ls s.S s.cap (s.Yw.take (s.ls.length+1)) s.Y f d low' k rs w1)) (J:d<=f) (F:f<=s.len+1000) :
  Calls Tryz.prog 35 #[.pointer (some ⟨s.q,0,none⟩),.bool true,.int .i64 i,.int .i64 j] w fun e w'=>e=.returned (.bool true)/\∃s',YJ s s' w w':=by
 have o:=zD h
 have R:=zD HS
 have U:=zD HD
 have p0:w.cell? ⟨s.q,0,none⟩=some (.pointer (some ⟨s.P,0,none⟩)):=zC h.pair 0 (by simp)
 have a1:=zQ h.pair
 have bR:=zN w (.cells Q1 111)
 have L:=(zI w.heap.size w).alloc (zB _) (.cells Q1 111)
 have q0:=cell_later L p0
 have V:=qG L bR
 clear h L bR p0 HS HD
 go_enter Tryz.func35,Tryz.ntmps35
 go_wp2_with fail
 refine(R.u _ (o.u.zP V.u.1)).mono ?_
 rintro e w1 ⟨rfl,X',a0,N,D⟩
 have y:=(vX.start o.u.Yo.Yo V.u.1).trans N
 have x:=(N.kept (k:=w.heap.size) (by simp) (fun hm=>by have:=o.u.Yo.Yo.Vq hm;omega)).trans V.u.2
 have A:=(o.u.ua y (Or.inr (Or.inr rfl)) ⟨_,o.u.pair⟩).trans o.u.pair
 have d1:w1.cell? ⟨s.q,1,none⟩=some (.pointer (some ⟨s.C,0,none⟩)):=zC A 1 (by simp)
 obtain⟨r0,r1,r2,r3,Z,W,z⟩:=YA x
 have a3:¬s.q=w.heap.size:=by omega
 have a2:¬w.heap.size=s.q:=by omega
 have I:=XX (y.YD x (zB _) (by unfold bg Xe;decide) (.int .i64 rs) (.int .i64 (k:Int)) (.int .i64 (Rt.atM s.S d).fin) (.int .i64 (Rt.atM s.S d).line) (.int .i64 ((Rt.atM s.S d).zH.length:Int)) (.int .i64 (d:Int))) D (uP x (.int .i64 rs) (.int .i64 (k:Int)) (.int .i64 (Rt.atM s.S d).fin) (.int .i64 (Rt.atM s.S d).line) (.int .i64 ((Rt.atM s.S d).zH.length:Int)) (.int .i64 (d:Int)))
 clear N y x A D q0
 unfold Vn
 go_wp2_with fail
 clear r0 r1 r2 r3 Z W z d1
 refine(U.u _ (o.u.Eu I.u.1)).mono ?_
 rintro e w2 ⟨rfl,Y',M⟩
 have hF:=o.u.act I.u.1 I.u.2.1 o.u.Bb M.aC J F
 have O:=I.u.2.2
 have H:=(M.aC.vz.block _ (zQ O) (fun hm=>by have:=o.u.cur.lt (zY _ hm);omega)).trans O
 obtain⟨r0,r1,r2,r3,Z,W,z⟩:=YA H
 have HF:=zD hF
 clear hF M O H
 go_wp2_with (go_at_call 20;refine(K3 0 _).mono ?_;rintro e w' ⟨rfl,rfl⟩)
 refine(dV HF.u.ok rs k).mono ?_
 rintro e w3 ⟨rfl,G⟩
 have T:=zD (YJ.zP HF.u G)
 clear G
 go_wp2_with fail
 go_ret
 exact⟨rfl,_,T.u⟩
end
theorem sq (h:vf w s) (kind fuel:Int) (o:s.len+1001 < 1000000000000) :
  Calls Tryz.prog 35 #[.pointer (some ⟨s.q,0,none⟩),.bool true,.int .i64 kind,.int .i64 fuel] w fun e w'=>e=.returned (.bool true)/\∃s',YJ s s' w w':=by
 by_cases hr:Q2 kind fuel=0
 ·have i:(0<=kind/\kind<=3)/\0<=fuel/\fuel<=1000:=by
   unfold Q2 at hr
   split at hr
   ·omega
   ·split at hr
    ·omega
    ·omega
  obtain⟨f,rfl⟩:∃f:Nat,fuel=(f:Int):=⟨fuel.toNat,by omega⟩
  have x:0<=s.cap/\s.cap<=500:=by
   have d:=h.Bb.lo
   have z:=h.Bb.hi
   omega
  obtain⟨j,y,A,_⟩:=Rt.dC s.S s.Yw kind f (Rt.atM s.S s.n).zH.length (f+1) s.n 0 (by omega) (by omega)
  have k:=h.le
  refine CZ h kind f _ _ _ _ _ (fun w1 d=>d.Yo.fwd d.Bb kind f i.1 (by omega) (by omega)) (fun w1 hC=>DX hC h.le h.ctx h.Bb.Gc h.Yo.ok x h.Bb.Yw o kind f i.1 (by omega)) (Y7 _ _) ?_
  rw[y]
  show max s.len (s.n+j)<=s.len+1000
  omega
 ·exact Ea h kind fuel hr
theorem ny (S:Nat) (h:vf w s) (f:rS) (x:f.kind=6) (y:∃a n c,f.v=.slice a n c) (j:s.len+1001 < 1000000000000) :
  Calls Tryz.prog 17 #[.pointer (some ⟨S,0,none⟩),.pointer (some ⟨s.q,0,none⟩),iO f] w fun e w'=>e=.returned (.bool true)/\∃s',YJ s s' w w':=by
 obtain⟨H,D,o,k,A,ov,G⟩:=f
 simp only at x y
 obtain⟨a,n,c,rfl⟩:=y
 subst x
 unfold iO
 simp only
 have d:=(zI w.heap.size w).alloc (zB _) (.cells #[.int .i64 6,.int .i64 D,.int .i64 o,.int .i64 k,.string A,.slice a n c] 32)
 have i:=qG h d
 clear h d
 go_enter Tryz.func17,Tryz.ntmps17
 go_wp2_with fail
 refine(sq (i.u.1.zP i.u.2) o k j).mono ?_
 rintro e w1 ⟨rfl,s',z⟩
 have F:=zD ((YJ.below i.u.1 i.u.2).then z)
 clear z
 go_wp2_with fail
 go_ret
 exact⟨rfl,_,F.u⟩
theorem nj {v:Value} {ops:List rS} (h:BX w v ops) (F:ops.length<=1048576) :
  Calls Tryz.prog 5 #[v] w fun e w'=>e=.returned (.bool true)/\Below w.heap.size w w':=by
 have G:=zD h
 obtain⟨I,cap,rfl,_⟩:=h.cells
 have x:=(zI w.heap.size w).alloc (zB _) (.cells #[.int .i64 4,.int .i64 5,.int .i64 6,.int .i64 13] 3)
 have i:=zN w (.cells #[.int .i64 4,.int .i64 5,.int .i64 6,.int .i64 13] 3)
 have d:=qG x i
 clear x i h
 go_enter Tryz.func5,Tryz.ntmps5
 go_wp2_with fail
 have y:=G.u.zP d.u.1
 refine(AB (ops:=ops) (ks:=[4,5,6,13]) _ y (fun j hj=>by
  have A:j=0\/j=1\/j=2\/j=3:=by simp at hj;omega
  rcases A with rfl | rfl | rfl | rfl
  ·exact zC d.u.2 0 (by simp)
  ·exact zC d.u.2 1 (by simp)
  ·exact zC d.u.2 2 (by simp)
  ·exact zC d.u.2 3 (by simp)) (by simp) (by omega) (fun w' h1 _=>wb h1) (we _ ops _ (by omega) (fun w1 k hk hm hI hb=>?_))).mono ?_
 ·have D:=y.lst _ (zj hk)
  have f:=D.1.zP hb
  have z:=(y.FN _ (zj hk)).1
  simp only[zw,qb,Z2]at hm
  rcases hm with hm | hm | hm | hm
  ·exact hI.new _ hm f D.2 (y.str _ (zj hk)) (by omega)
  ·exact hI.step _ (by omega) f z (by omega) (fun w2 s hp hl hb2=>mo (w:=w2) _ hp _ hm (DE f))
  ·exact hI.step _ (by omega) f z (by omega) (fun w2 s hp hl hb2=>ny (w:=w2) _ hp _ hm (DE f) (by omega))
  ·exact hI.step _ (by omega) f z (by omega) (fun w2 s hp hl hb2=>iS (w:=w2) _ hp _ hm (DE f))
 ·rintro e w1 ⟨rfl,o⟩
  have H:=zD (d.u.1.trans (o.mono d.u.1.size))
  clear o
  go_wp2_with fail
  go_ret
  exact⟨rfl,H.u⟩
end Go.Proofs.YthleadfkfnnadaaGreat
