/- A session: plain; where it lies; a step of it. -/
import Derived.Test.YthleadfkfnnadaaGreatJrA
set_option maxHeartbeats 4000000
set_option maxRecDepth 100000
set_option linter.unusedSimpArgs false
namespace Go.Proofs.YthleadfkfnnadaaGreat
open Go.RowKit
attribute [local go_sem ↓] Go.wp_at_zero Go.wp_at_succ
variable {q:Addr} {cs:Array Value} {cap low:Int} {rs rs':List Rt.Rec} {tail xs:List Value} {X:ZK} {P B g n c k:Nat} {m:Rt.Mc} {S:Rt.Src} {ty:TypeId} {jv jv' a b d e v:Value} {w w' w1 w2:World}
structure KB (P:Nat) (jv:Value) (w w':World):Prop where
 os:w'.os=w.os
 tape:w'.tape=w.tape
 output:w'.output=w.output
 size:w.heap.size<=w'.heap.size
 block:∀k,k < w.heap.size->k≠P->jv.ownBlock≠some k->w'.heap[k]?=w.heap[k]?
theorem KB.jQ (jv:Value) (h:Below w.heap.size w w'):KB P jv w w':=⟨h.os,h.tape,h.output,h.size,fun k hk _ _=>h.block k hk⟩
theorem KB.trans {P:Nat} {jv jv':Value} {w w1 w2:World} (h:KB P jv w w1) (d:KB P jv' w1 w2) (hg:∀g,jv'.ownBlock=some g->jv.ownBlock=some g\/w.heap.size<=g):KB P jv w w2:=
 ⟨d.os.trans h.os,d.tape.trans h.tape,d.output.trans h.output,zi h.size d.size,fun k hk hp hv=>(d.block k (zX hk h.size) hp (fun e=>by rcases hg k e with e | e;exact hv e;omega)).trans (h.block k hk hp hv)⟩
theorem ES {n' cap size:Nat} {t:TypeId} {a b:List Value} (h:w.ownsRow B t size (.slice (some ⟨g,0,none⟩) n cap) n (a++b)) (f:n'<=n) (d:a.length=n'*size):w.ownsRow B t size (.slice (some ⟨g,0,none⟩) n' cap) n' a:=by
 obtain⟨_,h2⟩:=h
 rcases h2 with⟨h0,_⟩| ⟨g',cap',cur,hv,hg,hh,hc,hm,hs,ht⟩
 ·cases h0
 ·cases hv
  refine⟨d,.inr ⟨g,cap,cur,rfl,hg,hh,by omega,hm,hs,?_⟩⟩
  have:=qB (List.take (n'*size)) ht
  rw[Ko,J4 d,vD (Nat.mul_le_mul_right _ f)]at this
  exact this
def Zf (rs:List Rt.Rec) (c k:Nat):List Rt.Rec:=(rs.drop c).take k++rs.drop k
theorem dR (h:c+k<=rs.length):(Zf rs c k).length=rs.length:=by
 unfold Zf
 simp
 omega
theorem ri (h:c+k < rs.length):(Zf rs c k)[c+k]?=some rs[c+k]:=by
 unfold Zf
 have d:((rs.drop c).take k).length=k:=by simp;omega
 rw[yU (by omega),d,vp,show k+(c+k-k)=c+k by omega,zJ h]
theorem mi (h:c+k < rs.length):(Zf rs c k).set k rs[c+k]=Zf rs c (k+1):=by
 unfold Zf
 have d:((rs.drop c).take k).length=k:=by simp;omega
 rw[qe _ _ (by omega),d,jC,zZ (show k < rs.length by omega),List.set_cons_zero,kI,vp,zJ h]
 simp
theorem iT (rs:List Rt.Rec) (i:Nat) (h:i < rs.length) (r:Rt.Rec):xE (rs.set i r)=(((((xE rs).set (i*5) (.int .i64 r.kind)).set (i*5+1) (.int .i64 r.line)).set (i*5+2) (.int .i64 r.at_.line)).set (i*5+3) (.int .i64 r.at_.cell)).set (i*5+4) (.int .i64 r.value):=by
 have d:(xE (rs.take i)).length=i*5:=by rw[XB,jw,vD (by omega)]
 have j:rs.set i r=rs.take i++r::rs.drop (i+1):=List.set_eq_take_append_cons_drop.trans (by rw[zE h])
 have f:xE rs=xE (rs.take i)++(Rt.YV rs[i]++xE (rs.drop (i+1))):=by
  conv=>lhs;rw[<-kt i rs,Z0,zZ h]
  rfl
 rw[j,Z0,f]
 rw[qe _ _ (by omega),qe _ _ (by omega),qe _ _ (by omega),qe _ _ (by omega),qe _ _ (by omega),d]
 have z:i*5-i*5=0:=by omega
 have y:i*5+1-i*5=1:=by omega
 have x:i*5+2-i*5=2:=by omega
 have o:i*5+3-i*5=3:=by omega
 have k:i*5+4-i*5=4:=by omega
 rw[z,y,x,o,k]
 rfl
abbrev tz (w:World) (g k:Nat) (a b c d e:Value):World:=((((w.setCell ⟨g,k,none⟩ a).setCell ⟨g,k+1,none⟩ b).setCell ⟨g,k+2,none⟩ c).setCell ⟨g,k+3,none⟩ d).setCell ⟨g,k+4,none⟩ e
theorem sA {cap:Nat} (h:w.ownsRow B 162 5 (.slice (some ⟨g,0,none⟩) n cap) n (xE rs)) (i:Nat) (d:i < rs.length) (r:Rt.Rec) :
  (tz w g (i*5) (.int .i64 r.kind) (.int .i64 r.line) (.int .i64 r.at_.line) (.int .i64 r.at_.cell) (.int .i64 r.value)).ownsRow B 162 5 (.slice (some ⟨g,0,none⟩) n cap) n (xE (rs.set i r)):=by
 rw[iT rs i d r]
 exact(((((h.stored _ _).1.stored _ _).1.stored _ _).1.stored _ _).1.stored _ _).1
theorem BV (w:World) (g k:Nat) (a b c d e:Value) (q:Nat) (f:q≠g):(tz w g k a b c d e).heap[q]?=w.heap[q]?:=by
 simp only[tz]
 repeat rw[zO _ _ _ _ f]
theorem Dj {c:Value} (h:w.cell? q=some v) (hq:q.block≠g\/k+5<=q.off):(tz w g k a b c d e).cell? q=some v:=by
 have f:∀j,j < 5->q≠⟨g,k+j,none⟩:=fun j hj e=>by
  rw[e]at hq
  rcases hq with hq | hq
  ·exact hq rfl
  ·simp at hq;omega
 simp only[tz]
 rw[xD _ _ _ _ (xK (f 4 (by omega))),xD _ _ _ _ (xK (f 3 (by omega))),xD _ _ _ _ (xK (f 2 (by omega))),xD _ _ _ _ (xK (f 1 (by omega))),xD _ _ _ _ (xK (f 0 (by omega)):(⟨g,k,none⟩:Addr)≠q)]
 exact h
theorem BD (w:World) (a:Addr):w.drew.cell? a=w.cell? a:=rfl
theorem JU {c:Value} (h:w.cell? q=some v) (f:q.block≠g\/k+5<=q.off):(tz w g k a b c d e).drew.cell? q=some v:=(BD _ _).trans (Dj h f)
theorem KB.put (i:Nat) (v:Value):KB P (.slice (some ⟨g,0,none⟩) n c) w (w.setCell ⟨g,i,none⟩ v):=⟨rfl,rfl,rfl,by simp[World.setCell],fun k _ _ hv=>zO w ⟨g,i,none⟩ v k (fun e=>hv (by rw[show k=g from e];rfl))⟩
theorem KB.tz {P:Nat} {w:World} {g n c k:Nat} {a b x d e:Value}:KB P (.slice (some ⟨g,0,none⟩) n c) w (tz w g k a b x d e):=
 ((((KB.put k a).trans (KB.put (k+1) b) (fun _ h=>Or.inl h)).trans (KB.put (k+2) x) (fun _ h=>Or.inl h)).trans (KB.put (k+3) d) (fun _ h=>Or.inl h)).trans (KB.put (k+4) e) (fun _ h=>Or.inl h)
theorem B1 {wr:World} {l l':List Rt.Rec} {N jcap q:Nat} {c:Value} (f:aD wr P ty cs cap l low (.slice (some ⟨g,0,none⟩) N jcap)) (k:KB P (.slice (some ⟨g,0,none⟩) N jcap) w wr) (i:(tz wr g q a b c d e).ownsRow 0 162 5 (.slice (some ⟨g,0,none⟩) N jcap) N (xE l')) (o:l'.length=N) :
  aD (tz wr g q a b c d e).drew P ty cs cap l' low (.slice (some ⟨g,0,none⟩) N jcap)/\KB P (.slice (some ⟨g,0,none⟩) N jcap) w (tz wr g q a b c d e).drew:=by
 have j:P≠g:=fun e=>f.ne (by rw[e];rfl)
 have h1:aD (tz wr g q a b c d e) P ty cs cap l' low (.slice (some ⟨g,0,none⟩) N jcap):=⟨by rw[BV _ _ _ _ _ _ _ _ _ j];exact f.block,f.c8,f.c9,f.GF,by rw[o];exact i,f.ty⟩
 have h2:KB P (.slice (some ⟨g,0,none⟩) N jcap) wr (Go.Proofs.YthleadfkfnnadaaGreat.tz wr g q a b c d e):=KB.tz
 revert h1 h2
 generalize tz wr g q a b c d e=wq
 intro h1 h2
 exact⟨h1.zP (zh _),(k.trans h2 (fun _ h=>Or.inl h)).trans (KB.jQ _ (zh _)) (fun _ h=>Or.inl h)⟩
theorem aD.two {low':Int} (h:aD w P ty cs cap rs low jv) (d:w.ownsRow 0 162 5 jv' rs'.length (xE rs')) :
  aD ((w.setCell ⟨P,9,none⟩ jv').setCell ⟨P,10,none⟩ (.int .i64 low')) P ty ((cs.setIfInBounds 9 jv').setIfInBounds 10 (.int .i64 low')) cap rs' low' jv'/\KB P jv w ((w.setCell ⟨P,9,none⟩ jv').setCell ⟨P,10,none⟩ (.int .i64 low')):=by
 have j:10 < cs.size:=by
  have:=h.GF
  exact(Zd.mp this).1
 have i:∀g,jv'.ownBlock=some g->g≠P:=fun g hg e=>by
  obtain⟨c,f⟩:=yW d hg
  rw[e,h.block]at f
  injection f with f
  injection f with _ f
  exact h.ty f
 refine⟨⟨zf (zf h.block 9 jv') 10 (.int .i64 low'),?_,?_,?_,?_,h.ty⟩,?_⟩
 ·rw[xn (by omega),xn (by omega)];exact h.c8
 ·rw[xn (by omega),qj (by omega)]
 ·rw[qj (by simp;omega)]
 ·exact yP d (fun g hg=>by rw[zO _ _ _ _ (i g hg),zO _ _ _ _ (i g hg)])
 ·exact⟨rfl,rfl,rfl,by simp[World.setCell],fun k _ hp _=>by rw[zO _ _ _ _ hp,zO _ _ _ _ hp]⟩
theorem Ar (h:aD w P ty cs cap rs low jv) (hl:rs.length<=1000) (h0:0 < rs.length) :
  Calls Tryz.prog 188 #[.pointer (some ⟨P,8,none⟩)] w fun e w'=>e=.returned (.tuple #[])/\∃jv',aD w' P ty ((cs.setIfInBounds 9 jv').setIfInBounds 10 (.int .i64 (wrap64 (low+1)))) cap (rs.drop (Rt.qV rs)) (wrap64 (low+1)) jv'/\KB P jv w w'/\jv'.ownBlock=jv.ownBlock:=by
 have a4:=Rt.Zm h0
 have a5:=Rt.Kh rs
 obtain⟨g,jcap,rfl⟩:∃g jcap,jv=.slice (some ⟨g,0,none⟩) rs.length jcap:=by
  rcases h.own.2 with⟨e,e2⟩| ⟨g,jcap,cur,e,_⟩
  ·omega
  ·exact⟨g,jcap,e⟩
 have HH:=zD h
 go_enter Tryz.func188,Tryz.ntmps188
 go_wp2_with fail
 refine(nW h hl).mono ?_
 rintro e w1 ⟨rfl,J⟩
 generalize hc:Rt.qV rs=c at *
 have HC:=zD hc
 have HB1:=zD J
 clear h J hc
 go_wp2_with fail
 go_loopw [3] (fun i wr=>∃n k:Nat,c+k=n/\n<=rs.length/\i=.int .i64 (n:Int)/\aD wr P ty cs cap (Zf rs c k) low (.slice (some ⟨g,0,none⟩) rs.length jcap)/\KB P (.slice (some ⟨g,0,none⟩) rs.length jcap) w wr) (fun i _=>rs.length-(intOf i).toNat)
 case atStart=>exact⟨c,0,rfl,by omega,rfl,by have:=HH.u.zP HB1.u;simpa[Zf] using this,KB.jQ _ HB1.u⟩
 case round=>
  obtain⟨n,k,I,hk,rfl,o,x⟩:=hrel
  have k9:=o.k9
  have D:(Zf rs c k).length=rs.length:=dR (by omega)
  by_cases hlt:n < rs.length
  ·have O:¬g=P:=fun e=>o.ne (by rw[e];rfl)
   have f:=o.own
   rw[D]at f
   obtain⟨W,V,U,T,R⟩:=sB f n (by omega)
   have z:(Zf rs c k)[n]'(by omega)=rs[n]:=by
    have:=ri (rs:=rs) (c:=c) (k:=k) (by omega)
    simp only[I]at this
    rw[zJ (by omega)]at this
    injection this
   rw[z]at W V U T R
   have HN:=zD I
   have i1:(n:Int) < (rs.length:Int):=by omega
   have i2:(0:Int)<=(n:Int):=by omega
   have i6:k+1<=n:=by omega
   have i3:(0:Int)<=(k:Int):=by omega
   have i4:(k:Int) < (rs.length:Int):=by omega
   have i5:IntKind.i64.wrap ((n:Int)-(c:Int))=(k:Int):=by rw[yv,yC _ (by omega)];omega
   have A:=sA f k (by omega) rs[n]
   have F:=mi (rs:=rs) (c:=c) (k:=k) (by omega)
   simp only[I]at F
   rw[F]at A
   have HX:=XX o x A
   obtain⟨t0,t1,t2,t3,t4⟩:=sB f k (by omega)
   have z0:=f.frozenAt (k*5)
   have z1:=f.frozenAt (k*5+1)
   have z2:=f.frozenAt (k*5+2)
   have z3:=f.frozenAt (k*5+3)
   have z4:=f.frozenAt (k*5+4)
   have a0:=(f.lt g rfl).2
   clear o x f A z F I
   generalize rs[n]=r at *
   have G:=GW k9 W V U T R
   go_wp2_with fail
   go_region_held3 (fun w'=>w'.cell? ⟨P,9,none⟩=some (.slice (some ⟨g,0,none⟩) rs.length jcap)/\w'.cell? ⟨g,n*5,none⟩=some (.int .i64 r.kind)/\w'.cell? ⟨g,n*5+1,none⟩=some (.int .i64 r.line)/\w'.cell? ⟨g,n*5+2,none⟩=some (.int .i64 r.at_.line)/\w'.cell? ⟨g,n*5+3,none⟩=some (.int .i64 r.at_.cell)/\w'.cell? ⟨g,n*5+4,none⟩=some (.int .i64 r.value))
    (first | (go_keep;done)| exact⟨JU G.u.1 (Or.inl (xK O)),JU G.u.2.1 (Or.inr (show k*5+5<=n*5 by omega)),JU G.u.2.2.1 (Or.inr (show k*5+5<=n*5+1 by omega)),JU G.u.2.2.2.1 (Or.inr (show k*5+5<=n*5+2 by omega)),JU G.u.2.2.2.2.1 (Or.inr (show k*5+5<=n*5+3 by omega)),JU G.u.2.2.2.2.2 (Or.inr (show k*5+5<=n*5+4 by omega))⟩) (fail)
   go_wp2_with fail
   obtain⟨q1,q2,q3⟩:=HX.u
   obtain⟨M,L⟩:=B1 q1 q2 q3 (dR (by have:=HN.u;omega))
   exact⟨⟨n+1,k+1,by have:=HN.u;omega,by omega,by go_num,M,L⟩,by simp[intOf];omega⟩
  ·have a3:k=rs.length-c:=by omega
   have N:n=rs.length:=by omega
   subst N
   have i1:¬(rs.length:Int) < (rs.length:Int):=by omega
   have hrow:=o.own
   rw[D]at hrow
   have H:Zf rs c k=rs.drop c++rs.drop k:=by unfold Zf;rw[yw (by simp;omega)]
   rw[H,Z0]at hrow
   have y:wr.ownsRow 0 162 5 (.slice (some ⟨g,0,none⟩) (rs.length-c) jcap) (rs.length-c) (xE (rs.drop c)):=ES hrow (by omega) (by rw[XB,xp])
   have ud:=o.ud
   have f9:=o.fz 9
   have a6:=o.fz 10
   have a1:rs.length<=jcap:=by
    rcases hrow.2 with⟨e,_⟩| ⟨g',a2,cur,e,_,_,e3,_⟩
    ·cases e
    ·simp at e;omega
   have j:wr.ownsRow 0 162 5 (.slice (some ⟨g,0,none⟩) (rs.length-c) jcap) (rs.drop c).length (xE (rs.drop c)):=by rw[xp];exact y
   obtain⟨M,L⟩:=o.two (low':=wrap64 (low+1)) j
   have Z:∀wq,aD wq P ty ((cs.setIfInBounds 9 (.slice (some ⟨g,0,none⟩) (rs.length-c) jcap)).setIfInBounds 10 (.int .i64 (wrap64 (low+1)))) cap (rs.drop c) (wrap64 (low+1)) (.slice (some ⟨g,0,none⟩) (rs.length-c) jcap)->KB P (.slice (some ⟨g,0,none⟩) rs.length jcap) wr wq->aD wq.drew P ty ((cs.setIfInBounds 9 (.slice (some ⟨g,0,none⟩) (rs.length-c) jcap)).setIfInBounds 10 (.int .i64 (wrap64 (low+1)))) cap (rs.drop (Rt.qV rs)) (wrap64 (low+1)) (.slice (some ⟨g,0,none⟩) (rs.length-c) jcap)/\KB P (.slice (some ⟨g,0,none⟩) rs.length jcap) w wq.drew:=fun wq a b=>⟨by rw[HC.u];exact a.zP (zh _),(x.trans b (fun _ h=>Or.inl h)).trans (KB.jQ _ (zh _)) (fun _ h=>Or.inl h)⟩
   have HF:=zD (Z _ M L)
   clear M L Z j
   have i2:IntKind.i64.wrap ((rs.length:Int)-(c:Int))=((rs.length-c:Nat):Int):=by rw[yv,yC _ (by omega)];omega
   clear o x hrow y H I hk D
   generalize hd:rs.length-c=d at *
   have i3:(0:Int)<=(d:Int):=by omega
   have i4:(d:Int)<=(jcap:Int):=by omega
   clear hd
   go_wp2_with fail
   go_region_law (fail)
   all_goals
    go_wp2_with fail
    go_end0
    exact⟨rfl,_,HF.u.1,HF.u.2,rfl⟩
theorem Tryz.C1:(Tryz.prog.info? 162).map (fun i=>(i.zero,i.size,i.bytes))=some (some (.agg #[.int .i64 0,.int .i64 0,.int .i64 0,.int .i64 0,.int .i64 0]),5,40):=by kernel_rfl
theorem wY (cs:Array Value) (a b d b':Value):(((cs.setIfInBounds 9 a).setIfInBounds 10 b).setIfInBounds 9 d).setIfInBounds 10 b'=(cs.setIfInBounds 9 d).setIfInBounds 10 b':=by
 rw[Array.setIfInBounds_comm (i:=10) (j:=9) b d (by omega),Array.setIfInBounds_setIfInBounds,Array.setIfInBounds_setIfInBounds]
theorem B2 (h:cs[10]?=some b):(cs.setIfInBounds 9 a).setIfInBounds 10 b=cs.setIfInBounds 9 a:=by
 have d:=(Zd.mp h).1
 apply Array.ext_getElem?
 intro i
 by_cases hi:i=10
 ·subst hi
  rw[qj (by simp;omega),xn (by omega),h]
 ·rw[xn (by omega)]
theorem aD.one (h:aD w P ty cs cap rs low jv) (d:w.grownBy w1 jv.ownBlock) (i:w1.ownsRow 0 162 5 jv' rs'.length (xE rs')) :
  aD (w1.setCell ⟨P,9,none⟩ jv') P ty (cs.setIfInBounds 9 jv') cap rs' low jv'/\KB P jv w (w1.setCell ⟨P,9,none⟩ jv')/\w1.cell? ⟨P,9,none⟩=some jv/\w1.frozen? ⟨P,9,none⟩=false:=by
 have x:10 < cs.size:=(Zd.mp h.GF).1
 have f:w1.heap[P]?=some (.cells cs ty (0,0)):=(d.block P (zQ h.block) (xK h.ne)).trans h.block
 have o:∀g,jv'.ownBlock=some g->g≠P:=fun g d e=>by
  obtain⟨c,j⟩:=yW i d
  rw[e,f]at j
  injection j with j
  injection j with _ j
  exact h.ty j
 refine⟨⟨zf f 9 jv',?_,?_,?_,?_,h.ty⟩,?_,?_,?_⟩
 ·rw[xn (by omega)];exact h.c8
 ·rw[qj (by omega)]
 ·rw[xn (by omega)];exact h.GF
 ·exact yP i (fun g d=>zO _ _ _ _ (o g d))
 ·exact⟨d.os,d.tape,d.output,zi d.size (by simp[World.setCell]),fun k hk hp hv=>by rw[zO _ _ _ _ hp];exact d.block k hk (xK hv)⟩
 ·exact(vj w1 P 9 cs ty (0,0) f).trans h.c9
 ·exact zS f 9
def Au (w:World) (P:Nat):Nat:=match w.cell? ⟨P,9,none⟩with
 | some (.slice _ n _)=>n
 | _=>0
theorem Cp (h:aD w P ty cs cap rs low jv) {sv:Value} {st:List Rt.Rec} (hs:w.ownsRow B 162 5 sv st.length (xE st)) (h0:0 < st.length) (hl:rs.length+st.length<=1000) :
  Calls Tryz.prog 159 #[.pointer (some ⟨P,8,none⟩),sv] w fun e w'=>e=.returned (.tuple #[])/\∃jv',aD w' P ty ((cs.setIfInBounds 9 jv').setIfInBounds 10 (.int .i64 (Rt.QR cap (rs++st) low).2)) cap (Rt.QR cap (rs++st) low).1 (Rt.QR cap (rs++st) low).2 jv'/\KB P jv w w'/\∀g,jv'.ownBlock=some g->jv.ownBlock=some g\/w.heap.size<=g:=by
 obtain⟨i0,a1,Z,W,V⟩:=yi Tryz.C1
 obtain⟨g,scap,rfl⟩:∃g scap,sv=.slice (some ⟨g,0,none⟩) st.length scap:=by
  rcases hs.2 with⟨_,e2⟩| ⟨g,scap,cur,e,_⟩
  ·omega
  ·exact⟨g,scap,e⟩
 have k:∀j u,(xE st)[j]?=some u->w.cell? ((⟨g,0,none⟩:Addr).add j)=some u:=fun j u hu=>by
  obtain⟨g',c',he,_,_,hc⟩:=yD hs hu
  simp at he
  obtain⟨rfl,rfl⟩:=he
  rw[show (⟨g,0,none⟩:Addr).add j=⟨g,j,none⟩ by unfold Addr.add;split <;> simp_all]
  exact hc
 obtain⟨y,d,rfl⟩:=zK h.own
 have T:=h.k9
 have F:=h.own
 have HH:=qG h k
 have G:∀u∈xE st,u.oneCell'=true:=fun u hu=>by
  obtain⟨r,_,hr⟩:=List.mem_flatMap.mp hu
  simp[Rt.YV]at hr
  rcases hr with rfl | rfl | rfl | rfl | rfl <;> rfl
 have HO:=zD G
 clear h hs k G
 go_enter Tryz.func159,Tryz.ntmps159
 go_wp2_with (at_builtin;refine wpList_append_lies _ rfl _ _ 94 rfl 0 162 i0 _ 5 40 Tryz.underlying94 a1 Z W V rfl (by decide) _ _ _ rfl F ⟨g,0,none⟩ st.length scap (xE st) rfl (XB st) HH.u.2 HO.u h0 (by unfold maxLen;omega) (by omega) (zo _) w.heap.size rfl ?_)
 intro g1 O w1 i o hat N
 obtain⟨R,p2,p3,p4⟩:=HH.u.1.one (rs':=rs++st) o (by rw[Z0,ze];exact i)
 rw[<-B2 HH.u.1.GF]at R
 have HX:=XX R p2 (show ∀g,(Value.slice (some ⟨g1,0,none⟩) (rs.length+st.length) O).ownBlock=some g->(Value.slice y rs.length d).ownBlock=some g\/w.heap.size<=g from fun q hq=>by
  simp[Value.ownBlock]at hq
  subst hq
  rcases hat with e | e
  ·exact Or.inl e
  ·exact Or.inr (by omega))
 clear F i o hat N R p2
 go_wp2_with fail
 go_loopw [] (fun wr=>∃(rk:List Rt.Rec) (lk:Int) (jk:Value),aD wr P ty ((cs.setIfInBounds 9 jk).setIfInBounds 10 (.int .i64 lk)) cap rk lk jk/\Rt.QR cap rk lk=Rt.QR cap (rs++st) low/\rk.length<=1000/\KB P (.slice y rs.length d) w wr/\∀g,jk.ownBlock=some g->(Value.slice y rs.length d).ownBlock=some g\/w.heap.size<=g) (fun wr=>Au wr P)
 case atStart=>exact⟨_,_,_,HX.u.1,rfl,by simp;omega,HX.u.2.1,HX.u.2.2⟩
 case round=>
  clear p3 p4 T
  obtain⟨rk,lk,jk,J,z,a0,A,hat⟩:=hrel
  obtain⟨I,f,rfl⟩:=zK J.own
  have T:=J.k9
  have k8:=J.k8
  have HM:=zD (show Au wr P=rk.length by unfold Au;rw[T])
  by_cases hc:cap < rk.length/\0 < rk.length
  ·have hc1:cap < (rk.length:Int):=hc.1
   have a2:(0:Int) < (rk.length:Int):=by omega
   have HJ:=zD ((Rt.gJ lk hc).symm.trans z)
   have H:=XX J A hat
   clear J A hat z
   go_wp2_with fail
   go_quiet (fail)
   go_wp2_with fail
   refine(Ar (H.u.1.zP (below_drewN wr _)) a0 hc.2).mono ?_
   rintro e w2 ⟨rfl,U,x,L,D⟩
   rw[wY]at x
   have HZ:=XX x (((H.u.2.1.trans (KB.jQ (jv:=.slice I rk.length f) (below_drewN wr _)) H.u.2.2)).trans L H.u.2.2) (show ∀g,U.ownBlock=some g->(Value.slice y rs.length d).ownBlock=some g\/w.heap.size<=g from fun g hg=>H.u.2.2 g (by rw[<-D];exact hg))
   obtain⟨a5,a4,rfl⟩:=zK x.own
   have M:=x.k9
   have HL:=zD (show Au w2 P < Au wr P by
    rw[HM.u]
    unfold Au
    rw[M]
    have:=Rt.Zm hc.2
    simp only[xp]
    omega)
   clear x L D M
   go_wp2_with fail
   go_roundw
   case rel=>exact⟨_,_,_,HZ.u.1,HJ.u,by rw[xp];omega,HZ.u.2.1,HZ.u.2.2⟩
   case measure=>exact HL.u
  ·have HJ:=zD (show Rt.QR cap (rs++st) low=(rk,lk) by rw[<-z];exact Rt.Vx lk hc)
   have H:=zD (show aD _ _ _ _ _ _ _ _/\_/\_ from And.intro J (And.intro A hat))
   clear J A hat z
   by_cases hc1:cap < (rk.length:Int)
   ·have a2:¬(0:Int) < (rk.length:Int):=by omega
    go_wp2_with fail
    go_quiet (fail)
    go_wp2_with fail
    go_end0
    obtain⟨x,L,D⟩:=H.u
    exact⟨rfl,_,by rw[HJ.u];exact x.zP (below_drewN wr _),L.trans (KB.jQ (jv:=.slice I rk.length f) (below_drewN wr _)) D,D⟩
   ·have a3:decide (cap < (rk.length:Int))=false:=by simpa using hc1
    go_wp2_with fail
    go_quiet (fail)
    go_wp2_with fail
    go_end0
    obtain⟨x,L,D⟩:=H.u
    exact⟨rfl,_,by rw[HJ.u];exact x.zP (below_drewN wr _),L.trans (KB.jQ (jv:=.slice I rk.length f) (below_drewN wr _)) D,D⟩
namespace Rt
structure Se where
 m:Mc
 YU:List Rec
 low:Int
 idx:Int
 marks:List Bool
def Vl (S:Src) (cap:Int) (s:Se):Se:=⟨(qd S s.m).1,(QR cap (s.YU++(qd S s.m).2) s.low).1,(QR cap (s.YU++(qd S s.m).2) s.low).2,wrap64 (s.idx+1),s.marks⟩
end Rt
def vF (cap:Int) (jv:Value) (low idx:Int) (marks:List Bool):List Value:=[.int .i64 cap,jv,.int .i64 low,.int .i64 idx]++marks.map Value.bool
structure Zv (w:World) (P B:Nat) (S:Rt.Src) (cap:Int) (s:Rt.Se) (X:ZK) (jv:Value):Prop where
 mc:jz w P B 105 (vF cap jv s.low s.idx s.marks) S s.m X
 jr:w.ownsRow 0 162 5 jv s.YU.length (xE s.YU)
theorem Zv.zP {w w':World} {P B:Nat} {S:Rt.Src} {cap:Int} {s:Rt.Se} {X:ZK} {jv:Value} (h:Zv w P B S cap s X jv) (d:Below w.heap.size w w'):Zv w' P B S cap s X jv:=⟨h.mc.zP d,yG h.jr d⟩
theorem Zv.jrS {s:Rt.Se} (h:Zv w P B S cap s X jv):aD w P 105 (xC X s.m (vF cap jv s.low s.idx s.marks)) cap s.YU s.low jv:=
 ⟨h.mc.block,by simp[xC,vF],by simp[xC,vF],by simp[xC,vF],h.jr,by decide⟩
structure SFr (P:Nat) (X:ZK) (jv:Value) (w w':World):Prop where
 os:w'.os=w.os
 tape:w'.tape=w.tape
 output:w'.output=w.output
 size:w.heap.size<=w'.heap.size
 block:∀k,k < w.heap.size->k∉P::Z4 X->jv.ownBlock≠some k->w'.heap[k]?=w.heap[k]?
theorem SFr.jQ (X:ZK) (jv:Value) (h:Below w.heap.size w w'):SFr P X jv w w':=⟨h.os,h.tape,h.output,h.size,fun k hk _ _=>h.block k hk⟩
structure vX (P B:Nat) (S:Rt.Src) (cap:Int) (X X':ZK) (jv jv':Value) (s':Rt.Se) (w w':World):Prop where
 Yo:Zv w' P B S cap s' X' jv'
 vz:SFr P X jv w w'
 grow:vd w (Z4 X) (Z4 X')
 jg:∀g,jv'.ownBlock=some g->jv.ownBlock=some g\/w.heap.size<=g
 lt:P < w.heap.size
theorem vX.start {s:Rt.Se} (h:Zv w P B S cap s X jv) (d:Below w.heap.size w w'):vX P B S cap X X jv jv s w w':=
 ⟨h.zP d,SFr.jQ X jv d,vd.refl _ _,fun _ h=>Or.inl h,zQ h.mc.block⟩
theorem vX.trans {w w1 w2:World} {P B:Nat} {S:Rt.Src} {cap:Int} {s1 s2:Rt.Se} {X X1 X2:ZK} {jv jv1 jv2:Value} (h:vX P B S cap X X1 jv jv1 s1 w w1) (g:vX P B S cap X1 X2 jv1 jv2 s2 w1 w2):vX P B S cap X X2 jv jv2 s2 w w2:=by
 refine⟨g.Yo,⟨g.vz.os.trans h.vz.os,g.vz.tape.trans h.vz.tape,g.vz.output.trans h.vz.output,zi h.vz.size g.vz.size,?_⟩,h.grow.trans g.grow h.vz.size,?_,h.lt⟩
 ·intro k j f i
  refine(g.vz.block k (zX j h.vz.size) (fun hm=>?_) (fun e=>?_)).trans (h.vz.block k j f i)
  ·rcases zw.mp hm with rfl | hm
   ·exact f (xB ..)
   ·rcases h.grow k hm with d | d
    ·exact f (zm _ d)
    ·omega
  ·rcases h.jg k e with d | d
   ·exact i d
   ·omega
 ·intro q hq
  rcases g.jg q hq with d | d
  ·exact h.jg q d
  ·exact Or.inr (zi h.vz.size d)
theorem jz.ru {tail':List Value} (h:jz w P B ty tail S m X) (A:w.ownsRow 0 162 5 jv n xs) (hf:KB P jv w w2) (hb:w2.heap[P]?=some (.cells (xC X m tail') ty (0,0))):jz w2 P B ty tail' S m X:=by
 have i:∀k,jv.ownBlock=some k->∃c,w.heap[k]?=some (.cells c 162 (0,0)):=fun k hk=>yW A hk
 refine h.next hb hf.size ?_ ?_ rfl rfl h.fl h.vl
 ·intro k x y z j
  rw[hf.block k (zQ y) z (fun e=>by
   obtain⟨c,f⟩:=i k e
   rw[y]at f
   injection f with f
   obtain⟨D,F,o,j⟩:=j
   rw[f]at o
   injection o with _ o
   rw[<-o]at j
   exact absurd j (by unfold Xe;decide))]
  exact y
 ·refine⟨fun r hr=>yP (h.own.rows r hr) (fun g hg=>?_),h.own.apart⟩
  obtain⟨c,f⟩:=yW (h.own.rows r hr) hg
  have h3:=JF hr
  refine hf.block g (zQ f) (fun e=>?_) (fun e=>?_)
  ·rw[e,h.block]at f
   injection f with f
   injection f with _ f
   rw[<-f]at h3
   rcases h3 with e | e | e
   ·exact h.ty.1 e
   ·exact h.ty.2.1 e
   ·exact h.ty.2.2.1 e
  ·obtain⟨D,d⟩:=i g e
   rw[f]at d
   injection d with d
   injection d with _ d
   rw[d]at h3
   exact absurd h3 (by decide)
theorem na (X:ZK) (m:Rt.Mc) (cap:Int) (jv d:Value) (low low' f:Int) (marks:List Bool):((xC X m (vF cap jv low f marks)).setIfInBounds 9 d).setIfInBounds 10 (.int .i64 low')=xC X m (vF cap d low' f marks):=by
 simp[xC,vF]
theorem BK (X:ZK) (m:Rt.Mc) (cap:Int) (jv:Value) (low f d:Int) (marks:List Bool):(xC X m (vF cap jv low f marks)).setIfInBounds 11 (.int .i64 d)=xC X m (vF cap jv low d marks):=by
 simp[xC,vF]
theorem Z8.row {M:Nat} {m':Rt.Mc} {X':ZK} (i:jz w M B ty tail S m X) (h:Z8 M B ty tail S X X' m' w w') (j:w.ownsRow 0 162 5 jv n xs) (f:ty≠162):w'.ownsRow 0 162 5 jv n xs:=by
 refine yP j (fun g hg=>?_)
 obtain⟨c,d⟩:=yW j hg
 rw[d]
 exact Z8.keeps i h d (fun e=>by
  rw[e,i.block]at d
  injection d with d
  injection d with _ d
  exact f d) (by decide)
theorem nF {s:Rt.Se} (h:Zv w P B S cap s X jv) (V:Good S) (J:XW S s.m) (h4:iN S) (M:iK s.m) (hz:s.m.fin=0) (hr:s.YU.length<=900) :
  Calls Tryz.prog 108 #[.pointer (some ⟨P,0,none⟩)] w fun e w'=>e=.returned (.tuple #[])/\∃X' jv',vX P B S cap X X' jv jv' (Rt.Vl S cap s) w w':=by
 obtain⟨_,a0,L⟩:=Kw h4 M
 have I:=zQ h.mc.block
 go_enter Tryz.func108,Tryz.ntmps108
 go_wp2_with fail
 refine(Bx h.mc J.Zi (V.small _) V.fwd).mono ?_
 rintro e w1 ⟨rv,W,rfl,d,D⟩
 have i:=Z8.row h.mc d h.jr (by decide)
 have G:aD w1 P 105 (xC W (Rt.qd S s.m).1 (vF cap jv s.low s.idx s.marks)) cap s.YU s.low jv:=⟨d.mc.block,by simp[xC,vF],by simp[xC,vF],by simp[xC,vF],i,by decide⟩
 obtain⟨Z,T,rfl⟩:=zK D
 have R:=gN d i h D
 have HJ:=zD (Cp G D (L hz) (by omega))
 clear d i G D h
 generalize (Rt.qd S s.m).2.length=rn at *
 go_wp2_with fail
 refine HJ.u.mono ?_
 rintro e w2 ⟨rfl,A,f,y,q3⟩
 rw[na]at f
 have x:=R.u.1.mc.ru R.u.2.1 y f.block
 have a2:w2.cell? ⟨P,11,none⟩=some (.int .i64 s.idx):=by
  have:=vj w2 P 11 _ _ _ f.block
  rw[this]
  simp[xC,vF]
 have a1:=zS f.block 11
 have z:KB P A w2 (w2.setCell ⟨P,11,none⟩ (.int .i64 (wrap64 (s.idx+1)))):=⟨rfl,rfl,rfl,by simp[World.setCell],fun k _ M _=>zO _ _ _ _ M⟩
 have O:=zf f.block 11 (.int .i64 (wrap64 (s.idx+1)))
 rw[BK]at O
 have o:=x.ru f.own z O
 have j:=f.ne
 have H:=yP (w':=w2.setCell ⟨P,11,none⟩ (.int .i64 (wrap64 (s.idx+1)))) f.own (fun g hg=>zO _ _ _ _ (fun e=>j (by rw[hg,show g=P from e])))
 have HF:=zD (show vX P B S cap X W jv A (Rt.Vl S cap s) w (w2.setCell ⟨P,11,none⟩ (.int .i64 (wrap64 (s.idx+1))))from by
  obtain⟨d,i,h,D⟩:=R.u
  refine⟨⟨o,H⟩,⟨y.os.trans d.vz.os,y.tape.trans d.vz.tape,y.output.trans d.vz.output,zi d.vz.size (zi y.size z.size),?_⟩,d.grow,?_,I⟩
  ·intro k J U hv
   have F:k≠P:=fun e=>U (by rw[e];exact xB ..)
   have N:k < w1.heap.size:=zX J d.vz.size
   rw[zO _ _ _ _ F,y.block k N F hv]
   exact d.vz.block k J U
  ·intro g hg
   rcases q3 g hg with e | e
   ·exact Or.inl e
   ·exact Or.inr (zi d.vz.size e))
 clear f y q3 x z O o H j
 go_wp2_with fail
 go_end0
 exact⟨rfl,_,_,HF.u⟩
end Go.Proofs.YthleadfkfnnadaaGreat
