/- The journal: a step joins. -/
import Derived.Laws.OwnMore
import Derived.Test.YthleadfkfnnadaaGreatNwA
set_option maxHeartbeats 4000000
set_option maxRecDepth 100000
set_option linter.unusedSimpArgs false
namespace Go.Proofs.YthleadfkfnnadaaGreat
open Rt Go.Proofs.Tryz
open Go.RowKit
attribute [local go_sem ↓] Go.wp_at_zero Go.wp_at_succ
variable {cs:Array Value} {cap low:Int} {rs rs':List Rt.Rec} {k B g n P c q:Nat} {ty:TypeId} {jv jv' a b d e v:Value} {w w' w1:World}
namespace Rt
def jt (r:Rec):Bool:=decide (r.kind=1)|| decide (r.kind=2)|| decide (r.kind=3)
def restLen:List Rec->Nat
 | []=>0
 | r::t=>if jt r=true then 0 else restLen t+1
def qV:List Rec->Nat
 | []=>0
 | _::t=>restLen t+1
theorem Vm:∀l:List Rec,restLen l<=l.length
 | []=>zB _
 | r::t=>by
  have:=Vm t;unfold restLen;split
  ·omega
  ·simp;omega
theorem Kh (l:List Rec):qV l<=l.length:=by
 cases l with
 | nil=>exact zB _
 | cons r t=>
  have:=Vm t;simp[qV];omega
theorem Zm {l:List Rec} (h:0 < l.length):0 < qV l:=by
 cases l with
 | nil=>simp at h
 | cons r t=>simp[qV]
theorem dT:∀(l:List Rec) (j:Nat) (h:j < restLen l),jt (l[j]'(zX h (Vm l)))=false
 | [],j,h=>by simp[restLen]at h
 | r::t,j,h=>by
  unfold restLen at h;split at h
  ·omega
  ·next hb=>
   cases j with
   | zero=>simpa using hb
   | succ j=>exact dT t j (by omega)
theorem fR:∀(l:List Rec) (h:restLen l < l.length),jt l[restLen l]=true
 | [],h=>by simp at h
 | r::t,h=>by
  by_cases hb:jt r=true
  ·have:restLen (r::t)=0:=by unfold restLen;rw[zE hb]
   simp only[this];exact hb
  ·have e:restLen (r::t)=restLen t+1:=by rw[restLen,zA hb]
   simp only[e,yH];exact fR t (by rw[e]at h;simpa using h)
theorem BC {rs:List Rec} (f:0 < k) (h:k < qV rs) (d:k < rs.length):jt rs[k]=false:=by
 cases rs with
 | nil=>simp at d
 | cons r t=>
  cases k with
  | zero=>omega
  | succ k=>exact dT t k (by simp[qV]at h;omega)
theorem DK {rs:List Rec} (h:qV rs < rs.length):jt rs[qV rs]=true:=by
 cases rs with
 | nil=>simp at h
 | cons r t=>
  simp only[qV,yH];exact fR t (by simpa[qV] using h)
def jnL (cap:Int):Nat->List Rec->Int->List Rec×Int
 | 0,rs,low=>(rs,low)
 | f+1,rs,low=>if cap < rs.length/\0 < rs.length then jnL cap f (rs.drop (qV rs)) (wrap64 (low+1))else (rs,low)
def QR (cap:Int) (rs:List Rec) (low:Int):List Rec×Int:=jnL cap rs.length rs low
theorem pO (cap:Int):∀(f g:Nat) (rs:List Rec) (low:Int),rs.length<=f->rs.length<=g->jnL cap f rs low=jnL cap g rs low
 | 0,0,_,_,_,_=>rfl
 | 0,g+1,rs,low,h,_=>by
  have:¬(cap < rs.length/\0 < rs.length):=by omega
  rw[jnL,jnL,zA this]
 | f+1,0,rs,low,_,h=>by
  have:¬(cap < rs.length/\0 < rs.length):=by omega
  rw[jnL,jnL,zA this]
 | f+1,g+1,rs,low,h1,h2=>by
  rw[jnL,jnL];split
  ·next hc=>
   have:=Zm hc.2;exact pO cap f g _ _ (by rw[xp];omega) (by rw[xp];omega)
  ·rfl
theorem gJ {rs:List Rec} (low:Int) (h:cap < rs.length/\0 < rs.length):QR cap rs low=QR cap (rs.drop (qV rs)) (wrap64 (low+1)):=by
 unfold QR;have d:=Zm h.2;have:=Kh rs;cases e:rs.length with
 | zero=>omega
 | succ f=>
  rw[jnL,zE h];exact pO cap _ _ _ _ (by rw[xp];omega) (zB _)
theorem Vx {rs:List Rec} (low:Int) (h:¬(cap < rs.length/\0 < rs.length)):QR cap rs low=(rs,low):=by
 unfold QR;cases rs.length with
 | zero=>rfl
 | succ f=>rw[jnL,zA h]
end Rt
theorem XB (rs:List Rt.Rec):(xE rs).length=rs.length*5:=by
 induction rs with
 | nil=>rfl
 | cons r t ih=>
  simp only[xE,Q0,ze,yE]at ih ⊢;simp[YV]at ih ⊢;omega
theorem Z0 {a b:List Rt.Rec}:xE (a++b)=xE a++xE b:=by simp[xE]
theorem VO (rs:List Rt.Rec) (i:Nat) (h:i < rs.length) (j:Nat) (f:j < 5):(xE rs)[i*5+j]?=(YV rs[i])[j]?:=by
 conv=>lhs;rw[<-kt i rs,Z0]
 have d:(xE (rs.take i)).length=i*5:=by rw[XB,jw,vD (by omega)]
 rw[yU (by omega),d,zZ h];have:i*5+j-i*5=j:=by omega
 rw[this];show (YV rs[i]++xE (rs.drop (i+1)))[j]?=_;rw[yp (by simp[YV];omega)]
theorem sB {cap:Nat} (h:w.ownsRow B 162 5 (.slice (some ⟨g,0,none⟩) n cap) n (xE rs)) (i:Nat) (x:i < rs.length):w.cell? ⟨g,i*5,none⟩=some (.int .i64 rs[i].kind)/\w.cell? ⟨g,i*5+1,none⟩=some (.int .i64 rs[i].line)/\w.cell? ⟨g,i*5+2,none⟩=some (.int .i64 rs[i].at_.line)/\w.cell? ⟨g,i*5+3,none⟩=some (.int .i64 rs[i].at_.cell)/\w.cell? ⟨g,i*5+4,none⟩=some (.int .i64 rs[i].value):=by
 have d:∀j u,j < 5->(YV rs[i])[j]?=some u->w.cell? ⟨g,i*5+j,none⟩=some u:=by
  intro j u o k;obtain⟨g',cap',f,_,_,y⟩:=yD h (j:=i*5+j) (u:=u) (by rw[VO rs i x j o];exact k);simp at f;obtain⟨rfl,rfl⟩:=f;exact y
 exact⟨d 0 _ (by omega) rfl,d 1 _ (by omega) rfl,d 2 _ (by omega) rfl,d 3 _ (by omega) rfl,d 4 _ (by omega) rfl⟩
theorem tn (w:World) (r:Rt.Rec):Calls Tryz.prog 189 #[.agg #[.int .i64 r.kind,.int .i64 r.line,.int .i64 r.at_.line,.int .i64 r.at_.cell,.int .i64 r.value]] w fun e w'=>e=.returned (.bool (jt r))/\Below w.heap.size w w':=by
 have f:=(zI w.heap.size w).alloc (zB _) (.cells #[.int .i64 r.kind,.int .i64 r.line,.int .i64 r.at_.line,.int .i64 r.at_.cell,.int .i64 r.value] 162);by_cases h1:r.kind=1
 ·have d:=zD (show jt r=true by simp[jt,h1]);have j:(r.kind==1)=true:=by simpa using h1
  clear h1;go_enter func189,ntmps189;go_wp2;go_ret;exact⟨by rw[d.u];rfl,f⟩
 ·have j:(r.kind==1)=false:=by simpa using h1
  by_cases h2:r.kind=2
  ·have d:=zD (show jt r=true by simp[jt,h2]);have i:(r.kind==2)=true:=by simpa using h2
   clear h1 h2;go_enter func189,ntmps189;go_wp2;go_ret;exact⟨by rw[d.u];rfl,f⟩
  ·have i:(r.kind==2)=false:=by simpa using h2
   by_cases h3:r.kind=3
   ·have d:=zD (show jt r=true by simp[jt,h3]);have h:(r.kind==3)=true:=by simpa using h3
    clear h1 h2 h3;go_enter func189,ntmps189;go_wp2;go_ret;exact⟨by rw[d.u];rfl,f⟩
   ·have d:=zD (show jt r=false by simp[jt,h1,h2,h3]);have h:(r.kind==3)=false:=by simpa using h3
    clear h1 h2 h3;go_enter func189,ntmps189;go_wp2;go_ret;exact⟨by rw[d.u];rfl,f⟩
structure aD (w:World) (P:Nat) (ty:TypeId) (cs:Array Value) (cap:Int) (rs:List Rt.Rec) (low:Int) (jv:Value):Prop where
 block:w.heap[P]?=some (.cells cs ty (0,0))
 c8:cs[8]?=some (.int .i64 cap)
 c9:cs[9]?=some jv
 GF:cs[10]?=some (.int .i64 low)
 own:w.ownsRow 0 162 5 jv rs.length (xE rs)
 ty:ty≠162
theorem aD.zP (h:aD w P ty cs cap rs low jv) (d:Below w.heap.size w w'):aD w' P ty cs cap rs low jv:=
 ⟨zU h.block d,h.c8,h.c9,h.GF,yG h.own d,h.ty⟩
section
variable {w:World} {P:Nat} {ty:TypeId} {cs:Array Value} {cap:Int} {rs:List Rt.Rec} {low:Int} {jv:Value} (h:aD w P ty cs cap rs low jv)
include h
theorem aD.k8:w.cell? ⟨P,8,none⟩=some (.int .i64 cap):=(vj w P 8 cs ty (0,0) h.block).trans h.c8
theorem aD.k9:w.cell? ⟨P,9,none⟩=some jv:=(vj w P 9 cs ty (0,0) h.block).trans h.c9
theorem aD.ud:w.cell? ⟨P,10,none⟩=some (.int .i64 low):=(vj w P 10 cs ty (0,0) h.block).trans h.GF
theorem aD.fz (i:Nat):w.frozen? ⟨P,i,none⟩=false:=zS h.block i
theorem aD.ne:jv.ownBlock≠some P:=by
 intro e;obtain⟨c,d⟩:=yW h.own e;rw[h.block]at d;injection d with d;injection d with _ d;exact h.ty d
end
theorem nW (h:aD w P ty cs cap rs low jv) (Z:rs.length<=1000):Calls Tryz.prog 210 #[.pointer (some ⟨P,8,none⟩)] w fun e w'=>e=.returned (.int .i64 ((qV rs:Nat):Int))/\Below w.heap.size w w':=by
 obtain⟨ad,D,rfl⟩:=zK h.own;have L:=zD h;clear h;go_enter func210,ntmps210;go_wp2_with fail;go_loopw [3] (fun c wr=>∃k:Nat,k<=rs.length/\c=.int .i64 k/\(0 < k->0 < rs.length/\k<=qV rs)/\Below w.heap.size w wr) (fun c _=>rs.length+1-(intOf c).toNat)
 case atStart=>exact⟨0,zo _,rfl,fun h=>by omega,zI _ _⟩
 case round=>
  obtain⟨k,hk,rfl,d,f⟩:=hrel;have o:=L.u.zP f;have V:=o.k9;by_cases hlt:k < rs.length
  ·have x:(k:Int) < (rs.length:Int):=by omega
   have I:(0:Int)<=(k:Int):=by omega
   obtain⟨g,gc,G,F,_⟩:=yD o.own (j:=k*5) (u:=.int .i64 rs[k].kind) (by have:=VO rs k hlt 0 (by omega);simpa[YV] using this);simp at G;obtain⟨rfl,rfl⟩:=G;obtain⟨U,T,R,O,N⟩:=sB o.own k hlt;have z:=zD f;by_cases hz:k=0
   ·subst hz;have J:=zD (show 0 < rs.length/\1<=qV rs from⟨hlt,Zm hlt⟩);clear d f o;go_wp2_with fail;exact⟨⟨1,by omega,rfl,fun _=>J.u,z.u⟩,by simp[intOf]⟩
   ·have H:((k:Int)==0)=false:=by rw[zV];omega
    have HIN:=zD (d (by omega));have M:=zD (fun (W:World)=>tn W rs[k]);have A:=zD (show jt rs[k]=true->k=qV rs from fun e=>by
     have:=(d (by omega)).2;by_cases hke:k=qV rs
     ·exact hke
     ·rw[BC (by omega) (by omega) hlt]at e;cases e)
    have i:=zD (show jt rs[k]=false->k+1<=qV rs from fun e=>by
     have:=(d (by omega)).2;by_cases hke:k=qV rs
     ·subst hke;rw[DK hlt]at e;cases e
     ·omega)
    clear d f o;generalize rs[k]=r at *;go_wp2_with fail;refine(M.u _).mono ?_;rintro e w1 ⟨rfl,y⟩;have HB1:=zD (z.u.trans (y.mono z.u.size));clear y;cases hb:jt r with
    | true=>
     have HE:=zD (A.u hb);clear A i;go_wp2;go_ret;exact⟨by rw[<-HE.u];rfl,HB1.u⟩
    | false=>
     have HE:=zD (i.u hb);clear A i;go_wp2_with fail;go_roundw
     case rel=>exact⟨k+1,by omega,by go_num,fun _=>⟨HIN.u.1,HE.u⟩,HB1.u⟩
     case measure=>simp[intOf];omega
  ·have x:¬(k:Int) < (rs.length:Int):=by omega
   have HE:=zD (show k=qV rs by
    have:=Kh rs;by_cases h0:0 < k
    ·have:=d h0;omega
    ·omega)
   have z:=zD f;clear d f o;go_wp2;go_ret;exact⟨by rw[<-HE.u];rfl,z.u⟩
structure KB (P:Nat) (jv:Value) (w w':World):Prop where
 os:w'.os=w.os
 tape:w'.tape=w.tape
 output:w'.output=w.output
 size:w.heap.size<=w'.heap.size
 block:∀k,k < w.heap.size->k≠P->jv.ownBlock≠some k->w'.heap[k]?=w.heap[k]?
theorem KB.jQ (jv:Value) (h:Below w.heap.size w w'):KB P jv w w':=⟨h.os,h.tape,h.output,h.size,fun k hk _ _=>h.block k hk⟩
theorem KB.trans {P:Nat} {jv jv':Value} {w w1 w2:World} (h:KB P jv w w1) (d:KB P jv' w1 w2) (hg:∀g,jv'.ownBlock=some g->jv.ownBlock=some g\/w.heap.size<=g):KB P jv w w2:=
 ⟨d.os.trans h.os,d.tape.trans h.tape,d.output.trans h.output,zi h.size d.size,fun k hk hp hv=>(d.block k (zX hk h.size) hp (fun e=>by rcases hg k e with e | e;exact hv e;omega)).trans (h.block k hk hp hv)⟩
theorem ES {n' cap size:Nat} {t:TypeId} {a b:List Value} (h:w.ownsRow B t size (.slice (some ⟨g,0,none⟩) n cap) n (a++b)) (f:n'<=n) (d:a.length=n'*size):w.ownsRow B t size (.slice (some ⟨g,0,none⟩) n' cap) n' a:=by
 obtain⟨_,h2⟩:=h;rcases h2 with⟨h0,_⟩| ⟨g',cap',cur,hv,hg,hh,hc,hm,hs,ht⟩
 ·cases h0
 ·cases hv;refine⟨d,.inr ⟨g,cap,cur,rfl,hg,hh,by omega,hm,hs,?_⟩⟩;have:=qB (List.take (n'*size)) ht;rw[Ko,J4 d,vD (Nat.mul_le_mul_right _ f)]at this;exact this
def Zf (rs:List Rt.Rec) (c k:Nat):List Rt.Rec:=(rs.drop c).take k++rs.drop k
theorem dR (h:c+k<=rs.length):(Zf rs c k).length=rs.length:=by
 unfold Zf;simp;omega
theorem ri (h:c+k < rs.length):(Zf rs c k)[c+k]?=some rs[c+k]:=by
 unfold Zf;have d:((rs.drop c).take k).length=k:=by simp;omega
 rw[yU (by omega),d,vp,show k+(c+k-k)=c+k by omega,zJ h]
theorem mi (h:c+k < rs.length):(Zf rs c k).set k rs[c+k]=Zf rs c (k+1):=by
 unfold Zf;have d:((rs.drop c).take k).length=k:=by simp;omega
 rw[qe _ _ (by omega),d,jC,zZ (show k < rs.length by omega),List.set_cons_zero,kI,vp,zJ h];simp
theorem iT (rs:List Rt.Rec) (i:Nat) (h:i < rs.length) (r:Rt.Rec):xE (rs.set i r)=(((((xE rs).set (i*5) (.int .i64 r.kind)).set (i*5+1) (.int .i64 r.line)).set (i*5+2) (.int .i64 r.at_.line)).set (i*5+3) (.int .i64 r.at_.cell)).set (i*5+4) (.int .i64 r.value):=by
 have d:(xE (rs.take i)).length=i*5:=by rw[XB,jw,vD (by omega)]
 have j:rs.set i r=rs.take i++r::rs.drop (i+1):=List.set_eq_take_append_cons_drop.trans (by rw[zE h]);have f:xE rs=xE (rs.take i)++(YV rs[i]++xE (rs.drop (i+1))):=by
  conv=>lhs;rw[<-kt i rs,Z0,zZ h]
  rfl
 rw[j,Z0,f];rw[qe _ _ (by omega),qe _ _ (by omega),qe _ _ (by omega),qe _ _ (by omega),qe _ _ (by omega),d];have z:i*5-i*5=0:=by omega
 have y:i*5+1-i*5=1:=by omega
 have x:i*5+2-i*5=2:=by omega
 have o:i*5+3-i*5=3:=by omega
 have k:i*5+4-i*5=4:=by omega
 rw[z,y,x,o,k];rfl
abbrev tz (w:World) (g k:Nat) (a b c d e:Value):World:=((((w.setCell ⟨g,k,none⟩ a).setCell ⟨g,k+1,none⟩ b).setCell ⟨g,k+2,none⟩ c).setCell ⟨g,k+3,none⟩ d).setCell ⟨g,k+4,none⟩ e
theorem sA {cap:Nat} (h:w.ownsRow B 162 5 (.slice (some ⟨g,0,none⟩) n cap) n (xE rs)) (i:Nat) (d:i < rs.length) (r:Rt.Rec):(tz w g (i*5) (.int .i64 r.kind) (.int .i64 r.line) (.int .i64 r.at_.line) (.int .i64 r.at_.cell) (.int .i64 r.value)).ownsRow B 162 5 (.slice (some ⟨g,0,none⟩) n cap) n (xE (rs.set i r)):=by
 rw[iT rs i d r];exact(((((h.stored _ _).1.stored _ _).1.stored _ _).1.stored _ _).1.stored _ _).1
theorem BV {c:Value} (f:q≠g):(tz w g k a b c d e).heap[q]?=w.heap[q]?:=by
 simp only[tz]
 repeat rw[zO _ _ _ _ f]
theorem Dj {c:Value} {q:Addr} (h:w.cell? q=some v) (hq:q.block≠g\/k+5<=q.off):(tz w g k a b c d e).cell? q=some v:=by
 have f:∀j,j < 5->q≠⟨g,k+j,none⟩:=fun j hj e=>by
  rw[e]at hq;rcases hq with hq | hq
  ·exact hq rfl
  ·simp at hq;omega
 simp only[tz];rw[xD _ _ _ _ (xK (f 4 (by omega))),xD _ _ _ _ (xK (f 3 (by omega))),xD _ _ _ _ (xK (f 2 (by omega))),xD _ _ _ _ (xK (f 1 (by omega))),xD _ _ _ _ (xK (f 0 (by omega)):(⟨g,k,none⟩:Addr)≠q)];exact h
theorem BD {a:Addr}:w.drew.cell? a=w.cell? a:=rfl
theorem JU {c:Value} {q:Addr} (h:w.cell? q=some v) (f:q.block≠g\/k+5<=q.off):(tz w g k a b c d e).drew.cell? q=some v:=(BD).trans (Dj h f)
theorem KB.put (i:Nat) (v:Value):KB P (.slice (some ⟨g,0,none⟩) n c) w (w.setCell ⟨g,i,none⟩ v):=⟨rfl,rfl,rfl,by simp[World.setCell],fun k _ _ hv=>zO w ⟨g,i,none⟩ v k (fun e=>hv (by rw[show k=g from e];rfl))⟩
theorem KB.tz {P:Nat} {w:World} {g n c k:Nat} {a b x d e:Value}:KB P (.slice (some ⟨g,0,none⟩) n c) w (tz w g k a b x d e):=
 ((((KB.put k a).trans (KB.put (k+1) b) (fun _ h=>Or.inl h)).trans (KB.put (k+2) x) (fun _ h=>Or.inl h)).trans (KB.put (k+3) d) (fun _ h=>Or.inl h)).trans (KB.put (k+4) e) (fun _ h=>Or.inl h)
theorem B1 {wr:World} {l l':List Rt.Rec} {N jcap:Nat} {c:Value} (f:aD wr P ty cs cap l low (.slice (some ⟨g,0,none⟩) N jcap)) (k:KB P (.slice (some ⟨g,0,none⟩) N jcap) w wr) (i:(tz wr g q a b c d e).ownsRow 0 162 5 (.slice (some ⟨g,0,none⟩) N jcap) N (xE l')) (o:l'.length=N):aD (tz wr g q a b c d e).drew P ty cs cap l' low (.slice (some ⟨g,0,none⟩) N jcap)/\KB P (.slice (some ⟨g,0,none⟩) N jcap) w (tz wr g q a b c d e).drew:=by
 have j:P≠g:=fun e=>f.ne (by rw[e];rfl);have h1:aD (tz wr g q a b c d e) P ty cs cap l' low (.slice (some ⟨g,0,none⟩) N jcap):=⟨by rw[BV j];exact f.block,f.c8,f.c9,f.GF,by rw[o];exact i,f.ty⟩;have h2:KB P (.slice (some ⟨g,0,none⟩) N jcap) wr (Go.Proofs.YthleadfkfnnadaaGreat.tz wr g q a b c d e):=KB.tz;revert h1 h2;generalize tz wr g q a b c d e=wq;intro h1 h2;exact⟨h1.zP (zh _),(k.trans h2 (fun _ h=>Or.inl h)).trans (KB.jQ _ (zh _)) (fun _ h=>Or.inl h)⟩
theorem aD.two {low':Int} (h:aD w P ty cs cap rs low jv) (d:w.ownsRow 0 162 5 jv' rs'.length (xE rs')):aD ((w.setCell ⟨P,9,none⟩ jv').setCell ⟨P,10,none⟩ (.int .i64 low')) P ty ((cs.setIfInBounds 9 jv').setIfInBounds 10 (.int .i64 low')) cap rs' low' jv'/\KB P jv w ((w.setCell ⟨P,9,none⟩ jv').setCell ⟨P,10,none⟩ (.int .i64 low')):=by
 have j:10 < cs.size:=by
  have:=h.GF;exact(Zd.mp this).1
 have i:∀g,jv'.ownBlock=some g->g≠P:=fun g hg e=>by
  obtain⟨c,f⟩:=yW d hg;rw[e,h.block]at f;injection f with f;injection f with _ f;exact h.ty f
 refine⟨⟨zf (zf h.block 9 jv') 10 (.int .i64 low'),?_,?_,?_,?_,h.ty⟩,?_⟩
 ·rw[xn (by omega),xn (by omega)];exact h.c8
 ·rw[xn (by omega),qj (by omega)]
 ·rw[qj (by simp;omega)]
 ·exact yP d (fun g hg=>by rw[zO _ _ _ _ (i g hg),zO _ _ _ _ (i g hg)])
 ·exact⟨rfl,rfl,rfl,by simp[World.setCell],fun k _ hp _=>by rw[zO _ _ _ _ hp,zO _ _ _ _ hp]⟩
theorem Ar (h:aD w P ty cs cap rs low jv) (hl:rs.length<=1000) (h0:0 < rs.length):Calls Tryz.prog 188 #[.pointer (some ⟨P,8,none⟩)] w fun e w'=>e=.returned (.tuple #[])/\∃jv',aD w' P ty ((cs.setIfInBounds 9 jv').setIfInBounds 10 (.int .i64 (wrap64 (low+1)))) cap (rs.drop (qV rs)) (wrap64 (low+1)) jv'/\KB P jv w w'/\jv'.ownBlock=jv.ownBlock:=by
 have a4:=Zm h0;have a5:=Kh rs;obtain⟨g,jcap,rfl⟩:∃g jcap,jv=.slice (some ⟨g,0,none⟩) rs.length jcap:=by
  rcases h.own.2 with⟨e,e2⟩| ⟨g,jcap,cur,e,_⟩
  ·omega
  ·exact⟨g,jcap,e⟩
 have HH:=zD h;go_enter func188,ntmps188;go_wp2_with fail;refine(nW h hl).mono ?_;rintro e w1 ⟨rfl,J⟩;generalize hc:qV rs=c at *;have HC:=zD hc;have HB1:=zD J;clear h J hc;go_wp2_with fail;go_loopw [3] (fun i wr=>∃n k:Nat,c+k=n/\n<=rs.length/\i=.int .i64 (n:Int)/\aD wr P ty cs cap (Zf rs c k) low (.slice (some ⟨g,0,none⟩) rs.length jcap)/\KB P (.slice (some ⟨g,0,none⟩) rs.length jcap) w wr) (fun i _=>rs.length-(intOf i).toNat)
 case atStart=>exact⟨c,0,rfl,by omega,rfl,by have:=HH.u.zP HB1.u;simpa[Zf] using this,KB.jQ _ HB1.u⟩
 case round=>
  obtain⟨n,k,I,hk,rfl,o,x⟩:=hrel;have k9:=o.k9;have D:(Zf rs c k).length=rs.length:=dR (by omega);by_cases hlt:n < rs.length
  ·have O:¬g=P:=fun e=>o.ne (by rw[e];rfl);have f:=o.own;rw[D]at f;obtain⟨W,V,U,T,R⟩:=sB f n (by omega);have z:(Zf rs c k)[n]'(by omega)=rs[n]:=by
    have:=ri (rs:=rs) (c:=c) (k:=k) (by omega);simp only[I]at this;rw[zJ (by omega)]at this;injection this
   rw[z]at W V U T R;have HN:=zD I;have i1:(n:Int) < (rs.length:Int):=by omega
   have i2:(0:Int)<=(n:Int):=by omega
   have i6:k+1<=n:=by omega
   have i3:(0:Int)<=(k:Int):=by omega
   have i4:(k:Int) < (rs.length:Int):=by omega
   have i5:IntKind.i64.wrap ((n:Int)-(c:Int))=(k:Int):=by rw[yv,yC _ (by omega)];omega
   have A:=sA f k (by omega) rs[n];have F:=mi (rs:=rs) (c:=c) (k:=k) (by omega);simp only[I]at F;rw[F]at A;have HX:=XX o x A;obtain⟨t0,t1,t2,t3,t4⟩:=sB f k (by omega);have z0:=f.frozenAt (k*5);have z1:=f.frozenAt (k*5+1);have z2:=f.frozenAt (k*5+2);have z3:=f.frozenAt (k*5+3);have z4:=f.frozenAt (k*5+4);have a0:=(f.lt g rfl).2;clear o x f A z F I;generalize rs[n]=r at *;have G:=GW k9 W V U T R;go_wp2_with fail;go_region_held3 (fun w'=>w'.cell? ⟨P,9,none⟩=some (.slice (some ⟨g,0,none⟩) rs.length jcap)/\w'.cell? ⟨g,n*5,none⟩=some (.int .i64 r.kind)/\w'.cell? ⟨g,n*5+1,none⟩=some (.int .i64 r.line)/\w'.cell? ⟨g,n*5+2,none⟩=some (.int .i64 r.at_.line)/\w'.cell? ⟨g,n*5+3,none⟩=some (.int .i64 r.at_.cell)/\w'.cell? ⟨g,n*5+4,none⟩=some (.int .i64 r.value))
    (first | (go_keep;done)| exact⟨JU G.u.1 (Or.inl (xK O)),JU G.u.2.1 (Or.inr (show k*5+5<=n*5 by omega)),JU G.u.2.2.1 (Or.inr (show k*5+5<=n*5+1 by omega)),JU G.u.2.2.2.1 (Or.inr (show k*5+5<=n*5+2 by omega)),JU G.u.2.2.2.2.1 (Or.inr (show k*5+5<=n*5+3 by omega)),JU G.u.2.2.2.2.2 (Or.inr (show k*5+5<=n*5+4 by omega))⟩) (fail);go_wp2_with fail;obtain⟨q1,q2,q3⟩:=HX.u;obtain⟨M,L⟩:=B1 q1 q2 q3 (dR (by have:=HN.u;omega));exact⟨⟨n+1,k+1,by have:=HN.u;omega,by omega,by go_num,M,L⟩,by simp[intOf];omega⟩
  ·have a3:k=rs.length-c:=by omega
   have N:n=rs.length:=by omega
   subst N;have i1:¬(rs.length:Int) < (rs.length:Int):=by omega
   have hrow:=o.own;rw[D]at hrow;have H:Zf rs c k=rs.drop c++rs.drop k:=by unfold Zf;rw[yw (by simp;omega)]
   rw[H,Z0]at hrow;have y:wr.ownsRow 0 162 5 (.slice (some ⟨g,0,none⟩) (rs.length-c) jcap) (rs.length-c) (xE (rs.drop c)):=ES hrow (by omega) (by rw[XB,xp]);have ud:=o.ud;have f9:=o.fz 9;have a6:=o.fz 10;have a1:rs.length<=jcap:=by
    rcases hrow.2 with⟨e,_⟩| ⟨g',a2,cur,e,_,_,e3,_⟩
    ·cases e
    ·simp at e;omega
   have j:wr.ownsRow 0 162 5 (.slice (some ⟨g,0,none⟩) (rs.length-c) jcap) (rs.drop c).length (xE (rs.drop c)):=by rw[xp];exact y
   obtain⟨M,L⟩:=o.two (low':=wrap64 (low+1)) j;have Z:∀wq,aD wq P ty ((cs.setIfInBounds 9 (.slice (some ⟨g,0,none⟩) (rs.length-c) jcap)).setIfInBounds 10 (.int .i64 (wrap64 (low+1)))) cap (rs.drop c) (wrap64 (low+1)) (.slice (some ⟨g,0,none⟩) (rs.length-c) jcap)->KB P (.slice (some ⟨g,0,none⟩) rs.length jcap) wr wq->aD wq.drew P ty ((cs.setIfInBounds 9 (.slice (some ⟨g,0,none⟩) (rs.length-c) jcap)).setIfInBounds 10 (.int .i64 (wrap64 (low+1)))) cap (rs.drop (qV rs)) (wrap64 (low+1)) (.slice (some ⟨g,0,none⟩) (rs.length-c) jcap)/\KB P (.slice (some ⟨g,0,none⟩) rs.length jcap) w wq.drew:=fun wq a b=>⟨by rw[HC.u];exact a.zP (zh _),(x.trans b (fun _ h=>Or.inl h)).trans (KB.jQ _ (zh _)) (fun _ h=>Or.inl h)⟩;have HF:=zD (Z _ M L);clear M L Z j;have i2:IntKind.i64.wrap ((rs.length:Int)-(c:Int))=((rs.length-c:Nat):Int):=by rw[yv,yC _ (by omega)];omega
   clear o x hrow y H I hk D;generalize hd:rs.length-c=d at *;have i3:(0:Int)<=(d:Int):=by omega
   have i4:(d:Int)<=(jcap:Int):=by omega
   clear hd;go_wp2_with fail;go_region_law (fail)
   all_goals
    go_wp2_with fail;go_end0;exact⟨rfl,_,HF.u.1,HF.u.2,rfl⟩
theorem C1:(Tryz.prog.info? 162).map (fun i=>(i.zero,i.size,i.bytes))=some (some (.agg #[.int .i64 0,.int .i64 0,.int .i64 0,.int .i64 0,.int .i64 0]),5,40):=by kernel_rfl
theorem wY {a' b':Value}:(((cs.setIfInBounds 9 a).setIfInBounds 10 b).setIfInBounds 9 a').setIfInBounds 10 b'=(cs.setIfInBounds 9 a').setIfInBounds 10 b':=by
 rw[Array.setIfInBounds_comm (i:=10) (j:=9) b a' (by omega),Array.setIfInBounds_setIfInBounds,Array.setIfInBounds_setIfInBounds]
theorem B2 (h:cs[10]?=some b):(cs.setIfInBounds 9 a).setIfInBounds 10 b=cs.setIfInBounds 9 a:=by
 have d:=(Zd.mp h).1;apply Array.ext_getElem?;intro i;by_cases hi:i=10
 ·subst hi;rw[qj (by simp;omega),xn (by omega),h]
 ·rw[xn (by omega)]
theorem aD.one (h:aD w P ty cs cap rs low jv) (d:w.grownBy w1 jv.ownBlock) (i:w1.ownsRow 0 162 5 jv' rs'.length (xE rs')):aD (w1.setCell ⟨P,9,none⟩ jv') P ty (cs.setIfInBounds 9 jv') cap rs' low jv'/\KB P jv w (w1.setCell ⟨P,9,none⟩ jv')/\w1.cell? ⟨P,9,none⟩=some jv/\w1.frozen? ⟨P,9,none⟩=false:=by
 have x:10 < cs.size:=(Zd.mp h.GF).1;have f:w1.heap[P]?=some (.cells cs ty (0,0)):=(d.block P (zQ h.block) (xK h.ne)).trans h.block;have o:∀g,jv'.ownBlock=some g->g≠P:=fun g d e=>by
  obtain⟨c,j⟩:=yW i d;rw[e,f]at j;injection j with j;injection j with _ j;exact h.ty j
 refine⟨⟨zf f 9 jv',?_,?_,?_,?_,h.ty⟩,?_,?_,?_⟩
 ·rw[xn (by omega)];exact h.c8
 ·rw[qj (by omega)]
 ·rw[xn (by omega)];exact h.GF
 ·exact yP i (fun g d=>zO _ _ _ _ (o g d))
 ·exact⟨d.os,d.tape,d.output,zi d.size (by simp[World.setCell]),fun k hk hp hv=>by rw[zO _ _ _ _ hp];exact d.block k hk (xK hv)⟩
 ·exact(vj w1 P 9 cs ty (0,0) f).trans h.c9
 ·exact zS f 9
def Au (w:World) (P:Nat):Nat:=match w.cell? ⟨P,9,none⟩with
 | some (.slice _ n _)=>n
 | _=>0
theorem Cp (h:aD w P ty cs cap rs low jv) {sv:Value} {st:List Rt.Rec} (hs:w.ownsRow B 162 5 sv st.length (xE st)) (h0:0 < st.length) (hl:rs.length+st.length<=1000):Calls Tryz.prog 159 #[.pointer (some ⟨P,8,none⟩),sv] w fun e w'=>e=.returned (.tuple #[])/\∃jv',aD w' P ty ((cs.setIfInBounds 9 jv').setIfInBounds 10 (.int .i64 (QR cap (rs++st) low).2)) cap (QR cap (rs++st) low).1 (QR cap (rs++st) low).2 jv'/\KB P jv w w'/\∀g,jv'.ownBlock=some g->jv.ownBlock=some g\/w.heap.size<=g:=by
 obtain⟨i0,a0,W,V,U⟩:=yi C1;obtain⟨g,scap,rfl⟩:∃g scap,sv=.slice (some ⟨g,0,none⟩) st.length scap:=by
  rcases hs.2 with⟨_,e2⟩| ⟨g,scap,cur,e,_⟩
  ·omega
  ·exact⟨g,scap,e⟩
 have k:∀j u,(xE st)[j]?=some u->w.cell? ((⟨g,0,none⟩:Addr).add j)=some u:=fun j u hu=>by
  obtain⟨g',c',he,_,_,hc⟩:=yD hs hu;simp at he;obtain⟨rfl,rfl⟩:=he;rw[show (⟨g,0,none⟩:Addr).add j=⟨g,j,none⟩ by unfold Addr.add;split <;> simp_all];exact hc
 obtain⟨y,d,rfl⟩:=zK h.own;have R:=h.k9;have F:=h.own;have HH:=qG h k;have G:∀u∈xE st,u.oneCell'=true:=fun u hu=>by
  obtain⟨r,_,hr⟩:=List.mem_flatMap.mp hu;simp[YV]at hr;rcases hr with rfl | rfl | rfl | rfl | rfl <;> rfl
 have HO:=zD G;clear h hs k G;go_enter func159,ntmps159;go_wp2_with (at_builtin;refine wpList_append_lies _ rfl _ _ 94 rfl 0 162 i0 _ 5 40 underlying94 a0 W V U rfl (by decide) _ _ _ rfl F ⟨g,0,none⟩ st.length scap (xE st) rfl (XB st) HH.u.2 HO.u h0 (by unfold maxLen;omega) (by omega) (zo _) w.heap.size rfl ?_);intro g1 cap1 w1 i o hat N;obtain⟨O,p2,p3,p4⟩:=HH.u.1.one (rs':=rs++st) o (by rw[Z0,ze];exact i);rw[<-B2 HH.u.1.GF]at O;have HX:=XX O p2 (show ∀g,(Value.slice (some ⟨g1,0,none⟩) (rs.length+st.length) cap1).ownBlock=some g->(Value.slice y rs.length d).ownBlock=some g\/w.heap.size<=g from fun q hq=>by
  simp[Value.ownBlock]at hq;subst hq;rcases hat with e | e
  ·exact Or.inl e
  ·exact Or.inr (by omega))
 clear F i o hat N O p2;go_wp2_with fail;go_loopw [] (fun wr=>∃(rk:List Rt.Rec) (lk:Int) (jk:Value),aD wr P ty ((cs.setIfInBounds 9 jk).setIfInBounds 10 (.int .i64 lk)) cap rk lk jk/\QR cap rk lk=QR cap (rs++st) low/\rk.length<=1000/\KB P (.slice y rs.length d) w wr/\∀g,jk.ownBlock=some g->(Value.slice y rs.length d).ownBlock=some g\/w.heap.size<=g) (fun wr=>Au wr P)
 case atStart=>exact⟨_,_,_,HX.u.1,rfl,by simp;omega,HX.u.2.1,HX.u.2.2⟩
 case round=>
  clear p3 p4 R;obtain⟨rk,lk,jk,J,z,Z,A,hat⟩:=hrel;obtain⟨I,f,rfl⟩:=zK J.own;have R:=J.k9;have k8:=J.k8;have HM:=zD (show Au wr P=rk.length by unfold Au;rw[R]);by_cases hc:cap < rk.length/\0 < rk.length
  ·have hc1:cap < (rk.length:Int):=hc.1;have a1:(0:Int) < (rk.length:Int):=by omega
   have HJ:=zD ((gJ lk hc).symm.trans z);have H:=XX J A hat;clear J A hat z;go_wp2_with fail;go_quiet (fail);go_wp2_with fail;refine(Ar (H.u.1.zP (below_drewN wr _)) Z hc.2).mono ?_;rintro e w2 ⟨rfl,T,x,L,D⟩;rw[wY]at x;have HZ:=XX x (((H.u.2.1.trans (KB.jQ (jv:=.slice I rk.length f) (below_drewN wr _)) H.u.2.2)).trans L H.u.2.2) (show ∀g,T.ownBlock=some g->(Value.slice y rs.length d).ownBlock=some g\/w.heap.size<=g from fun g hg=>H.u.2.2 g (by rw[<-D];exact hg));obtain⟨a4,a3,rfl⟩:=zK x.own;have M:=x.k9;have HL:=zD (show Au w2 P < Au wr P by
    rw[HM.u];unfold Au;rw[M];have:=Zm hc.2;simp only[xp];omega)
   clear x L D M;go_wp2_with fail;go_roundw
   case rel=>exact⟨_,_,_,HZ.u.1,HJ.u,by rw[xp];omega,HZ.u.2.1,HZ.u.2.2⟩
   case measure=>exact HL.u
  ·have HJ:=zD (show QR cap (rs++st) low=(rk,lk) by rw[<-z];exact Vx lk hc);have H:=zD (show aD _ _ _ _ _ _ _ _/\_/\_ from And.intro J (And.intro A hat));clear J A hat z;by_cases hc1:cap < (rk.length:Int)
   ·have a1:¬(0:Int) < (rk.length:Int):=by omega
    go_wp2_with fail;go_quiet (fail);go_wp2_with fail;go_end0;obtain⟨x,L,D⟩:=H.u;exact⟨rfl,_,by rw[HJ.u];exact x.zP (below_drewN wr _),L.trans (KB.jQ (jv:=.slice I rk.length f) (below_drewN wr _)) D,D⟩
   ·have a2:decide (cap < (rk.length:Int))=false:=by simpa using hc1
    go_wp2_with fail;go_quiet (fail);go_wp2_with fail;go_end0;obtain⟨x,L,D⟩:=H.u;exact⟨rfl,_,by rw[HJ.u];exact x.zP (below_drewN wr _),L.trans (KB.jQ (jv:=.slice I rk.length f) (below_drewN wr _)) D,D⟩
end Go.Proofs.YthleadfkfnnadaaGreat
