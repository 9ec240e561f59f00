/- What this claim leans on. -/
import Derived.Test.YtdfdjfiognhbgaaGreatDoorDBunO
import Derived.Laws.CopyOwn
import Derived.RangeFuncBox
set_option linter.unusedVariables false
set_option linter.unusedSimpArgs false
namespace Go.Proofs.YtdfdjfiognhbgaaGreatDoor
open Go Go.RowKit Go.Proofs.Tryz
set_option maxHeartbeats 16000000
set_option maxRecDepth 100000
variable {A C p:List Nat}{D j k n u1:Nat}
def vC (u2 u1 h:Nat):Nat:=if u2<h then(u2*18446744073709551616+u1) / h else 18446744073709551615
def pY (u2 u1 h:Nat):Nat:=if u2<h then(u2*18446744073709551616+u1)%h else u1+h
def sj (u2 u1 h v:Nat):Nat:=if pY u2 u1 h<vC u2 u1 h*v / 18446744073709551616/\pY u2 u1 h<18446744073709551616 then vC u2 u1 h - 1 else vC u2 u1 h
theorem Vd {u2 h:Nat}(hu:u1<18446744073709551616):vC u2 u1 h<18446744073709551616:=by
 unfold vC
 split
 ·rename_i hc
  refine(QP zb).2 ?_;have:(u2+1)*18446744073709551616<=h*18446744073709551616:=qW _ hc;rw [qS _ h];omega
 ·decide
theorem rC {P U h v M u2:Nat}(H:vS P D U h v M)(hU:U=u2*18446744073709551616+u1)(hu:u1<18446744073709551616):P / D<=sj u2 u1 h v/\sj u2 u1 h v<=P / D+1/\sj u2 u1 h v<18446744073709551616:=by
 have hh:=H.hh;have ht:=H.top;have hq:=H.q.2.2;have tb:=Vd (u2:=u2) (h:=h) hu;have e:vC u2 u1 h*h+pY u2 u1 h=U:=by
  unfold vC pY
  split
  ·rw [hU,qS _ h,XK]
  ·obtain rfl:u2=h:=by rw [hU] at ht;omega
   rw [hU];omega
 have lo:P / D<=vC u2 u1 h:=by
  unfold vC
  split
  ·rw [<-hU];exact(Nat.le_div_iff_mul_le zb).2 H.le
  ·omega
 have up:vC u2 u1 h<=P / D+2:=H.two zb tb;obtain⟨t,c⟩:∃t,vC u2 u1 h=t:=⟨_,rfl⟩;obtain⟨r,a⟩:∃r,pY u2 u1 h=r:=⟨_,rfl⟩;unfold sj;rw [c] at lo up tb e;rw [a] at e;rw [c,a];obtain⟨q,d⟩:∃q,P / D=q:=⟨_,rfl⟩;have vb:=H.vb;have h2:t*v / 18446744073709551616<18446744073709551616:=by
  refine(QP zg).2 ?_;exact QU (Nat.mul_le_mul (show t<=18446744073709551615 by omega) (show v<=18446744073709551615 by omega)) zg
 have d1:=H.dec (t:=t) (r:=r) e;have d2:=H.one (t:=t) (r:=r) e tb;rw [d] at lo up hq d1 d2⊢;obtain⟨x,hx⟩:∃x,t*v / 18446744073709551616=x:=⟨_,rfl⟩;rw [hx] at h2
 split
 ·rename_i hc
  rw [hx] at hc;have h1:=d1 ((Nat.le_div_iff_mul_le zg).1 (by rw [hx];omega));clear d1 d2;omega
 ·rename_i hc
  rw [hx] at hc;have h1:=d2 ((QP zg).1 (by rw [hx];omega));clear d1 d2;omega
theorem UP (x y:Nat)(hx:x<18446744073709551616)(hy:y<18446744073709551616)(w:World):
  Calls prog 214 #[.int .u64 x,.int .u64 y] w λe w'=>e=.returned (.tuple #[.int .u64 ((x*y / 18446744073709551616:Nat):Int),.int .u64 ((x*y%18446744073709551616:Nat):Int)])/\w=w':=by
 have h:=pR x y ⟨zb,zb⟩ ⟨zb,zb⟩ w;rw [show tP (x:Int) (y:Int)=((x*y / 18446744073709551616:Nat):Int) from by unfold tP;simp,show vu (x:Int) (y:Int)=((x*y%18446744073709551616:Nat):Int) from by unfold vu;simp] at h;exact h
theorem UE (hi lo y:Nat)(h1:hi<y)(hy:y<18446744073709551616)(hl:lo<18446744073709551616)(w:World):
  Calls prog 201 #[.int .u64 hi,.int .u64 lo,.int .u64 y] w λe w'=>e=.returned (.tuple #[.int .u64 (((hi*18446744073709551616+lo) / y:Nat):Int),.int .u64 (((hi*18446744073709551616+lo)%y:Nat):Int),.bool true])/\∃n,w'=w.drewN n:=by
 have h:=SB hi lo y ⟨zb,zb⟩ zb zb ⟨zb,zb⟩ w;rw [show vm (hi:Int) (lo:Int) (y:Int)=(((hi*18446744073709551616+lo) / y:Nat):Int) from by unfold vm;simp,show vn (hi:Int) (lo:Int) (y:Int)=(((hi*18446744073709551616+lo)%y:Nat):Int) from by unfold vn;simp] at h;exact h
theorem Zy (x y c:Nat)(hx:x<18446744073709551616)(hy:y<18446744073709551616)(hc:c<=1)(w:World):
  Calls prog 205 #[.int .u64 x,.int .u64 y,.int .u64 c] w λe w'=>e=.returned (.tuple #[.int .u64 (((x+y+c)%18446744073709551616:Nat):Int),.int .u64 (((x+y+c) / 18446744073709551616:Nat):Int)])/\w=w':=by
 have h:=Ud x y c ⟨zb,zb⟩ ⟨zb,zb⟩ ⟨zb,zb⟩ w;rw [We hc,Wc hc] at h;exact h
def sH (w:World)(t:Nat)(e:Ending)(w':World):Prop:=e=.returned (.int .u64 (t:Int))/\∃n,w'=w.drewN n
theorem rz (g k m c1 cd:Nat)(ad:Addr)(u2 u1 h v:Nat)(w:World)(hm:2<=m)(hm2:m<=1099511627776)(hc1:m+1<=c1)(hc:c1<=9223372036854775807)(hcd:m<=cd)(n:cd<=9223372036854775807)
  (j:w.cell? ⟨g,k+m,none⟩=some (.int .u64 (u2:Int))) (i:w.cell? ⟨g,k+(m - 1),none⟩=some (.int .u64 (u1:Int))) (hH:w.cell? (ad.add (m - 1))=some (.int .u64 (h:Int))) (hV:w.cell? (ad.add (m - 2))=some (.int .u64 (v:Int)))
  (u2b:u2<18446744073709551616) (A:u1<18446744073709551616) (hb:h<18446744073709551616) (vb:v<18446744073709551616) (c:u2<h):
  Calls prog 211 #[.slice (some ⟨g,k,none⟩) (m+1) c1,.slice (some ad) m cd] w (sH w (sj u2 u1 h v)):=by
 have et:vC u2 u1 h=(u2*18446744073709551616+u1) / h:=if_pos c;have er:pY u2 u1 h=(u2*18446744073709551616+u1)%h:=if_pos c;have rb:(u2*18446744073709551616+u1)%h<18446744073709551616:=Nat.lt_trans (QH _ zb) hb;have tb:=Vd (u2:=u2) (h:=h) A;have HD:=λw=>UE u2 u1 h c hb A w;have HM:=λw=>UP (vC u2 u1 h) v tb vb w;have HN:sj u2 u1 h v=if pY u2 u1 h<vC u2 u1 h*v / 18446744073709551616/\pY u2 u1 h<18446744073709551616 then vC u2 u1 h - 1 else vC u2 u1 h:=rfl
 rw [et,er] at HN;rw [et] at HM tb;clear et er;obtain⟨t,ht⟩:∃t,(u2*18446744073709551616+u1) / h=t:=⟨_,rfl⟩;obtain⟨r,hr⟩:∃r,(u2*18446744073709551616+u1)%h=r:=⟨_,rfl⟩;rw [ht,hr] at HD HN;rw [hr] at rb;rw [ht] at HM tb;obtain⟨nd,d⟩:∃nd,t*v / 18446744073709551616=nd:=⟨_,rfl⟩;obtain⟨nl,u⟩:∃nl,t*v%18446744073709551616=nl:=⟨_,rfl⟩;rw [d,u] at HM;rw [d] at HN;have hnt:nd<=t:=by
  rw [<-d];refine qL (Nat.div_le_div_right (QB t (QD vb))) ?_;rw [Nat.mul_div_cancel _ zg];exact qY _
 have y:=za HD;have z:=za HM;obtain⟨GN,s⟩:∃GN,sj u2 u1 h v=GN:=⟨_,rfl⟩;rw [s] at HN⊢;have hJ:IntKind.i64.wrap ((m:Int) - 1)=(m:Int) - 1/\IntKind.i64.wrap ((m:Int) - 2)=(m:Int) - 2:=⟨QO _ zb,QO _ zb⟩;have hK:((m:Int) - 1).toNat=m - 1/\((m:Int) - 2).toNat=m - 2:=⟨zb,zb⟩;have hL:(0:Int)<=(m:Int) - 1/\(m:Int) - 1<(m:Int)/\(0:Int)<=(m:Int) - 2/\(m:Int) - 2<(m:Int)/\(m:Int)<(m:Int)+1/\(m:Int) - 1<(m:Int)+1:=zb;obtain⟨l1,l2,l3,l4,l5,l6⟩:=hL;by_cases hc:r<nd
 ·rw [if_pos ⟨hc,rb⟩] at HN;have HG:=za HN;have t1:decide ((r:Int)<(nd:Int))=true:=by simpa using hc
  have t2:0<t:=zb;have t3:IntKind.u64.wrap ((t:Int) - 1)=(t:Int) - 1:=by rw [QA];omega
  clear HD HM HN ht hr d u s rb c n;obtain⟨j1,j2⟩:=hJ;obtain⟨j3,j4⟩:=hK;go_enter func211,ntmps211;go_wp2
  go_quiet (fail)
  obtain⟨w1,a⟩:∃w1,w.drewN nq=w1:=⟨_,rfl⟩;have o:=za a;have j:w1.cell? ⟨g,k+m,none⟩=some (.int .u64 (u2:Int)):=by rw [<-a];exact j
  have i:w1.cell? ⟨g,k+(m - 1),none⟩=some (.int .u64 (u1:Int)):=by rw [<-a];exact i
  rw [a];clear a;go_wp2
  go_quiet ((go_at_call 201;exact Calls.quiet_of (y.o _)))
  go_wp2_with (go_at_call 214;(with_reducible refine(z.o _).mono ?_);rintro e w' ⟨rfl,rfl⟩);go_ret;refine⟨by rw [HG.o];show Ending.returned (.int .u64 ((t:Int) - 1))=_;rw [Int.ofNat_sub zb];rfl,?_⟩;rw [<-o.o,World.drewN_drewN];exact⟨_,rfl⟩
 ·rw [if_neg (λh=>hc h.1)] at HN;have HG:=za HN;have t1:decide ((r:Int)<(nd:Int))=false:=by simpa using hc
  clear HD HM HN ht hr d u s rb c n;obtain⟨j1,j2⟩:=hJ;obtain⟨j3,j4⟩:=hK;go_enter func211,ntmps211;go_wp2
  go_quiet (fail)
  obtain⟨w1,a⟩:∃w1,w.drewN nq=w1:=⟨_,rfl⟩;have o:=za a;have j:w1.cell? ⟨g,k+m,none⟩=some (.int .u64 (u2:Int)):=by rw [<-a];exact j
  have i:w1.cell? ⟨g,k+(m - 1),none⟩=some (.int .u64 (u1:Int)):=by rw [<-a];exact i
  rw [a];clear a;go_wp2
  go_quiet ((go_at_call 201;exact Calls.quiet_of (y.o _)))
  go_wp2_with (go_at_call 214;(with_reducible refine(z.o _).mono ?_);rintro e w' ⟨rfl,rfl⟩);go_ret;refine⟨by rw [HG.o];rfl,?_⟩;rw [<-o.o,World.drewN_drewN];exact⟨_,rfl⟩
theorem rv (g k m c1 cd:Nat)(ad:Addr)(u2 u1 h v:Nat)(w:World)(hm:2<=m)(hm2:m<=1099511627776)(hc1:m+1<=c1)(hc:c1<=9223372036854775807)(hcd:m<=cd)(n:cd<=9223372036854775807)
  (d:w.cell? ⟨g,k+m,none⟩=some (.int .u64 (u2:Int))) (c:w.cell? ⟨g,k+(m - 1),none⟩=some (.int .u64 (u1:Int))) (hH:w.cell? (ad.add (m - 1))=some (.int .u64 (h:Int))) (hV:w.cell? (ad.add (m - 2))=some (.int .u64 (v:Int)))
  (u2b:u2<18446744073709551616) (B:u1<18446744073709551616) (hb:h<18446744073709551616) (vb:v<18446744073709551616) (o:¬ u2<h):
  Calls prog 211 #[.slice (some ⟨g,k,none⟩) (m+1) c1,.slice (some ad) m cd] w (sH w (sj u2 u1 h v)):=by
 have et:vC u2 u1 h=18446744073709551615:=if_neg o;have er:pY u2 u1 h=u1+h:=if_neg o;have HD:=λw=>SP u2 u1 h zb w;have HM:∀w,Calls prog 214 #[.int .u64 18446744073709551615,.int .u64 v] w λe w'=>e=.returned (.tuple #[.int .u64 ((18446744073709551615*v / 18446744073709551616:Nat):Int),.int .u64 ((18446744073709551615*v%18446744073709551616:Nat):Int)])/\w=w':=λw=>UP 18446744073709551615 v zg vb w;have HA:∀w,Calls prog 205 #[.int .u64 u1,.int .u64 h,.int .u64 0] w λe w'=>e=.returned (.tuple #[.int .u64 (((u1+h+0)%18446744073709551616:Nat):Int),.int .u64 (((u1+h+0) / 18446744073709551616:Nat):Int)])/\w=w':=λw=>Zy u1 h 0 B hb zg w;have HN:sj u2 u1 h v=if pY u2 u1 h<vC u2 u1 h*v / 18446744073709551616/\pY u2 u1 h<18446744073709551616 then vC u2 u1 h - 1 else vC u2 u1 h:=rfl
 rw [et,er] at HN;clear et er;obtain⟨nd,s⟩:∃nd,18446744073709551615*v / 18446744073709551616=nd:=⟨_,rfl⟩;obtain⟨nl,y⟩:∃nl,18446744073709551615*v%18446744073709551616=nl:=⟨_,rfl⟩;rw [s,y] at HM;rw [s] at HN;have z:=za HD;have A:=za HM;obtain⟨GN,u⟩:∃GN,sj u2 u1 h v=GN:=⟨_,rfl⟩;rw [u] at HN⊢;have hJ:IntKind.i64.wrap ((m:Int) - 1)=(m:Int) - 1/\IntKind.i64.wrap ((m:Int) - 2)=(m:Int) - 2:=⟨QO _ zb,QO _ zb⟩;have hK:((m:Int) - 1).toNat=m - 1/\((m:Int) - 2).toNat=m - 2:=⟨zb,zb⟩;have hL:(0:Int)<=(m:Int) - 1/\(m:Int) - 1<(m:Int)/\(0:Int)<=(m:Int) - 2/\(m:Int) - 2<(m:Int)/\(m:Int)<(m:Int)+1/\(m:Int) - 1<(m:Int)+1:=zb;obtain⟨l1,l2,l3,l4,l5,l6⟩:=hL;by_cases hr:u1+h<18446744073709551616
 ·rw [show(u1+h+0)%18446744073709551616=u1+h from by omega,show(u1+h+0) / 18446744073709551616=0 from by omega] at HA;obtain⟨r,i⟩:∃r,u1+h=r:=⟨_,rfl⟩;rw [i] at HA HN hr;have t:=za HA;by_cases hc:r<nd
  ·rw [if_pos ⟨hc,hr⟩] at HN;have HG:=za HN;have t1:decide ((r:Int)<(nd:Int))=true:=by simpa using hc
   clear i hr;clear HD HM HN HA s y u o n;obtain⟨j1,j2⟩:=hJ;obtain⟨j3,j4⟩:=hK;go_enter func211,ntmps211;go_wp2
   go_quiet (fail)
   obtain⟨w1,a⟩:∃w1,w.drewN nq=w1:=⟨_,rfl⟩;have j:=za a;have d:w1.cell? ⟨g,k+m,none⟩=some (.int .u64 (u2:Int)):=by rw [<-a];exact d
   have c:w1.cell? ⟨g,k+(m - 1),none⟩=some (.int .u64 (u1:Int)):=by rw [<-a];exact c
   rw [a];clear a;go_wp2
   go_quiet ((go_at_call 201;exact lS (z.o _)))
   have c:(w1.drewN nq).cell? ⟨g,k+(m - 1),none⟩=some (.int .u64 (u1:Int)):=c;go_wp2_with (first|(go_at_call 214;(with_reducible refine(A.o _).mono ?_);rintro e w' ⟨rfl,rfl⟩)|(go_at_call 205;(with_reducible refine(t.o _).mono ?_);rintro e w' ⟨rfl,rfl⟩));go_ret;refine⟨by rw [HG.o];rfl,?_⟩;rw [<-j.o,World.drewN_drewN];exact⟨_,rfl⟩
  ·rw [if_neg (λh=>hc h.1)] at HN;have HG:=za HN;have t1:decide ((r:Int)<(nd:Int))=false:=by simpa using hc
   clear i hr;clear HD HM HN HA s y u o n;obtain⟨j1,j2⟩:=hJ;obtain⟨j3,j4⟩:=hK;go_enter func211,ntmps211;go_wp2
   go_quiet (fail)
   obtain⟨w1,a⟩:∃w1,w.drewN nq=w1:=⟨_,rfl⟩;have j:=za a;have d:w1.cell? ⟨g,k+m,none⟩=some (.int .u64 (u2:Int)):=by rw [<-a];exact d
   have c:w1.cell? ⟨g,k+(m - 1),none⟩=some (.int .u64 (u1:Int)):=by rw [<-a];exact c
   rw [a];clear a;go_wp2
   go_quiet ((go_at_call 201;exact lS (z.o _)))
   have c:(w1.drewN nq).cell? ⟨g,k+(m - 1),none⟩=some (.int .u64 (u1:Int)):=c;go_wp2_with (first|(go_at_call 214;(with_reducible refine(A.o _).mono ?_);rintro e w' ⟨rfl,rfl⟩)|(go_at_call 205;(with_reducible refine(t.o _).mono ?_);rintro e w' ⟨rfl,rfl⟩));go_ret;refine⟨by rw [HG.o];rfl,?_⟩;rw [<-j.o,World.drewN_drewN];exact⟨_,rfl⟩
 ·rw [show(u1+h+0) / 18446744073709551616=1 from by omega] at HA;obtain⟨r,i⟩:∃r,(u1+h+0)%18446744073709551616=r:=⟨_,rfl⟩;rw [i] at HA;have t:=za HA;rw [if_neg (λh=>hr h.2)] at HN;have HG:=za HN;clear i hr;clear HD HM HN HA s y u o n;obtain⟨j1,j2⟩:=hJ;obtain⟨j3,j4⟩:=hK;go_enter func211,ntmps211;go_wp2
  go_quiet (fail)
  obtain⟨w1,a⟩:∃w1,w.drewN nq=w1:=⟨_,rfl⟩;have j:=za a;have d:w1.cell? ⟨g,k+m,none⟩=some (.int .u64 (u2:Int)):=by rw [<-a];exact d
  have c:w1.cell? ⟨g,k+(m - 1),none⟩=some (.int .u64 (u1:Int)):=by rw [<-a];exact c
  rw [a];clear a;go_wp2
  go_quiet ((go_at_call 201;exact lS (z.o _)))
  have c:(w1.drewN nq).cell? ⟨g,k+(m - 1),none⟩=some (.int .u64 (u1:Int)):=c;go_wp2_with (first|(go_at_call 214;(with_reducible refine(A.o _).mono ?_);rintro e w' ⟨rfl,rfl⟩)|(go_at_call 205;(with_reducible refine(t.o _).mono ?_);rintro e w' ⟨rfl,rfl⟩));go_ret;refine⟨by rw [HG.o];rfl,?_⟩;rw [<-j.o,World.drewN_drewN];exact⟨_,rfl⟩
def yu (g:Nat)(w w':World):Prop:=w.grownBy w' (some g)
section
variable {g:Nat}{w w' w2:World}
theorem yu.refl (g:Nat)(w:World):yu g w w:=⟨rfl,rfl,rfl,qY _,λ_ _ _=>rfl⟩
theorem yu.trans (h:yu g w w')(k:yu g w' w2):yu g w w2:=
 ⟨k.os.trans h.os,k.tape.trans h.tape,k.output.trans h.output,qL h.size k.size,λi hi a=>(k.block i (qJ hi h.size) a).trans (h.block i hi a)⟩
theorem yu.set_ (h:yu g w w')(k:Nat)(u:Value):yu g w (w'.setCell ⟨g,k,none⟩ u):=
 h.trans ⟨rfl,rfl,rfl,by simp [World.setCell],λi _ a=>Below.heap_setCell _ _ _ i (λe=>a (by rw [e]))⟩
theorem yu.drewN (h:yu g w w')(n:Nat):yu g w (w'.drewN n):=⟨h.os,h.tape,h.output,h.size,h.block⟩
theorem yu.blk {b:Nat}{t:TypeId}{cs:Array Value}(h:yu g w w')(hb:zh w b t cs)(a:b≠g):zh w' b t cs:=hb.grown h (λe=>a (by injection e))
theorem yu.reads {A:ze}{xs:List Value}(h:yu g w w')(hr:zH w g 1 A n xs)(hg:g<=w.heap.size):zH w' g 1 A n xs:=hr.grown h hg (λ_ e=>by cases e;exact qY _)
theorem yu.below {B:Nat}{w0:World}(h:yu g w w')(hb:Below B w0 w)(hB:B<=w.heap.size)(hg:B<=g):Below B w0 w':=hb.grown h hB (λ_ e=>by cases e;exact hg)
theorem yu.cell {p:Addr}{v:Value}(h:yu g w w')(hc:w.cell? p=some v)(a:p.block≠g):w'.cell? p=some v:=World.grownBy.cell h hc (λe=>a (by injection e))
end
theorem fF (hA:A.length=k)(hj:j<p.length):(A++p++C).getD (k+j) 0=p.getD j 0:=by
 simp only [qQ];rw [xJ,QK zb,QR zb,hA,yH]
theorem eY {d:Nat}(hA:A.length=k)(hj:j<p.length):(A++p++C).set (k+j) d=A++p.set j d++C:=by
 rw [xJ,YR _ _ zb,hA,yH,List.set_append_left _ _ hj,xJ]
theorem WG (a b c:Nat)(ha:a<18446744073709551616)(hb:b<18446744073709551616)(hc:c<=1):∃d c':Nat,d<18446744073709551616/\c'<=1/\d+b+c=a+18446744073709551616*c'/\
  ∀w:World,Calls prog 206 #[.int .u64 a,.int .u64 b,.int .u64 c] w λe w'=>e=.returned (.tuple #[.int .u64 (d:Int),.int .u64 (c':Int)])/\w=w':=by
 obtain⟨d,c',e1,e2,h1,h2,h3⟩:=Zv ha hb hc;refine⟨d,c',h1,h2,h3,λw=>?_⟩;have h:=Uu a b c ⟨zb,zb⟩ ⟨zb,zb⟩ ⟨zb,zb⟩ w;rw [e1,e2] at h;exact h
theorem nU (p q r:Nat)(hp:p<18446744073709551616)(hq:q<18446744073709551616)(hr:r<18446744073709551616)(w:World):
  Calls prog 165 #[.int .u64 p,.int .u64 q,.int .u64 r,.int .u64 0] w λe w'=>e=.returned (.tuple #[.int .u64 (((p*q+r+0) / 18446744073709551616:Nat):Int),.int .u64 (((p*q+r+0)%18446744073709551616:Nat):Int)])/\w=w':=
 Xq p q r 0 hp hq hr zg w
def sM (w:World)(ty:TypeId)(g cap N m t:Nat)(A p C Ld:List Nat)(e:Ending)(w':World):Prop:=
 ∃(b:Nat) (p':List Nat),e=.returned (.bool (b==1))/\b<=1/\p'.length=m+1/\zD 18446744073709551616 p'/\dv 18446744073709551616 p'+t*dv 18446744073709551616 Ld=dv 18446744073709551616 p+18446744073709551616^(m+1)*b/\zF w' ty g cap N (A++p'++C)/\yu g w w'
theorem TJ (ty:TypeId)(g cap N k m c1 cd t:Nat)(ad:Addr)(A p C Ld:List Nat)(w:World)(hR:zF w ty g cap N (A++p++C))(hA:A.length=k)(hp:p.length=m+1)(Q:zD 18446744073709551616 p)
  (hD:zH w g 1 (some ad) m (zq .u64 Ld)) (M:zD 18446744073709551616 Ld) (hm2:m<=1099511627776) (hc1:m+1<=c1) (hc:c1<=9223372036854775807) (hcd:m<=cd) (hcd2:cd<=9223372036854775807) (ht:t<18446744073709551616):
  Calls prog 212 #[.slice (some ⟨g,k,none⟩) (m+1) c1,.slice (some ad) m cd,.int .u64 t] w (sM w ty g cap N m t A p C Ld):=by
 have K:=hR.len;have O:=hD.len_;have HA:=za hA;have HP:=za hp;have v:=za (show k+(m+1)<=N by simp at K;omega);have R:=za O;have J:=za M;have HI:=za (lq.start Ld t Q);have HO:=yu.refl g w;clear hA hp K O M Q;go_enter func212,ntmps212;go_wp2_with fail
 go_loopg [7,8,16] (m+1) (λgg cy bo ix wr=>∃(i cc bb:Nat) (q:List Nat),i<=m/\m<gg+i/\ix=.int .i64 i/\cy=.int .u64 cc/\bo=.int .u64 bb/\lq p Ld t i q cc bb/\zF wr ty g cap N (A++q++C)/\yu g w wr/\zH wr g 1 (some ad) m (zq .u64 Ld))
 case atStart=>exact⟨0,0,0,p,qN _,zb,rfl,rfl,rfl,HI.o,hR,HO,hD⟩
 case round=>
  clear hR HI HO hD;obtain⟨i,cc,bb,q,him,hgg,rfl,rfl,rfl,hI,hR,hO,hD⟩:=hrel;have c:=hI.len;by_cases hlt:i<m
  ·obtain⟨ad',e,hadb,h1⟩:=wB hD (k:=i) hlt;cases e;have U:=J.o.getD zg i;have h2:=hR.cell (k+i) (by have:=v.o;omega);rw [fF HA.o (by rw [c,HP.o];omega)] at h2;have h3:=hR.frozen (k+i);have V:=hI.carry;have o:=hI.dgs.getD zg i;obtain⟨b,B⟩:∃b,Ld.getD i 0=b:=⟨_,rfl⟩;have D:=λw'=>nU b t cc (by rw [<-B];exact U) ht V w';obtain⟨d,b',I,z,hx,hS⟩:=WG (q.getD i 0) ((b*t+cc+0)%18446744073709551616) bb o (QH _ zg) hI.lack;have j:=za (hI.step (s:=Ld.getD i 0*t+cc+0) (d:=d) (b':=b') ht J.o (by rw [HP.o];omega) rfl I z (by rw [B];exact hx));have a:=hR.set_ (k+i) d (by have:=v.o;omega);rw [eY HA.o (by rw [c,HP.o];omega)] at a;have F:=za a;have E:=za (λu=>hO.set_ (k+i) u);have S:=za (λu=>hD.setCell (p:=⟨g,k+i,none⟩) (qY _) u);rw [B] at h1 j;obtain⟨pv,n⟩:∃b,q.getD i 0=b:=⟨_,rfl⟩;rw [n] at h2 hS;obtain⟨s1,e1⟩:∃s1,(b*t+cc+0)%18446744073709551616=s1:=⟨_,rfl⟩;obtain⟨s2,e2⟩:∃s2,(b*t+cc+0) / 18446744073709551616=s2:=⟨_,rfl⟩;rw [e1,e2] at D;rw [e1] at hS;rw [e2] at j;have T:=za D;have y:=za hS;have i1:(0:Int)<=(i:Int):=zb;have i2:(i:Int)<(m:Int):=zb;have i3:(i:Int)<(m:Int)+1:=zb;have i4:i<m+1:=zb;clear D hS hx n e1 e2 B hI hR hO hD o a c;go_wp2_with (first|(go_at_call 165;(with_reducible refine(T.o _).mono ?_);rintro e w' ⟨rfl,rfl⟩)|(go_at_call 206;(with_reducible refine(y.o _).mono ?_);rintro e w' ⟨rfl,rfl⟩));go_roundg (m - i)
   case measure=>omega
   case rel=>exact⟨i+1,s2,b',_,zb,zb,by go_num,rfl,rfl,j.o,F.o,E.o _,S.o _⟩
  ·have P:i=m:=zb;subst P;have h2:=hR.cell (k+i) (by have:=v.o;omega);rw [fF HA.o (by rw [c,HP.o];omega)] at h2;have h3:=hR.frozen (k+i);have o:=hI.dgs.getD zg i;obtain⟨d,b',I,z,hx,hS⟩:=WG (q.getD i 0) cc bb o hI.carry hI.lack;have j:=za (hI.last (d:=d) (b':=b') (by rw [HP.o]) (by rw [R.o]) I z hx);have a:=hR.set_ (k+i) d (by have:=v.o;omega);rw [eY HA.o (by rw [c,HP.o];omega)] at a;have F:=za a;have E:=za (hO.set_ (k+i) (.int .u64 (d:Int)));obtain⟨pv,n⟩:∃b,q.getD i 0=b:=⟨_,rfl⟩;rw [n] at h2 hS;have y:=za hS;have i1:(0:Int)<=(i:Int):=zb;have i3:(i:Int)<(i:Int)+1:=zb;have i4:i<i+1:=zb;clear hS hx n hI hR hO hD o a c;have G:∀H:Bool,H=(b'==1)->sM w ty g cap N i t A p C Ld (.returned (.bool H)) (wr.setCell ⟨g,k+i,none⟩ (.int .u64 (d:Int))):=λH L=>by
    obtain⟨g1,g2,g3⟩:=j.o;rw [HP.o] at g1 g3;exact⟨b',_,by rw [L],z,g1,g2,g3,F.o,E.o⟩
   have HG:=za G;clear G;rcases (show b'=0\/b'=1 by omega) with rfl|rfl
   ·go_wp2_with (go_at_call 206;(with_reducible refine(y.o _).mono ?_);rintro e w' ⟨rfl,rfl⟩);go_ret;exact HG.o _ rfl
   ·go_wp2_with (go_at_call 206;(with_reducible refine(y.o _).mono ?_);rintro e w' ⟨rfl,rfl⟩);go_ret;exact HG.o _ rfl
def sB (w:World)(ty:TypeId)(g cap N m:Nat)(A p C Ld:List Nat)(e:Ending)(w':World):Prop:=
 ∃(v:Value) (p':List Nat),e=.returned v/\p'.length=m+1/\zD 18446744073709551616 p'/\dv 18446744073709551616 p'=(dv 18446744073709551616 p+dv 18446744073709551616 Ld)%18446744073709551616^(m+1)/\zF w' ty g cap N (A++p'++C)/\yu g w w'
theorem TQ (ty:TypeId)(g cap N k m c1 cd:Nat)(ad:Addr)(A p C Ld:List Nat)(w:World)(hR:zF w ty g cap N (A++p++C))(hA:A.length=k)(hp:p.length=m+1)(K:zD 18446744073709551616 p)
  (hD:zH w g 1 (some ad) m (zq .u64 Ld)) (H:zD 18446744073709551616 Ld) (hm2:m<=1099511627776) (hc1:m+1<=c1) (hc:c1<=9223372036854775807) (hcd:m<=cd) (hcd2:cd<=9223372036854775807):
  Calls prog 213 #[.slice (some ⟨g,k,none⟩) (m+1) c1,.slice (some ad) m cd] w (sB w ty g cap N m A p C Ld):=by
 have D:=hR.len;have I:=hD.len_;have HA:=za hA;have HP:=za hp;have o:=za (show k+(m+1)<=N by simp at D;omega);have L:=za I;have B:=za H;have HI:=za (lm.start Ld K);have HO:=yu.refl g w;clear hA hp D I H K;go_enter func213,ntmps213;go_wp2_with fail
 go_loopg [4,10] (m+1) (λgg cy ix wr=>∃(i cc:Nat) (q:List Nat),i<=m/\m<gg+i/\ix=.int .i64 i/\cy=.int .u64 cc/\lm p Ld i q cc/\zF wr ty g cap N (A++q++C)/\yu g w wr/\zH wr g 1 (some ad) m (zq .u64 Ld))
 case atStart=>exact⟨0,0,p,qN _,zb,rfl,rfl,HI.o,hR,HO,hD⟩
 case round=>
  clear hR HI HO hD;obtain⟨i,cc,q,him,hgg,rfl,rfl,hI,hR,hO,hD⟩:=hrel;have j:=hI.len;by_cases hlt:i<m
  ·obtain⟨ad',e,hadb,h1⟩:=wB hD (k:=i) hlt;cases e;have E:=B.o.getD zg i;have h2:=hR.cell (k+i) (by have:=o.o;omega);rw [fF HA.o (by rw [j,HP.o];omega)] at h2;have h3:=hR.frozen (k+i);have z:=hI.carry;have d:=hI.dgs.getD zg i;have a:=hI.step (s:=q.getD i 0+Ld.getD i 0+cc) B.o (by rw [HP.o];omega) rfl;obtain⟨b,F⟩:∃b,Ld.getD i 0=b:=⟨_,rfl⟩;obtain⟨pv,n⟩:∃b,q.getD i 0=b:=⟨_,rfl⟩;rw [F] at h1 E a;rw [n] at h2 d a;have hS:=λw=>Zy pv b cc d E z w;have c:=hR.set_ (k+i) ((pv+b+cc)%18446744073709551616) (by have:=o.o;omega);rw [eY HA.o (by rw [j,HP.o];omega)] at c;obtain⟨s1,e1⟩:∃s1,(pv+b+cc)%18446744073709551616=s1:=⟨_,rfl⟩;obtain⟨s2,e2⟩:∃s2,(pv+b+cc) / 18446744073709551616=s2:=⟨_,rfl⟩;rw [e1,e2] at hS a;rw [e1] at c;have a:=za a;have O:=za c;have t:=za (λu=>hO.set_ (k+i) u);have M:=za (λu=>hD.setCell (p:=⟨g,k+i,none⟩) (qY _) u);have y:=za hS;have i1:(0:Int)<=(i:Int):=zb;have i2:(i:Int)<(m:Int):=zb;have i3:(i:Int)<(m:Int)+1:=zb;have i4:i<m+1:=zb;clear hS n e1 e2 F hI hR hO hD d c j;go_wp2_with (go_at_call 205;(with_reducible refine(y.o _).mono ?_);rintro e w' ⟨rfl,rfl⟩);go_roundg (m - i)
   case measure=>omega
   case rel=>exact⟨i+1,s2,_,zb,zb,by go_num,rfl,a.o,O.o,t.o _,M.o _⟩
  ·have J:i=m:=zb;subst J;have h2:=hR.cell (k+i) (by have:=o.o;omega);rw [fF HA.o (by rw [j,HP.o];omega)] at h2;have h3:=hR.frozen (k+i);have z:=hI.carry;have d:=hI.dgs.getD zg i;have a:=hI.last (s:=q.getD i 0+0+cc) (by rw [HP.o]) (by rw [L.o]) rfl;obtain⟨pv,n⟩:∃b,q.getD i 0=b:=⟨_,rfl⟩;rw [n] at h2 d a;have hS:∀w,Calls prog 205 #[.int .u64 pv,.int .u64 0,.int .u64 cc] w λe w'=>e=.returned (.tuple #[.int .u64 (((pv+0+cc)%18446744073709551616:Nat):Int),.int .u64 (((pv+0+cc) / 18446744073709551616:Nat):Int)])/\w=w':=λw=>Zy pv 0 cc d zg z w;have c:=hR.set_ (k+i) ((pv+0+cc)%18446744073709551616) (by have:=o.o;omega);rw [eY HA.o (by rw [j,HP.o];omega)] at c;obtain⟨s1,e1⟩:∃s1,(pv+0+cc)%18446744073709551616=s1:=⟨_,rfl⟩;obtain⟨s2,e2⟩:∃s2,(pv+0+cc) / 18446744073709551616=s2:=⟨_,rfl⟩;rw [e1] at a c;rw [e1,e2] at hS;have y:=za hS;have t:=za (hO.set_ (k+i) (.int .u64 (s1:Int)));have i1:(0:Int)<=(i:Int):=zb;have i3:(i:Int)<(i:Int)+1:=zb;have i4:i<i+1:=zb;have G:∀v:Value,sB w ty g cap N i A p C Ld (.returned v) (wr.setCell ⟨g,k+i,none⟩ (.int .u64 (s1:Int))):=λv=>by
    obtain⟨g1,g2,g3⟩:=a;rw [HP.o] at g1 g3;exact⟨v,_,rfl,g1,g2,g3,c,t.o⟩
   have HG:=za G;clear G hS n hI hR hO hD d c j e1 e2 a;go_wp2_with (go_at_call 205;(with_reducible refine(y.o _).mono ?_);rintro e w' ⟨rfl,rfl⟩)
   go_end0
   exact HG.o _
def oV (w:World)(ty:TypeId)(g cap N m:Nat)(A p C Ld:List Nat)(e:Ending)(w':World):Prop:=
 ∃p':List Nat,e=.returned (.int .u64 ((dv 18446744073709551616 p / dv 18446744073709551616 Ld:Nat):Int))/\p'.length=m+1/\zD 18446744073709551616 p'/\dv 18446744073709551616 p'=dv 18446744073709551616 p%dv 18446744073709551616 Ld/\zF w' ty g cap N (A++p'++C)/\yu g w w'
theorem TS (ty:TypeId)(g cap N k m c1 cd:Nat)(ad:Addr)(A p C Ld:List Nat)(w:World)(hR:zF w ty g cap N (A++p++C))(hA:A.length=k)(hp:p.length=m+1)(u:zD 18446744073709551616 p)
  (hD:zH w g 1 (some ad) m (zq .u64 Ld)) (c:zD 18446744073709551616 Ld) (hm:2<=m) (J:m<=1099511627776) (H:m+1<=c1) (hc:c1<=9223372036854775807) (I:m<=cd) (i:cd<=9223372036854775807)
  (L:18446744073709551616<=2*Ld.getD (m - 1) 0) (ab:dv 18446744073709551616 p<18446744073709551616*dv 18446744073709551616 Ld):
  Calls prog 204 #[.slice (some ⟨g,k,none⟩) (m+1) c1,.slice (some ad) m cd] w (oV w ty g cap N m A p C Ld):=by
 have V:=hR.len;have O:=hD.len_;have hg:=hR.lt;have av:k+(m+1)<=N:=by simp at V;omega
 obtain⟨j,rfl⟩:∃j,m=j+2:=⟨m - 2,zb⟩;have T:=jp (m:=j) u c hp O L ab;have z:=hR.cell (k+(j+2)) zb;have B:=hR.cell (k+(j+1)) zb;rw [fF hA zb] at z B;obtain⟨ao,e,aa,d1⟩:=wB hD (k:=j+1) zb;cases e;obtain⟨ao,e,_,d2⟩:=wB hD (k:=j) zb;cases e;have b1:=u.getD zg (j+2);have b2:=u.getD zg (j+1);have b3:=c.getD zg (j+1);have b4:=c.getD zg j;have GL:=rC T rfl b2;have HG:Calls prog 211 #[.slice (some ⟨g,k,none⟩) (j+2+1) c1,.slice (some ad) (j+2) cd] w (sH w (sj (p.getD (j+2) 0) (p.getD (j+1) 0) (Ld.getD (j+1) 0) (Ld.getD j 0))):=by
  by_cases hc:p.getD (j+2) 0<Ld.getD (j+1) 0
  ·exact rz g k (j+2) c1 cd ad _ _ _ _ w zb J H ‹_› I i z B d1 d2 b1 b2 b3 b4 hc
  ·exact rv g k (j+2) c1 cd ad _ _ _ _ w zb J H ‹_› I i z B d1 d2 b1 b2 b3 b4 hc
 obtain⟨t,ag⟩:∃t,sj (p.getD (j+2) 0) (p.getD (j+1) 0) (Ld.getD (j+1) 0) (Ld.getD j 0)=t:=⟨_,rfl⟩;rw [ag] at HG GL;obtain⟨lo,up,tb⟩:=GL;have hS:=λn=>TJ ty g cap N k (j+2) c1 cd t ad A p C Ld (w.drewN n) hR hA hp u hD c J H ‹_› I i tb;have R:=vg u;rw [hp] at R;have K:=vg c;rw [O] at K;have aj:=za HG;have an:=za hS;have M:=T.Dpos;have ap:=za (λw' q (aw:zF w' ty g cap N (A++q++C)) (hq:q.length=j+2+1) (d:zD 18446744073709551616 q) (ar:zH w' g 1 (some ad) (j+2) (zq .u64 Ld))=>TQ ty g cap N k (j+2) c1 cd ad A q C Ld w' aw hA hq d ar c J H ‹_› I i);have HR:=za (λX b'=>RR (P:=dv 18446744073709551616 p) (D:=dv 18446744073709551616 Ld) (t:=t) (X:=X) (E:=18446744073709551616^(j+2+1)) (b':=b'));have HV:=za (λX b'=>PF (P:=dv 18446744073709551616 p) (D:=dv 18446744073709551616 Ld) (t:=t) (X:=X) (E:=18446744073709551616^(j+2+1)) (b':=b'));have al:=za (QH (dv 18446744073709551616 p) M);have U:dv 18446744073709551616 Ld<=18446744073709551616^(j+2+1):=by
  have:18446744073709551616^(j+2)<=18446744073709551616^(j+2+1):=qV zg zb;omega
 have ah:=za U;have am:=za R;have au:=za (λn=>(yu.refl g w).drewN n);have ai:=za (λw' (h:yu g w w')=>h.reads hD (QD hg));have S:=za M;obtain⟨Q,hQ⟩:∃Q,dv 18446744073709551616 p / dv 18446744073709551616 Ld=Q:=⟨_,rfl⟩;have HQ:=za hQ;have ak:=za (show t=Q\/t=Q+1 by rw [hQ] at lo up;omega);clear HG hS hR hD u c T z B d1 d2 b1 b2 b3 b4 L ab hp hA ag aa M U R K hQ lo up O V av;go_enter func204,ntmps204;go_wp2_with fail;refine aj.o.mono ?_;rintro e w1 ⟨rfl,n,rfl⟩;go_wp2_with fail;refine(an.o n).mono ?_;rintro e w2 ⟨b,q,rfl,hb,y,d,o,F,a⟩;have a:=(au.o n).trans a;have s:=vg d;rw [y] at s;rcases ak.o with ht|ht
 ·obtain⟨rfl,hX⟩:=HR.out _ _ (by rw [HQ.o];exact ht) S.o s o hb;have G:zd (oV w ty g cap N (j+2) A p C Ld (.returned (.int .u64 (t:Int))) w2):=⟨q,by rw [HQ.o,ht],y,d,hX,F,a⟩;clear F a hX s d o y ht hb;go_wp2;go_ret;exact G.o
 ·obtain⟨rfl,hX⟩:=HV.out _ _ (by rw [HQ.o];exact ht) S.o am.o s o hb;have aq:=za (Rw hX al.o s ah.o);have HB:=za (ap.o w2 q F y d (ai.o _ a));have HT:=za ht;have t2:0<t:=zb;have t3:IntKind.u64.wrap ((t:Int) - 1)=(t:Int) - 1:=by rw [QA];omega
  clear F hX s d o y ht hb;go_wp2_with fail;refine HB.o.mono ?_;rintro e w3 ⟨v,r,rfl,ae,ac,af,Z,Y⟩;have G:zd (oV w ty g cap N (j+2) A p C Ld (.returned (.int .u64 ((t:Int) - 1))) w3):=⟨r,by rw [HQ.o,HT.o];simp,ae,ac,by rw [af];exact aq.o,Z,a.trans Y⟩;clear Z Y a ae ac af;go_wp2;go_ret;exact G.o
def iC (w:World)(ty:TypeId)(N X:Nat)(e:Ending)(w':World):Prop:=
 ∃(g:Nat) (L:List Nat),e=.returned (.slice (some ⟨g,0,none⟩) N N)/\w.heap.size<=g/\zF w' ty g N N L/\zD 18446744073709551616 L/\dv 18446744073709551616 L=X/\Below w.heap.size w w'
theorem kO (b:Nat)(l:List Nat)(n:Nat):dv b (l++List.replicate n 0)=dv b l:=by rw [uO,jB,yZ,xN]
theorem Y9 (x up N:Nat)(A:ze)(n c:Nat)(w:World)(hA:zn w x A n c)(hn:n<=274877906944)(R:up<=63)(hN:(dg 18446744073709551616 (2^up*x)).length<=N)(hN2:N<=549755813888):
  Calls prog 203 #[.agg #[.slice A n c],.int .i64 up,.int .i64 N] w (iC w 132 N (2^up*x)):=by
 obtain⟨i0,I,S,J,T⟩:=info_parts ol;have HS:=zj w (λw' hb=>US x up A n c w' (hA.below hb) zb zb);obtain⟨y,hy⟩:∃y,2^up*x=y:=⟨_,rfl⟩;rw [hy] at HS hN⊢;have HW:=za (λw' A' n' c' (h:zn w' y A' n' c') (hb:n'<=1099511627776)=>lY y A' n' c' w' h hb);have HN:=za hN;obtain⟨Z,hZ⟩:∃Z,madeCells (Value.cells (.int .u64 0)) N=Z:=⟨_,rfl⟩;have F:zd (Z=(zq .u64 (List.replicate N 0)).toArray):=by
  show _=_;have h:Z.toList=zq .u64 (List.replicate N 0):=by
   rw [<-hZ];exact(toList_madeCells_one _ _).trans (by simp [zq])
  rw [<-h]
 have P:∀W:World,(Instr.makeSlice 35 (.int .i64 (N:Int)) (.int .i64 (N:Int))).run prog W=.ok (.slice (some ⟨W.heap.size,0,none⟩) N N) (W.alloc (.cells Z 132)):=λW=>by
  have h:=tH _ _ i0 _ underlying35 I S .i64 .i64 N N (qY _) (by rw [T];omega) zb W;rw [J,xC,hZ] at h;exact h
 clear hZ hA hN hy R;go_enter func203,ntmps203;go_wp2_with fail;generalize hW:w.alloc (.cells #[.slice A n c] 37)=W0;obtain⟨b1,b2,b5⟩:=zw w 37 #[.slice A n c];rw [hW] at b1 b2 b5;clear hW b2;refine(HS.o _ b1).mono ?_;rintro e w1 ⟨A1,n1,c1,rfl,k,hb,M⟩;have hB:=zc b1 hb;clear hb b1 b5;obtain⟨d1,d2,d5⟩:=zw w1 37 #[.slice A1 n1 c1];have d0:=hB.size;have hB:=zc hB d1;have k:=k.below d1;have g1:(w1.alloc (.cells #[.slice A1 n1 c1] 37)).cell? ⟨w1.heap.size,0,none⟩=some (.slice A1 n1 c1):=d2.cell 0;clear d1 d2 d5 M;go_wp2_with fail;have B:=k.below ((qZ _ (w1.alloc (.cells #[.slice A1 n1 c1] 37))).alloc (qY _) (.cells Z 132));have hz:=zh.new (w1.alloc (.cells #[.slice A1 n1 c1] 37)) 132 Z;have hB:=xk (.cells Z 132) hB;have i:w.heap.size<=(w1.alloc (.cells #[.slice A1 n1 c1] 37)).heap.size:=by have:=hB.size;simp at this⊢;have:=d0;omega
 rw [show(w1.alloc (.cells #[.slice A1 n1 c1] 37)).heap.size=w1.heap.size+1 from by simp] at hz i;obtain⟨gs,H⟩:∃g,w1.heap.size+1=g:=⟨_,rfl⟩;rw [H] at hz i⊢;generalize (w1.alloc (.cells #[.slice A1 n1 c1] 37)).alloc (.cells Z 132)=W2 at*;clear H k g1 P;have z:=B.len;have Q:n1<=N:=by have:=HN.o;omega
 refine(HW.o _ A1 n1 c1 B zb).mono ?_;rintro e w3 ⟨A2,c2,rfl,a,_,⟨_,O⟩,hb⟩;have hB:=zc hB hb;have hz:=zf hb hz;rw [F.o] at hz;rw [z] at a;rw [z];have t:=a.len_;have s:=vV (b:=18446744073709551616) zg y;have u:=vf (b:=18446744073709551616) zg y;obtain⟨D,hD⟩:∃D,dg 18446744073709551616 y=D:=⟨_,rfl⟩;rw [hD] at a t s u;have m:0<(zq .u64 D).length->∃ad,A2=some ad/\∀j v,(zq .u64 D)[j]?=some v->w3.cell? (ad.add j)=some v:=λh=>by
  rw [wt] at h;obtain⟨ad,e,_,hc⟩:=a.2 zb;exact⟨ad,e,hc⟩
 have C:=za m;have E:zd (∀w4,zd (w4.heap[gs]?=some (.cells (splice (zq .u64 (List.replicate N 0)) 0 (zq .u64 D)).toArray 132 (0,0)))->Below w.heap.size w w4->iC w 132 N y (.returned (.slice (some ⟨gs,0,none⟩) N N)) w4):=λw4 h4 d=>by
  have e:splice (zq .u64 (List.replicate N 0)) 0 (zq .u64 D)=zq .u64 (D++List.replicate (N - n1) 0):=by
   unfold splice;rw [List.take_zero,yK,xA,wt,Oc,t,List.drop_replicate,<-tJ]
  rw [e] at h4;refine⟨gs,D++List.replicate (N - n1) 0,rfl,i,⟨_,h4.o,qY _,by unfold maxLen;omega,by simp [wt];omega,by simp;omega,?_⟩,s.append (zD.zeros zg _),by rw [kO,u],d⟩;show(zq .u64 (D++List.replicate (N - n1) 0)).take N=_;rw [qU (by rw [wt];simp;omega)]
 have L:=za hz;have K:=za hB;clear hz hB m s u hD a O hb z B F;have hu:=underlying35;go_wp2_with ((with_reducible show wpList _ _ _ _ _ _);refine wpList_copy_splice (o:=⟨some 21,_,_,_,_,_⟩) rfl (.tmp 18) (.tmp 20) 35 35 rfl 132 hu (by rw [I];simp [J]) (some ⟨gs,0,none⟩) A2 N N n1 c2 rfl rfl gs 0 (zq .u64 (List.replicate N 0)) 132 L.o (zq .u64 D) (by rw [wt,t];exact(xZ Q).symm) (λh=>⟨rfl,C.o h⟩) (by rw [wt,wt];simp;omega) (jF _ _) w.heap.size w K.o i ?_;intro w4 h4 d);have G:=za (E.o w4 h4 d);clear h4 d;go_wp2;go_ret;exact G.o
theorem nY {d m:Nat}(hd:(dg 18446744073709551616 d).length=m+1):∃up:Nat,(64 - uX ((wd d m:Nat):Int)=(up:Int))/\up<=63/\2^up*d<18446744073709551616^(m+1)/\18446744073709551616<=2*(2^up*d / 18446744073709551616^m):=by
 obtain⟨h1,h2,_⟩:=Yz hd;have h3:=wF d m;obtain⟨up,e,hu,c,g⟩:=VD ((wd d m:Nat):Int) zb zb;refine⟨up,e,hu,?_,?_⟩
 ·obtain⟨t,ht⟩:∃t,wd d m=t:=⟨_,rfl⟩;rw [ht] at h1 g;have h4:t*2^up<2^(64 - up)*2^up:=by
   rw [<-xX,show 64 - up+up=64 from by omega];have:((t*2^up:Nat):Int)<((2^64:Nat):Int):=by
    rw [QN,yS];exact g
   omega
  have h5:t+1<=2^(64 - up):=yO h4;have h6:d<(t+1)*18446744073709551616^m:=by
   have:=Nat.lt_div_mul_add (a:=d) (b:=18446744073709551616^m) (XH zg);rw [<-h1] at this;rw [QE,yD];exact this
  have h7:d<2^(64 - up)*18446744073709551616^m:=qJ h6 (qW _ h5);have h8:2^up*d<2^up*(2^(64 - up)*18446744073709551616^m):=(Nat.mul_lt_mul_left (QW up)).2 h7;rw [<-qG,<-xX,show up+(64 - up)=64 from by omega] at h8;rw [Nat.pow_succ'];exact h8
 ·rw [h1] at c;obtain⟨t,ht⟩:∃t,d / 18446744073709551616^m=t:=⟨_,rfl⟩;rw [ht] at c;have h4:t*2^up<=2^up*d / 18446744073709551616^m:=by
   refine(Nat.le_div_iff_mul_le (XH zg)).2 ?_;rw [qS t,qG,<-ht];exact QB _ (Nat.div_mul_le_self _ _)
  have h5:((9223372036854775808:Nat):Int)<=((t*2^up:Nat):Int):=by
   rw [QN,yS];exact c
  omega
theorem qe {x up:Nat}(hx:(dg 18446744073709551616 x).length=n)(hu:up<=63):(dg 18446744073709551616 (2^up*x)).length<=n+1:=by
 have h:=ym (b:=18446744073709551616) zg x;rw [hx] at h;refine wy zg _ _ ?_;rw [Nat.pow_succ'];exact XU (QU (qV zg hu) zg) h
theorem Rp {x d n m k up:Nat}(hx:(dg 18446744073709551616 x).length=n)(hd:(dg 18446744073709551616 d).length=m+1)(hk:m+k=n):2^up*x / 18446744073709551616^k<2^up*d:=by
 refine(QP (XH zg)).2 ?_;have h:=ym (b:=18446744073709551616) zg x;rw [hx,<-hk,xX] at h;have h0:d≠0:=λe=>by rw [e,pV] at hd;simp at hd
 have h2:=(kE (b:=18446744073709551616) zg d h0).2;rw [hd,Nat.add_sub_cancel] at h2;rw [qG];refine(Nat.mul_lt_mul_left (QW up)).2 ?_;exact qJ h (qW _ h2)
theorem qf {m:Nat}{L:List Nat}(hl:L.length=m+1)(hd:zD 18446744073709551616 L)(hv:dv 18446744073709551616 L=D)(h:18446744073709551616<=2*(D / 18446744073709551616^m)):18446744073709551616<=2*L.getD m 0:=by
 rw [kh zg hd,hv];have h1:=vg hd;rw [hl,hv,qP] at h1;have h2:D / 18446744073709551616^m<18446744073709551616:=(QP (XH zg)).2 (by rw [qS];exact h1);rw [qO h2];exact h
theorem PY (x d up:Nat):2^up*x / (2^up*d)=x / d/\2^up*x%(2^up*d) / 2^up=x%d:=by
 refine⟨Nat.mul_div_mul_left _ _ (QW up),?_⟩;rw [Nat.mul_mod_mul_left,XM _ (QW up)]
