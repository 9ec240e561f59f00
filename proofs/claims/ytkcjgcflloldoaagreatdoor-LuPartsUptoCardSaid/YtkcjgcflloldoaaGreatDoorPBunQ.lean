/- What this claim leans on. -/
import Derived.Test.YtkcjgcflloldoaaGreatDoorPBunZ
import Derived.Laws.CopyOwn
import Derived.RangeFuncBox
set_option linter.unusedVariables false
set_option linter.unusedSimpArgs false
namespace Go.Proofs.YtkcjgcflloldoaaGreatDoor
open Go Go.RowKit Go.Proofs.Tryz
set_option maxHeartbeats 16000000
set_option maxRecDepth 100000
variable {A C p:List Nat}{D j k n u1:Nat}
def vV (u2 u1 h:Nat):Nat:=if u2<h then(u2*18446744073709551616+u1) / h else 18446744073709551615
def oY (u2 u1 h:Nat):Nat:=if u2<h then(u2*18446744073709551616+u1)%h else u1+h
def rf (u2 u1 h v:Nat):Nat:=if oY u2 u1 h<vV u2 u1 h*v / 18446744073709551616/\oY u2 u1 h<18446744073709551616 then vV u2 u1 h - 1 else vV u2 u1 h
theorem UW {u2 h:Nat}(hu:u1<18446744073709551616):vV u2 u1 h<18446744073709551616:=by
 unfold vV
 split
 ·rename_i hc
  refine(QM za).2 ?_;have:(u2+1)*18446744073709551616<=h*18446744073709551616:=qE _ hc;rw [qB _ h];omega
 ·decide
theorem pd {P U h v M u2:Nat}(H:un P D U h v M)(hU:U=u2*18446744073709551616+u1)(hu:u1<18446744073709551616):P / D<=rf u2 u1 h v/\rf u2 u1 h v<=P / D+1/\rf u2 u1 h v<18446744073709551616:=by
 have hh:=H.hh;have ht:=H.top;have hq:=H.q.2.2;have tb:=UW (u2:=u2) (h:=h) hu;have e:vV u2 u1 h*h+oY u2 u1 h=U:=by
  unfold vV oY
  split
  ·rw [hU,qB _ h,XL]
  ·obtain rfl:u2=h:=by rw [hU] at ht;omega
   rw [hU];omega
 have lo:P / D<=vV u2 u1 h:=by
  unfold vV
  split
  ·rw [<-hU];exact(Nat.le_div_iff_mul_le za).2 H.le
  ·omega
 have up:vV u2 u1 h<=P / D+2:=H.two za tb;obtain⟨t,c⟩:∃t,vV u2 u1 h=t:=⟨_,rfl⟩;obtain⟨r,a⟩:∃r,oY u2 u1 h=r:=⟨_,rfl⟩;unfold rf;rw [c] at lo up tb e;rw [a] at e;rw [c,a];obtain⟨q,d⟩:∃q,P / D=q:=⟨_,rfl⟩;have vb:=H.vb;have h2:t*v / 18446744073709551616<18446744073709551616:=by
  refine(QM zf).2 ?_;exact QO (Nat.mul_le_mul (show t<=18446744073709551615 by omega) (show v<=18446744073709551615 by omega)) zf
 have d1:=H.dec (t:=t) (r:=r) e;have d2:=H.one (t:=t) (r:=r) e tb;rw [d] at lo up hq d1 d2⊢;obtain⟨x,hx⟩:∃x,t*v / 18446744073709551616=x:=⟨_,rfl⟩;rw [hx] at h2
 split
 ·rename_i hc
  rw [hx] at hc;have h1:=d1 ((Nat.le_div_iff_mul_le zf).1 (by rw [hx];omega));clear d1 d2;omega
 ·rename_i hc
  rw [hx] at hc;have h1:=d2 ((QM zf).1 (by rw [hx];omega));clear d1 d2;omega
theorem SF (x y:Nat)(hx:x<18446744073709551616)(hy:y<18446744073709551616)(w:World):
  Calls prog 193 #[.int .u64 x,.int .u64 y] w λe w'=>e=.returned (.tuple #[.int .u64 ((x*y / 18446744073709551616:Nat):Int),.int .u64 ((x*y%18446744073709551616:Nat):Int)])/\w=w':=by
 have h:=oP x y ⟨za,za⟩ ⟨za,za⟩ w;rw [show sI (x:Int) (y:Int)=((x*y / 18446744073709551616:Nat):Int) from by unfold sI;simp,show vP (x:Int) (y:Int)=((x*y%18446744073709551616:Nat):Int) from by unfold vP;simp] at h;exact h
theorem Sk (hi lo y:Nat)(h1:hi<y)(hy:y<18446744073709551616)(hl:lo<18446744073709551616)(w:World):
  Calls prog 182 #[.int .u64 hi,.int .u64 lo,.int .u64 y] w λe w'=>e=.returned (.tuple #[.int .u64 (((hi*18446744073709551616+lo) / y:Nat):Int),.int .u64 (((hi*18446744073709551616+lo)%y:Nat):Int),.bool true])/\∃n,w'=w.drewN n:=by
 have h:=Qm hi lo y ⟨za,za⟩ za za ⟨za,za⟩ w;rw [show vD (hi:Int) (lo:Int) (y:Int)=(((hi*18446744073709551616+lo) / y:Nat):Int) from by unfold vD;simp,show vE (hi:Int) (lo:Int) (y:Int)=(((hi*18446744073709551616+lo)%y:Nat):Int) from by unfold vE;simp] at h;exact h
theorem Wg (x y c:Nat)(hx:x<18446744073709551616)(hy:y<18446744073709551616)(hc:c<=1)(w:World):
  Calls prog 174 #[.int .u64 x,.int .u64 y,.int .u64 c] w λe w'=>e=.returned (.tuple #[.int .u64 (((x+y+c)%18446744073709551616:Nat):Int),.int .u64 (((x+y+c) / 18446744073709551616:Nat):Int)])/\w=w':=by
 have h:=TT x y c ⟨za,za⟩ ⟨za,za⟩ ⟨za,za⟩ w;rw [Ub hc,Ua hc] at h;exact h
def rF (w:World)(t:Nat)(e:Ending)(w':World):Prop:=e=.returned (.int .u64 (t:Int))/\∃n,w'=w.drewN n
theorem qF (g k m c1 cd:Nat)(ad:Addr)(u2 u1 h v:Nat)(w:World)(hm:2<=m)(hm2:m<=1099511627776)(hc1:m+1<=c1)(hc:c1<=9223372036854775807)(hcd:m<=cd)(n:cd<=9223372036854775807)
  (j:w.cell? ⟨g,k+m,none⟩=some (.int .u64 (u2:Int))) (i:w.cell? ⟨g,k+(m - 1),none⟩=some (.int .u64 (u1:Int))) (hH:w.cell? (ad.add (m - 1))=some (.int .u64 (h:Int))) (hV:w.cell? (ad.add (m - 2))=some (.int .u64 (v:Int)))
  (u2b:u2<18446744073709551616) (A:u1<18446744073709551616) (hb:h<18446744073709551616) (vb:v<18446744073709551616) (c:u2<h):
  Calls prog 190 #[.slice (some ⟨g,k,none⟩) (m+1) c1,.slice (some ad) m cd] w (rF w (rf u2 u1 h v)):=by
 have et:vV u2 u1 h=(u2*18446744073709551616+u1) / h:=if_pos c;have er:oY u2 u1 h=(u2*18446744073709551616+u1)%h:=if_pos c;have rb:(u2*18446744073709551616+u1)%h<18446744073709551616:=Nat.lt_trans (QA _ za) hb;have tb:=UW (u2:=u2) (h:=h) A;have HD:=λw=>Sk u2 u1 h c hb A w;have HM:=λw=>SF (vV u2 u1 h) v tb vb w;have HN:rf u2 u1 h v=if oY u2 u1 h<vV u2 u1 h*v / 18446744073709551616/\oY u2 u1 h<18446744073709551616 then vV u2 u1 h - 1 else vV u2 u1 h:=rfl
 rw [et,er] at HN;rw [et] at HM tb;clear et er;obtain⟨t,ht⟩:∃t,(u2*18446744073709551616+u1) / h=t:=⟨_,rfl⟩;obtain⟨r,hr⟩:∃r,(u2*18446744073709551616+u1)%h=r:=⟨_,rfl⟩;rw [ht,hr] at HD HN;rw [hr] at rb;rw [ht] at HM tb;obtain⟨nd,d⟩:∃nd,t*v / 18446744073709551616=nd:=⟨_,rfl⟩;obtain⟨nl,u⟩:∃nl,t*v%18446744073709551616=nl:=⟨_,rfl⟩;rw [d,u] at HM;rw [d] at HN;have hnt:nd<=t:=by
  rw [<-d];refine qD (Nat.div_le_div_right (QW t (QK vb))) ?_;rw [Nat.mul_div_cancel _ zf];exact qX _
 have y:=zb HD;have z:=zb HM;obtain⟨GN,s⟩:∃GN,rf u2 u1 h v=GN:=⟨_,rfl⟩;rw [s] at HN⊢;have hJ:IntKind.i64.wrap ((m:Int) - 1)=(m:Int) - 1/\IntKind.i64.wrap ((m:Int) - 2)=(m:Int) - 2:=⟨QS _ za,QS _ za⟩;have hK:((m:Int) - 1).toNat=m - 1/\((m:Int) - 2).toNat=m - 2:=⟨za,za⟩;have hL:(0:Int)<=(m:Int) - 1/\(m:Int) - 1<(m:Int)/\(0:Int)<=(m:Int) - 2/\(m:Int) - 2<(m:Int)/\(m:Int)<(m:Int)+1/\(m:Int) - 1<(m:Int)+1:=za;obtain⟨l1,l2,l3,l4,l5,l6⟩:=hL;by_cases hc:r<nd
 ·rw [if_pos ⟨hc,rb⟩] at HN;have HG:=zb HN;have t1:decide ((r:Int)<(nd:Int))=true:=by simpa using hc
  have t2:0<t:=za;have t3:IntKind.u64.wrap ((t:Int) - 1)=(t:Int) - 1:=by rw [QT];omega
  clear HD HM HN ht hr d u s rb c n;obtain⟨j1,j2⟩:=hJ;obtain⟨j3,j4⟩:=hK;go_enter func190,ntmps190;go_wp2
  go_quiet (fail)
  obtain⟨w1,a⟩:∃w1,w.drewN nq=w1:=⟨_,rfl⟩;have o:=zb a;have j:w1.cell? ⟨g,k+m,none⟩=some (.int .u64 (u2:Int)):=by rw [<-a];exact j
  have i:w1.cell? ⟨g,k+(m - 1),none⟩=some (.int .u64 (u1:Int)):=by rw [<-a];exact i
  rw [a];clear a;go_wp2
  go_quiet ((go_at_call 182;exact Calls.quiet_of (y.o _)))
  go_wp2_with (go_at_call 193;(with_reducible refine(z.o _).mono ?_);rintro e w' ⟨rfl,rfl⟩);go_ret;refine⟨by rw [HG.o];show Ending.returned (.int .u64 ((t:Int) - 1))=_;rw [Int.ofNat_sub za];rfl,?_⟩;rw [<-o.o,World.drewN_drewN];exact⟨_,rfl⟩
 ·rw [if_neg (λh=>hc h.1)] at HN;have HG:=zb HN;have t1:decide ((r:Int)<(nd:Int))=false:=by simpa using hc
  clear HD HM HN ht hr d u s rb c n;obtain⟨j1,j2⟩:=hJ;obtain⟨j3,j4⟩:=hK;go_enter func190,ntmps190;go_wp2
  go_quiet (fail)
  obtain⟨w1,a⟩:∃w1,w.drewN nq=w1:=⟨_,rfl⟩;have o:=zb a;have j:w1.cell? ⟨g,k+m,none⟩=some (.int .u64 (u2:Int)):=by rw [<-a];exact j
  have i:w1.cell? ⟨g,k+(m - 1),none⟩=some (.int .u64 (u1:Int)):=by rw [<-a];exact i
  rw [a];clear a;go_wp2
  go_quiet ((go_at_call 182;exact Calls.quiet_of (y.o _)))
  go_wp2_with (go_at_call 193;(with_reducible refine(z.o _).mono ?_);rintro e w' ⟨rfl,rfl⟩);go_ret;refine⟨by rw [HG.o];rfl,?_⟩;rw [<-o.o,World.drewN_drewN];exact⟨_,rfl⟩
theorem qz (g k m c1 cd:Nat)(ad:Addr)(u2 u1 h v:Nat)(w:World)(hm:2<=m)(hm2:m<=1099511627776)(hc1:m+1<=c1)(hc:c1<=9223372036854775807)(hcd:m<=cd)(n:cd<=9223372036854775807)
  (d:w.cell? ⟨g,k+m,none⟩=some (.int .u64 (u2:Int))) (c:w.cell? ⟨g,k+(m - 1),none⟩=some (.int .u64 (u1:Int))) (hH:w.cell? (ad.add (m - 1))=some (.int .u64 (h:Int))) (hV:w.cell? (ad.add (m - 2))=some (.int .u64 (v:Int)))
  (u2b:u2<18446744073709551616) (B:u1<18446744073709551616) (hb:h<18446744073709551616) (vb:v<18446744073709551616) (o:¬ u2<h):
  Calls prog 190 #[.slice (some ⟨g,k,none⟩) (m+1) c1,.slice (some ad) m cd] w (rF w (rf u2 u1 h v)):=by
 have et:vV u2 u1 h=18446744073709551615:=if_neg o;have er:oY u2 u1 h=u1+h:=if_neg o;have HD:=λw=>PH u2 u1 h za w;have HM:∀w,Calls prog 193 #[.int .u64 18446744073709551615,.int .u64 v] w λe w'=>e=.returned (.tuple #[.int .u64 ((18446744073709551615*v / 18446744073709551616:Nat):Int),.int .u64 ((18446744073709551615*v%18446744073709551616:Nat):Int)])/\w=w':=λw=>SF 18446744073709551615 v zf vb w;have HA:∀w,Calls prog 174 #[.int .u64 u1,.int .u64 h,.int .u64 0] w λe w'=>e=.returned (.tuple #[.int .u64 (((u1+h+0)%18446744073709551616:Nat):Int),.int .u64 (((u1+h+0) / 18446744073709551616:Nat):Int)])/\w=w':=λw=>Wg u1 h 0 B hb zf w;have HN:rf u2 u1 h v=if oY u2 u1 h<vV u2 u1 h*v / 18446744073709551616/\oY u2 u1 h<18446744073709551616 then vV u2 u1 h - 1 else vV u2 u1 h:=rfl
 rw [et,er] at HN;clear et er;obtain⟨nd,s⟩:∃nd,18446744073709551615*v / 18446744073709551616=nd:=⟨_,rfl⟩;obtain⟨nl,y⟩:∃nl,18446744073709551615*v%18446744073709551616=nl:=⟨_,rfl⟩;rw [s,y] at HM;rw [s] at HN;have z:=zb HD;have A:=zb HM;obtain⟨GN,u⟩:∃GN,rf u2 u1 h v=GN:=⟨_,rfl⟩;rw [u] at HN⊢;have hJ:IntKind.i64.wrap ((m:Int) - 1)=(m:Int) - 1/\IntKind.i64.wrap ((m:Int) - 2)=(m:Int) - 2:=⟨QS _ za,QS _ za⟩;have hK:((m:Int) - 1).toNat=m - 1/\((m:Int) - 2).toNat=m - 2:=⟨za,za⟩;have hL:(0:Int)<=(m:Int) - 1/\(m:Int) - 1<(m:Int)/\(0:Int)<=(m:Int) - 2/\(m:Int) - 2<(m:Int)/\(m:Int)<(m:Int)+1/\(m:Int) - 1<(m:Int)+1:=za;obtain⟨l1,l2,l3,l4,l5,l6⟩:=hL;by_cases hr:u1+h<18446744073709551616
 ·rw [show(u1+h+0)%18446744073709551616=u1+h from by omega,show(u1+h+0) / 18446744073709551616=0 from by omega] at HA;obtain⟨r,i⟩:∃r,u1+h=r:=⟨_,rfl⟩;rw [i] at HA HN hr;have t:=zb HA;by_cases hc:r<nd
  ·rw [if_pos ⟨hc,hr⟩] at HN;have HG:=zb HN;have t1:decide ((r:Int)<(nd:Int))=true:=by simpa using hc
   clear i hr;clear HD HM HN HA s y u o n;obtain⟨j1,j2⟩:=hJ;obtain⟨j3,j4⟩:=hK;go_enter func190,ntmps190;go_wp2
   go_quiet (fail)
   obtain⟨w1,a⟩:∃w1,w.drewN nq=w1:=⟨_,rfl⟩;have j:=zb a;have d:w1.cell? ⟨g,k+m,none⟩=some (.int .u64 (u2:Int)):=by rw [<-a];exact d
   have c:w1.cell? ⟨g,k+(m - 1),none⟩=some (.int .u64 (u1:Int)):=by rw [<-a];exact c
   rw [a];clear a;go_wp2
   go_quiet ((go_at_call 182;exact jd (z.o _)))
   have c:(w1.drewN nq).cell? ⟨g,k+(m - 1),none⟩=some (.int .u64 (u1:Int)):=c;go_wp2_with (first|(go_at_call 193;(with_reducible refine(A.o _).mono ?_);rintro e w' ⟨rfl,rfl⟩)|(go_at_call 174;(with_reducible refine(t.o _).mono ?_);rintro e w' ⟨rfl,rfl⟩));go_ret;refine⟨by rw [HG.o];rfl,?_⟩;rw [<-j.o,World.drewN_drewN];exact⟨_,rfl⟩
  ·rw [if_neg (λh=>hc h.1)] at HN;have HG:=zb HN;have t1:decide ((r:Int)<(nd:Int))=false:=by simpa using hc
   clear i hr;clear HD HM HN HA s y u o n;obtain⟨j1,j2⟩:=hJ;obtain⟨j3,j4⟩:=hK;go_enter func190,ntmps190;go_wp2
   go_quiet (fail)
   obtain⟨w1,a⟩:∃w1,w.drewN nq=w1:=⟨_,rfl⟩;have j:=zb a;have d:w1.cell? ⟨g,k+m,none⟩=some (.int .u64 (u2:Int)):=by rw [<-a];exact d
   have c:w1.cell? ⟨g,k+(m - 1),none⟩=some (.int .u64 (u1:Int)):=by rw [<-a];exact c
   rw [a];clear a;go_wp2
   go_quiet ((go_at_call 182;exact jd (z.o _)))
   have c:(w1.drewN nq).cell? ⟨g,k+(m - 1),none⟩=some (.int .u64 (u1:Int)):=c;go_wp2_with (first|(go_at_call 193;(with_reducible refine(A.o _).mono ?_);rintro e w' ⟨rfl,rfl⟩)|(go_at_call 174;(with_reducible refine(t.o _).mono ?_);rintro e w' ⟨rfl,rfl⟩));go_ret;refine⟨by rw [HG.o];rfl,?_⟩;rw [<-j.o,World.drewN_drewN];exact⟨_,rfl⟩
 ·rw [show(u1+h+0) / 18446744073709551616=1 from by omega] at HA;obtain⟨r,i⟩:∃r,(u1+h+0)%18446744073709551616=r:=⟨_,rfl⟩;rw [i] at HA;have t:=zb HA;rw [if_neg (λh=>hr h.2)] at HN;have HG:=zb HN;clear i hr;clear HD HM HN HA s y u o n;obtain⟨j1,j2⟩:=hJ;obtain⟨j3,j4⟩:=hK;go_enter func190,ntmps190;go_wp2
  go_quiet (fail)
  obtain⟨w1,a⟩:∃w1,w.drewN nq=w1:=⟨_,rfl⟩;have j:=zb a;have d:w1.cell? ⟨g,k+m,none⟩=some (.int .u64 (u2:Int)):=by rw [<-a];exact d
  have c:w1.cell? ⟨g,k+(m - 1),none⟩=some (.int .u64 (u1:Int)):=by rw [<-a];exact c
  rw [a];clear a;go_wp2
  go_quiet ((go_at_call 182;exact jd (z.o _)))
  have c:(w1.drewN nq).cell? ⟨g,k+(m - 1),none⟩=some (.int .u64 (u1:Int)):=c;go_wp2_with (first|(go_at_call 193;(with_reducible refine(A.o _).mono ?_);rintro e w' ⟨rfl,rfl⟩)|(go_at_call 174;(with_reducible refine(t.o _).mono ?_);rintro e w' ⟨rfl,rfl⟩));go_ret;refine⟨by rw [HG.o];rfl,?_⟩;rw [<-j.o,World.drewN_drewN];exact⟨_,rfl⟩
def y6 (g:Nat)(w w':World):Prop:=w.grownBy w' (some g)
section
variable {g:Nat}{w w' w2:World}
theorem y6.refl (g:Nat)(w:World):y6 g w w:=⟨rfl,rfl,rfl,qX _,λ_ _ _=>rfl⟩
theorem y6.trans (h:y6 g w w')(k:y6 g w' w2):y6 g w w2:=
 ⟨k.os.trans h.os,k.tape.trans h.tape,k.output.trans h.output,qD h.size k.size,λi hi a=>(k.block i (qJ hi h.size) a).trans (h.block i hi a)⟩
theorem y6.set_ (h:y6 g w w')(k:Nat)(u:Value):y6 g w (w'.setCell ⟨g,k,none⟩ u):=
 h.trans ⟨rfl,rfl,rfl,by simp [World.setCell],λi _ a=>Below.heap_setCell _ _ _ i (λe=>a (by rw [e]))⟩
theorem y6.drewN (h:y6 g w w')(n:Nat):y6 g w (w'.drewN n):=⟨h.os,h.tape,h.output,h.size,h.block⟩
theorem y6.blk {b:Nat}{t:TypeId}{cs:Array Value}(h:y6 g w w')(hb:zh w b t cs)(a:b≠g):zh w' b t cs:=hb.grown h (λe=>a (by injection e))
theorem y6.reads {A:ze}{xs:List Value}(h:y6 g w w')(hr:zL w g 1 A n xs)(hg:g<=w.heap.size):zL w' g 1 A n xs:=hr.grown h hg (λ_ e=>by cases e;exact qX _)
theorem y6.below {B:Nat}{w0:World}(h:y6 g w w')(hb:Below B w0 w)(hB:B<=w.heap.size)(hg:B<=g):Below B w0 w':=hb.grown h hB (λ_ e=>by cases e;exact hg)
theorem y6.cell {p:Addr}{v:Value}(h:y6 g w w')(hc:w.cell? p=some v)(a:p.block≠g):w'.cell? p=some v:=World.grownBy.cell h hc (λe=>a (by injection e))
end
theorem bB (hA:A.length=k)(hj:j<p.length):(A++p++C).getD (k+j) 0=p.getD j 0:=by
 simp only [qQ];rw [xV,QJ za,QH za,hA,yO]
theorem Zt {d:Nat}(hA:A.length=k)(hj:j<p.length):(A++p++C).set (k+j) d=A++p.set j d++C:=by
 rw [xV,yN _ _ za,hA,yO,List.set_append_left _ _ hj,xV]
theorem UG (a b c:Nat)(ha:a<18446744073709551616)(hb:b<18446744073709551616)(hc:c<=1):∃d c':Nat,d<18446744073709551616/\c'<=1/\d+b+c=a+18446744073709551616*c'/\
  ∀w:World,Calls prog 175 #[.int .u64 a,.int .u64 b,.int .u64 c] w λe w'=>e=.returned (.tuple #[.int .u64 (d:Int),.int .u64 (c':Int)])/\w=w':=by
 obtain⟨d,c',e1,e2,h1,h2,h3⟩:=Wb ha hb hc;refine⟨d,c',h1,h2,h3,λw=>?_⟩;have h:=Sb a b c ⟨za,za⟩ ⟨za,za⟩ ⟨za,za⟩ w;rw [e1,e2] at h;exact h
theorem mU (p q r:Nat)(hp:p<18446744073709551616)(hq:q<18446744073709551616)(hr:r<18446744073709551616)(w:World):
  Calls prog 146 #[.int .u64 p,.int .u64 q,.int .u64 r,.int .u64 0] w λe w'=>e=.returned (.tuple #[.int .u64 (((p*q+r+0) / 18446744073709551616:Nat):Int),.int .u64 (((p*q+r+0)%18446744073709551616:Nat):Int)])/\w=w':=
 VU p q r 0 hp hq hr zf w
def rJ (w:World)(ty:TypeId)(g cap N m t:Nat)(A p C Ld:List Nat)(e:Ending)(w':World):Prop:=
 ∃(b:Nat) (p':List Nat),e=.returned (.bool (b==1))/\b<=1/\p'.length=m+1/\zH 18446744073709551616 p'/\dv 18446744073709551616 p'+t*dv 18446744073709551616 Ld=dv 18446744073709551616 p+18446744073709551616^(m+1)*b/\zJ w' ty g cap N (A++p'++C)/\y6 g w w'
theorem Rw (ty:TypeId)(g z N k m c1 cd t:Nat)(ad:Addr)(A p C Ld:List Nat)(w:World)(hR:zJ w ty g z N (A++p++C))(hA:A.length=k)(hp:p.length=m+1)(R:zH 18446744073709551616 p)
  (hD:zL w g 1 (some ad) m (zt .u64 Ld)) (O:zH 18446744073709551616 Ld) (hm2:m<=1099511627776) (hc1:m+1<=c1) (hc:c1<=9223372036854775807) (hcd:m<=cd) (hcd2:cd<=9223372036854775807) (ht:t<18446744073709551616):
  Calls prog 191 #[.slice (some ⟨g,k,none⟩) (m+1) c1,.slice (some ad) m cd,.int .u64 t] w (rJ w ty g z N m t A p C Ld):=by
 have L:=hR.len;have P:=hD.len_;have HA:=zb hA;have HP:=zb hp;have v:=zb (show k+(m+1)<=N by simp at L;omega);have S:=zb P;have K:=zb O;have HI:=zb (kG.start Ld t R);have HO:=y6.refl g w;clear hA hp L P O R;go_enter func191,ntmps191;go_wp2_with fail
 go_loopg [7,8,16] (m+1) (λgg cy bo ix wr=>∃(i cc bb:Nat) (q:List Nat),i<=m/\m<gg+i/\ix=.int .i64 i/\cy=.int .u64 cc/\bo=.int .u64 bb/\kG p Ld t i q cc bb/\zJ wr ty g z N (A++q++C)/\y6 g w wr/\zL wr g 1 (some ad) m (zt .u64 Ld))
 case atStart=>exact⟨0,0,0,p,QQ _,za,rfl,rfl,rfl,HI.o,hR,HO,hD⟩
 case round=>
  clear hR HI HO hD;obtain⟨i,cc,bb,q,him,hgg,rfl,rfl,rfl,hI,hR,hO,hD⟩:=hrel;have c:=hI.len;by_cases hlt:i<m
  ·obtain⟨ad',e,hadb,h1⟩:=wQ hD (k:=i) hlt;cases e;have V:=K.o.getD zf i;have h2:=hR.cell (k+i) (by have:=v.o;omega);rw [bB HA.o (by rw [c,HP.o];omega)] at h2;have h3:=hR.frozen (k+i);have X:=hI.carry;have o:=hI.dgs.getD zf i;obtain⟨b,D⟩:∃b,Ld.getD i 0=b:=⟨_,rfl⟩;have E:=λw'=>mU b t cc (by rw [<-D];exact V) ht X w';obtain⟨d,b',J,B,hx,hS⟩:=UG (q.getD i 0) ((b*t+cc+0)%18446744073709551616) bb o (QA _ zf) hI.lack;have j:=zb (hI.step (s:=Ld.getD i 0*t+cc+0) (d:=d) (b':=b') ht K.o (by rw [HP.o];omega) rfl J B (by rw [D];exact hx));have a:=hR.set_ (k+i) d (by have:=v.o;omega);rw [Zt HA.o (by rw [c,HP.o];omega)] at a;have H:=zb a;have F:=zb (λu=>hO.set_ (k+i) u);have T:=zb (λu=>hD.setCell (p:=⟨g,k+i,none⟩) (qX _) u);rw [D] at h1 j;obtain⟨pv,n⟩:∃b,q.getD i 0=b:=⟨_,rfl⟩;rw [n] at h2 hS;obtain⟨s1,e1⟩:∃s1,(b*t+cc+0)%18446744073709551616=s1:=⟨_,rfl⟩;obtain⟨s2,e2⟩:∃s2,(b*t+cc+0) / 18446744073709551616=s2:=⟨_,rfl⟩;rw [e1,e2] at E;rw [e1] at hS;rw [e2] at j;have U:=zb E;have y:=zb hS;have i1:(0:Int)<=(i:Int):=za;have i2:(i:Int)<(m:Int):=za;have i3:(i:Int)<(m:Int)+1:=za;have i4:i<m+1:=za;clear E hS hx n e1 e2 D hI hR hO hD o a c;go_wp2_with (first|(go_at_call 146;(with_reducible refine(U.o _).mono ?_);rintro e w' ⟨rfl,rfl⟩)|(go_at_call 175;(with_reducible refine(y.o _).mono ?_);rintro e w' ⟨rfl,rfl⟩));go_roundg (m - i)
   case measure=>omega
   case rel=>exact⟨i+1,s2,b',_,za,za,by go_num,rfl,rfl,j.o,H.o,F.o _,T.o _⟩
  ·have Q:i=m:=za;subst Q;have h2:=hR.cell (k+i) (by have:=v.o;omega);rw [bB HA.o (by rw [c,HP.o];omega)] at h2;have h3:=hR.frozen (k+i);have o:=hI.dgs.getD zf i;obtain⟨d,b',J,B,hx,hS⟩:=UG (q.getD i 0) cc bb o hI.carry hI.lack;have j:=zb (hI.last (d:=d) (b':=b') (by rw [HP.o]) (by rw [S.o]) J B hx);have a:=hR.set_ (k+i) d (by have:=v.o;omega);rw [Zt HA.o (by rw [c,HP.o];omega)] at a;have H:=zb a;have F:=zb (hO.set_ (k+i) (.int .u64 (d:Int)));obtain⟨pv,n⟩:∃b,q.getD i 0=b:=⟨_,rfl⟩;rw [n] at h2 hS;have y:=zb hS;have i1:(0:Int)<=(i:Int):=za;have i3:(i:Int)<(i:Int)+1:=za;have i4:i<i+1:=za;clear hS hx n hI hR hO hD o a c;have G:∀I:Bool,I=(b'==1)->rJ w ty g z N i t A p C Ld (.returned (.bool I)) (wr.setCell ⟨g,k+i,none⟩ (.int .u64 (d:Int))):=λI M=>by
    obtain⟨g1,g2,g3⟩:=j.o;rw [HP.o] at g1 g3;exact⟨b',_,by rw [M],B,g1,g2,g3,H.o,F.o⟩
   have HG:=zb G;clear G;rcases (show b'=0\/b'=1 by omega) with rfl|rfl
   ·go_wp2_with (go_at_call 175;(with_reducible refine(y.o _).mono ?_);rintro e w' ⟨rfl,rfl⟩);go_ret;exact HG.o _ rfl
   ·go_wp2_with (go_at_call 175;(with_reducible refine(y.o _).mono ?_);rintro e w' ⟨rfl,rfl⟩);go_ret;exact HG.o _ rfl
def rt (w:World)(ty:TypeId)(g cap N m:Nat)(A p C Ld:List Nat)(e:Ending)(w':World):Prop:=
 ∃(v:Value) (p':List Nat),e=.returned v/\p'.length=m+1/\zH 18446744073709551616 p'/\dv 18446744073709551616 p'=(dv 18446744073709551616 p+dv 18446744073709551616 Ld)%18446744073709551616^(m+1)/\zJ w' ty g cap N (A++p'++C)/\y6 g w w'
theorem RG (ty:TypeId)(g t N k m c1 cd:Nat)(ad:Addr)(A p C Ld:List Nat)(w:World)(hR:zJ w ty g t N (A++p++C))(hA:A.length=k)(hp:p.length=m+1)(L:zH 18446744073709551616 p)
  (hD:zL w g 1 (some ad) m (zt .u64 Ld)) (I:zH 18446744073709551616 Ld) (hm2:m<=1099511627776) (hc1:m+1<=c1) (hc:c1<=9223372036854775807) (hcd:m<=cd) (hcd2:cd<=9223372036854775807):
  Calls prog 192 #[.slice (some ⟨g,k,none⟩) (m+1) c1,.slice (some ad) m cd] w (rt w ty g t N m A p C Ld):=by
 have E:=hR.len;have J:=hD.len_;have HA:=zb hA;have HP:=zb hp;have o:=zb (show k+(m+1)<=N by simp at E;omega);have M:=zb J;have D:=zb I;have HI:=zb (kE.start Ld L);have HO:=y6.refl g w;clear hA hp E J I L;go_enter func192,ntmps192;go_wp2_with fail
 go_loopg [4,10] (m+1) (λgg cy ix wr=>∃(i cc:Nat) (q:List Nat),i<=m/\m<gg+i/\ix=.int .i64 i/\cy=.int .u64 cc/\kE p Ld i q cc/\zJ wr ty g t N (A++q++C)/\y6 g w wr/\zL wr g 1 (some ad) m (zt .u64 Ld))
 case atStart=>exact⟨0,0,p,QQ _,za,rfl,rfl,HI.o,hR,HO,hD⟩
 case round=>
  clear hR HI HO hD;obtain⟨i,cc,q,him,hgg,rfl,rfl,hI,hR,hO,hD⟩:=hrel;have j:=hI.len;by_cases hlt:i<m
  ·obtain⟨ad',e,hadb,h1⟩:=wQ hD (k:=i) hlt;cases e;have F:=D.o.getD zf i;have h2:=hR.cell (k+i) (by have:=o.o;omega);rw [bB HA.o (by rw [j,HP.o];omega)] at h2;have h3:=hR.frozen (k+i);have B:=hI.carry;have d:=hI.dgs.getD zf i;have a:=hI.step (s:=q.getD i 0+Ld.getD i 0+cc) D.o (by rw [HP.o];omega) rfl;obtain⟨b,H⟩:∃b,Ld.getD i 0=b:=⟨_,rfl⟩;obtain⟨pv,n⟩:∃b,q.getD i 0=b:=⟨_,rfl⟩;rw [H] at h1 F a;rw [n] at h2 d a;have hS:=λw=>Wg pv b cc d F B w;have c:=hR.set_ (k+i) ((pv+b+cc)%18446744073709551616) (by have:=o.o;omega);rw [Zt HA.o (by rw [j,HP.o];omega)] at c;obtain⟨s1,e1⟩:∃s1,(pv+b+cc)%18446744073709551616=s1:=⟨_,rfl⟩;obtain⟨s2,e2⟩:∃s2,(pv+b+cc) / 18446744073709551616=s2:=⟨_,rfl⟩;rw [e1,e2] at hS a;rw [e1] at c;have a:=zb a;have P:=zb c;have y:=zb (λu=>hO.set_ (k+i) u);have O:=zb (λu=>hD.setCell (p:=⟨g,k+i,none⟩) (qX _) u);have z:=zb hS;have i1:(0:Int)<=(i:Int):=za;have i2:(i:Int)<(m:Int):=za;have i3:(i:Int)<(m:Int)+1:=za;have i4:i<m+1:=za;clear hS n e1 e2 H hI hR hO hD d c j;go_wp2_with (go_at_call 174;(with_reducible refine(z.o _).mono ?_);rintro e w' ⟨rfl,rfl⟩);go_roundg (m - i)
   case measure=>omega
   case rel=>exact⟨i+1,s2,_,za,za,by go_num,rfl,a.o,P.o,y.o _,O.o _⟩
  ·have K:i=m:=za;subst K;have h2:=hR.cell (k+i) (by have:=o.o;omega);rw [bB HA.o (by rw [j,HP.o];omega)] at h2;have h3:=hR.frozen (k+i);have B:=hI.carry;have d:=hI.dgs.getD zf i;have a:=hI.last (s:=q.getD i 0+0+cc) (by rw [HP.o]) (by rw [M.o]) rfl;obtain⟨pv,n⟩:∃b,q.getD i 0=b:=⟨_,rfl⟩;rw [n] at h2 d a;have hS:∀w,Calls prog 174 #[.int .u64 pv,.int .u64 0,.int .u64 cc] w λe w'=>e=.returned (.tuple #[.int .u64 (((pv+0+cc)%18446744073709551616:Nat):Int),.int .u64 (((pv+0+cc) / 18446744073709551616:Nat):Int)])/\w=w':=λw=>Wg pv 0 cc d zf B w;have c:=hR.set_ (k+i) ((pv+0+cc)%18446744073709551616) (by have:=o.o;omega);rw [Zt HA.o (by rw [j,HP.o];omega)] at c;obtain⟨s1,e1⟩:∃s1,(pv+0+cc)%18446744073709551616=s1:=⟨_,rfl⟩;obtain⟨s2,e2⟩:∃s2,(pv+0+cc) / 18446744073709551616=s2:=⟨_,rfl⟩;rw [e1] at a c;rw [e1,e2] at hS;have z:=zb hS;have y:=zb (hO.set_ (k+i) (.int .u64 (s1:Int)));have i1:(0:Int)<=(i:Int):=za;have i3:(i:Int)<(i:Int)+1:=za;have i4:i<i+1:=za;have G:∀v:Value,rt w ty g t N i A p C Ld (.returned v) (wr.setCell ⟨g,k+i,none⟩ (.int .u64 (s1:Int))):=λv=>by
    obtain⟨g1,g2,g3⟩:=a;rw [HP.o] at g1 g3;exact⟨v,_,rfl,g1,g2,g3,c,y.o⟩
   have HG:=zb G;clear G hS n hI hR hO hD d c j e1 e2 a;go_wp2_with (go_at_call 174;(with_reducible refine(z.o _).mono ?_);rintro e w' ⟨rfl,rfl⟩)
   go_end0
   exact HG.o _
def nM (w:World)(ty:TypeId)(g cap N m:Nat)(A p C Ld:List Nat)(e:Ending)(w':World):Prop:=
 ∃p':List Nat,e=.returned (.int .u64 ((dv 18446744073709551616 p / dv 18446744073709551616 Ld:Nat):Int))/\p'.length=m+1/\zH 18446744073709551616 p'/\dv 18446744073709551616 p'=dv 18446744073709551616 p%dv 18446744073709551616 Ld/\zJ w' ty g cap N (A++p'++C)/\y6 g w w'
theorem RI (ty:TypeId)(g a N k m c1 cd:Nat)(ad:Addr)(A p C Ld:List Nat)(w:World)(hR:zJ w ty g a N (A++p++C))(hA:A.length=k)(hp:p.length=m+1)(y:zH 18446744073709551616 p)
  (hD:zL w g 1 (some ad) m (zt .u64 Ld)) (d:zH 18446744073709551616 Ld) (hm:2<=m) (K:m<=1099511627776) (I:m+1<=c1) (hc:c1<=9223372036854775807) (J:m<=cd) (o:cd<=9223372036854775807)
  (M:18446744073709551616<=2*Ld.getD (m - 1) 0) (ac:dv 18446744073709551616 p<18446744073709551616*dv 18446744073709551616 Ld):
  Calls prog 185 #[.slice (some ⟨g,k,none⟩) (m+1) c1,.slice (some ad) m cd] w (nM w ty g a N m A p C Ld):=by
 have Y:=hR.len;have R:=hD.len_;have hg:=hR.lt;have aw:k+(m+1)<=N:=by simp at Y;omega
 obtain⟨j,rfl⟩:∃j,m=j+2:=⟨m - 2,za⟩;have T:=iz (m:=j) y d hp R M ac;have B:=hR.cell (k+(j+2)) za;have F:=hR.cell (k+(j+1)) za;rw [bB hA za] at B F;obtain⟨ap,e,ab,d1⟩:=wQ hD (k:=j+1) za;cases e;obtain⟨ap,e,_,d2⟩:=wQ hD (k:=j) za;cases e;have b1:=y.getD zf (j+2);have b2:=y.getD zf (j+1);have b3:=d.getD zf (j+1);have b4:=d.getD zf j;have GL:=pd T rfl b2;have HG:Calls prog 190 #[.slice (some ⟨g,k,none⟩) (j+2+1) c1,.slice (some ad) (j+2) cd] w (rF w (rf (p.getD (j+2) 0) (p.getD (j+1) 0) (Ld.getD (j+1) 0) (Ld.getD j 0))):=by
  by_cases hc:p.getD (j+2) 0<Ld.getD (j+1) 0
  ·exact qF g k (j+2) c1 cd ad _ _ _ _ w za K I ‹_› J o B F d1 d2 b1 b2 b3 b4 hc
  ·exact qz g k (j+2) c1 cd ad _ _ _ _ w za K I ‹_› J o B F d1 d2 b1 b2 b3 b4 hc
 obtain⟨t,ah⟩:∃t,rf (p.getD (j+2) 0) (p.getD (j+1) 0) (Ld.getD (j+1) 0) (Ld.getD j 0)=t:=⟨_,rfl⟩;rw [ah] at HG GL;obtain⟨lo,up,tb⟩:=GL;have hS:=λn=>Rw ty g a N k (j+2) c1 cd t ad A p C Ld (w.drewN n) hR hA hp y hD d K I ‹_› J o tb;have S:=vy y;rw [hp] at S;have L:=vy d;rw [R] at L;have ak:=zb HG;have ao:=zb hS;have O:=T.Dpos;have aq:=zb (λw' q (ax:zJ w' ty g a N (A++q++C)) (hq:q.length=j+2+1) (i:zH 18446744073709551616 q) (au:zL w' g 1 (some ad) (j+2) (zt .u64 Ld))=>RG ty g a N k (j+2) c1 cd ad A q C Ld w' ax hA hq i au d K I ‹_› J o);have HR:=zb (λX b'=>P7 (P:=dv 18446744073709551616 p) (D:=dv 18446744073709551616 Ld) (t:=t) (X:=X) (E:=18446744073709551616^(j+2+1)) (b':=b'));have HV:=zb (λX b'=>N0 (P:=dv 18446744073709551616 p) (D:=dv 18446744073709551616 Ld) (t:=t) (X:=X) (E:=18446744073709551616^(j+2+1)) (b':=b'));have am:=zb (QA (dv 18446744073709551616 p) O);have V:dv 18446744073709551616 Ld<=18446744073709551616^(j+2+1):=by
  have:18446744073709551616^(j+2)<=18446744073709551616^(j+2+1):=qG zf za;omega
 have ai:=zb V;have an:=zb S;have av:=zb (λn=>(y6.refl g w).drewN n);have aj:=zb (λw' (h:y6 g w w')=>h.reads hD (QK hg));have U:=zb O;obtain⟨Q,hQ⟩:∃Q,dv 18446744073709551616 p / dv 18446744073709551616 Ld=Q:=⟨_,rfl⟩;have HQ:=zb hQ;have al:=zb (show t=Q\/t=Q+1 by rw [hQ] at lo up;omega);clear HG hS hR hD y d T B F d1 d2 b1 b2 b3 b4 M ac hp hA ah ab O V S L hQ lo up R Y aw;go_enter func185,ntmps185;go_wp2_with fail;refine ak.o.mono ?_;rintro e w1 ⟨rfl,n,rfl⟩;go_wp2_with fail;refine(ao.o n).mono ?_;rintro e w2 ⟨b,q,rfl,hb,z,i,s,H,c⟩;have c:=(av.o n).trans c;have u:=vy i;rw [z] at u;rcases al.o with ht|ht
 ·obtain⟨rfl,hX⟩:=HR.out _ _ (by rw [HQ.o];exact ht) U.o u s hb;have G:zd (nM w ty g a N (j+2) A p C Ld (.returned (.int .u64 (t:Int))) w2):=⟨q,by rw [HQ.o,ht],z,i,hX,H,c⟩;clear H c hX u i s z ht hb;go_wp2;go_ret;exact G.o
 ·obtain⟨rfl,hX⟩:=HV.out _ _ (by rw [HQ.o];exact ht) U.o an.o u s hb;have ar:=zb (PN hX am.o u ai.o);have HB:=zb (aq.o w2 q H z i (aj.o _ c));have HT:=zb ht;have t2:0<t:=za;have t3:IntKind.u64.wrap ((t:Int) - 1)=(t:Int) - 1:=by rw [QT];omega
  clear H hX u i s z ht hb;go_wp2_with fail;refine HB.o.mono ?_;rintro e w3 ⟨v,r,rfl,af,ae,ag,aa,Z⟩;have G:zd (nM w ty g a N (j+2) A p C Ld (.returned (.int .u64 ((t:Int) - 1))) w3):=⟨r,by rw [HQ.o,HT.o];simp,af,ae,by rw [ag];exact ar.o,aa,c.trans Z⟩;clear aa Z c af ae ag;go_wp2;go_ret;exact G.o
def fk (w:World)(ty:TypeId)(N X:Nat)(e:Ending)(w':World):Prop:=
 ∃(g:Nat) (L:List Nat),e=.returned (.slice (some ⟨g,0,none⟩) N N)/\w.heap.size<=g/\zJ w' ty g N N L/\zH 18446744073709551616 L/\dv 18446744073709551616 L=X/\Below w.heap.size w w'
theorem jP (b:Nat)(l:List Nat)(n:Nat):dv b (l++List.replicate n 0)=dv b l:=by rw [tF,iK,yD,XX]
theorem Vu (x up N:Nat)(A:ze)(n c:Nat)(w:World)(hA:zo w x A n c)(hn:n<=274877906944)(R:up<=63)(hN:(dg 18446744073709551616 (2^up*x)).length<=N)(hN2:N<=549755813888):
  Calls prog 184 #[.agg #[.slice A n c],.int .i64 up,.int .i64 N] w (fk w 125 N (2^up*x)):=by
 obtain⟨i0,I,S,J,T⟩:=info_parts o6;have HS:=zj w (λw' hb=>SJ x up A n c w' (hA.below hb) za za);obtain⟨y,hy⟩:∃y,2^up*x=y:=⟨_,rfl⟩;rw [hy] at HS hN⊢;have HW:=zb (λw' A' n' c' (h:zo w' y A' n' c') (hb:n'<=1099511627776)=>ji y A' n' c' w' h hb);have HN:=zb hN;obtain⟨Z,hZ⟩:∃Z,madeCells (Value.cells (.int .u64 0)) N=Z:=⟨_,rfl⟩;have F:zd (Z=(zt .u64 (List.replicate N 0)).toArray):=by
  show _=_;have h:Z.toList=zt .u64 (List.replicate N 0):=by
   rw [<-hZ];exact(toList_madeCells_one _ _).trans (by simp [zt])
  rw [<-h]
 have P:∀W:World,(Instr.makeSlice 48 (.int .i64 (N:Int)) (.int .i64 (N:Int))).run prog W=.ok (.slice (some ⟨W.heap.size,0,none⟩) N N) (W.alloc (.cells Z 125)):=λW=>by
  have h:=sV _ _ i0 _ underlying48 I S .i64 .i64 N N (qX _) (by rw [T];omega) za W;rw [J,xS,hZ] at h;exact h
 clear hZ hA hN hy R;go_enter func184,ntmps184;go_wp2_with fail;generalize hW:w.alloc (.cells #[.slice A n c] 50)=W0;obtain⟨b1,b2,b5⟩:=zw w 50 #[.slice A n c];rw [hW] at b1 b2 b5;clear hW b2;refine(HS.o _ b1).mono ?_;rintro e w1 ⟨A1,n1,c1,rfl,k,hb,M⟩;have hB:=zc b1 hb;clear hb b1 b5;obtain⟨d1,d2,d5⟩:=zw w1 50 #[.slice A1 n1 c1];have d0:=hB.size;have hB:=zc hB d1;have k:=k.below d1;have g1:(w1.alloc (.cells #[.slice A1 n1 c1] 50)).cell? ⟨w1.heap.size,0,none⟩=some (.slice A1 n1 c1):=d2.cell 0;clear d1 d2 d5 M;go_wp2_with fail;have B:=k.below ((qZ _ (w1.alloc (.cells #[.slice A1 n1 c1] 50))).alloc (qX _) (.cells Z 125));have hz:=zh.new (w1.alloc (.cells #[.slice A1 n1 c1] 50)) 125 Z;have hB:=xx (.cells Z 125) hB;have i:w.heap.size<=(w1.alloc (.cells #[.slice A1 n1 c1] 50)).heap.size:=by have:=hB.size;simp at this⊢;have:=d0;omega
 rw [show(w1.alloc (.cells #[.slice A1 n1 c1] 50)).heap.size=w1.heap.size+1 from by simp] at hz i;obtain⟨gs,H⟩:∃g,w1.heap.size+1=g:=⟨_,rfl⟩;rw [H] at hz i⊢;generalize (w1.alloc (.cells #[.slice A1 n1 c1] 50)).alloc (.cells Z 125)=W2 at*;clear H k g1 P;have z:=B.len;have Q:n1<=N:=by have:=HN.o;omega
 refine(HW.o _ A1 n1 c1 B za).mono ?_;rintro e w3 ⟨A2,c2,rfl,a,_,⟨_,O⟩,hb⟩;have hB:=zc hB hb;have hz:=zg hb hz;rw [F.o] at hz;rw [z] at a;rw [z];have t:=a.len_;have s:=uA (b:=18446744073709551616) zf y;have u:=vw (b:=18446744073709551616) zf y;obtain⟨D,hD⟩:∃D,dg 18446744073709551616 y=D:=⟨_,rfl⟩;rw [hD] at a t s u;have m:0<(zt .u64 D).length->∃ad,A2=some ad/\∀j v,(zt .u64 D)[j]?=some v->w3.cell? (ad.add j)=some v:=λh=>by
  rw [wL] at h;obtain⟨ad,e,_,hc⟩:=a.2 za;exact⟨ad,e,hc⟩
 have C:=zb m;have E:zd (∀w4,zd (w4.heap[gs]?=some (.cells (splice (zt .u64 (List.replicate N 0)) 0 (zt .u64 D)).toArray 125 (0,0)))->Below w.heap.size w w4->fk w 125 N y (.returned (.slice (some ⟨gs,0,none⟩) N N)) w4):=λw4 h4 d=>by
  have e:splice (zt .u64 (List.replicate N 0)) 0 (zt .u64 D)=zt .u64 (D++List.replicate (N - n1) 0):=by
   unfold splice;rw [List.take_zero,yQ,xR,wL,N4,t,List.drop_replicate,<-sE]
  rw [e] at h4;refine⟨gs,D++List.replicate (N - n1) 0,rfl,i,⟨_,h4.o,qX _,by unfold maxLen;omega,by simp [wL];omega,by simp;omega,?_⟩,s.append (zH.zeros zf _),by rw [jP,u],d⟩;show(zt .u64 (D++List.replicate (N - n1) 0)).take N=_;rw [qV (by rw [wL];simp;omega)]
 have L:=zb hz;have K:=zb hB;clear hz hB m s u hD a O hb z B F;have hu:=underlying48;go_wp2_with ((with_reducible show wpList _ _ _ _ _ _);refine wpList_copy_splice (o:=⟨some 21,_,_,_,_,_⟩) rfl (.tmp 18) (.tmp 20) 48 48 rfl 125 hu (by rw [I];simp [J]) (some ⟨gs,0,none⟩) A2 N N n1 c2 rfl rfl gs 0 (zt .u64 (List.replicate N 0)) 125 L.o (zt .u64 D) (by rw [wL,t];exact(xG Q).symm) (λh=>⟨rfl,C.o h⟩) (by rw [wL,wL];simp;omega) (iO _ _) w.heap.size w K.o i ?_;intro w4 h4 d);have G:=zb (E.o w4 h4 d);clear h4 d;go_wp2;go_ret;exact G.o
theorem mX {d m:Nat}(hd:(dg 18446744073709551616 d).length=m+1):∃up:Nat,(64 - tN ((wd d m:Nat):Int)=(up:Int))/\up<=63/\2^up*d<18446744073709551616^(m+1)/\18446744073709551616<=2*(2^up*d / 18446744073709551616^m):=by
 obtain⟨h1,h2,_⟩:=VB hd;have h3:=wX d m;obtain⟨up,e,hu,c,g⟩:=Tj ((wd d m:Nat):Int) za za;refine⟨up,e,hu,?_,?_⟩
 ·obtain⟨t,ht⟩:∃t,wd d m=t:=⟨_,rfl⟩;rw [ht] at h1 g;have h4:t*2^up<2^(64 - up)*2^up:=by
   rw [<-xU,show 64 - up+up=64 from by omega];have:((t*2^up:Nat):Int)<((2^64:Nat):Int):=by
    rw [xX,yB];exact g
   omega
  have h5:t+1<=2^(64 - up):=yA h4;have h6:d<(t+1)*18446744073709551616^m:=by
   have:=Nat.lt_div_mul_add (a:=d) (b:=18446744073709551616^m) (XB zf);rw [<-h1] at this;rw [QN,yP];exact this
  have h7:d<2^(64 - up)*18446744073709551616^m:=qJ h6 (qE _ h5);have h8:2^up*d<2^up*(2^(64 - up)*18446744073709551616^m):=(Nat.mul_lt_mul_left (xZ up)).2 h7;rw [<-qH,<-xU,show up+(64 - up)=64 from by omega] at h8;rw [Nat.pow_succ'];exact h8
 ·rw [h1] at c;obtain⟨t,ht⟩:∃t,d / 18446744073709551616^m=t:=⟨_,rfl⟩;rw [ht] at c;have h4:t*2^up<=2^up*d / 18446744073709551616^m:=by
   refine(Nat.le_div_iff_mul_le (XB zf)).2 ?_;rw [qB t,qH,<-ht];exact QW _ (Nat.div_mul_le_self _ _)
  have h5:((9223372036854775808:Nat):Int)<=((t*2^up:Nat):Int):=by
   rw [xX,yB];exact c
  omega
theorem pI {x up:Nat}(hx:(dg 18446744073709551616 x).length=n)(hu:up<=63):(dg 18446744073709551616 (2^up*x)).length<=n+1:=by
 have h:=yv (b:=18446744073709551616) zf x;rw [hx] at h;refine wP zf _ _ ?_;rw [Nat.pow_succ'];exact XP (QO (qG zf hu) zf) h
theorem Od {x d n m k up:Nat}(hx:(dg 18446744073709551616 x).length=n)(hd:(dg 18446744073709551616 d).length=m+1)(hk:m+k=n):2^up*x / 18446744073709551616^k<2^up*d:=by
 refine(QM (XB zf)).2 ?_;have h:=yv (b:=18446744073709551616) zf x;rw [hx,<-hk,xU] at h;have h0:d≠0:=λe=>by rw [e,oW] at hd;simp at hd
 have h2:=(jA (b:=18446744073709551616) zf d h0).2;rw [hd,Nat.add_sub_cancel] at h2;rw [qH];refine(Nat.mul_lt_mul_left (xZ up)).2 ?_;exact qJ h (qE _ h2)
theorem pJ {m:Nat}{L:List Nat}(hl:L.length=m+1)(hd:zH 18446744073709551616 L)(hv:dv 18446744073709551616 L=D)(h:18446744073709551616<=2*(D / 18446744073709551616^m)):18446744073709551616<=2*L.getD m 0:=by
 rw [jt zf hd,hv];have h1:=vy hd;rw [hl,hv,qO] at h1;have h2:D / 18446744073709551616^m<18446744073709551616:=(QM (XB zf)).2 (by rw [qB];exact h1);rw [qS h2];exact h
theorem OX (x d up:Nat):2^up*x / (2^up*d)=x / d/\2^up*x%(2^up*d) / 2^up=x%d:=by
 refine⟨Nat.mul_div_mul_left _ _ (xZ up),?_⟩;rw [Nat.mul_mod_mul_left,XT _ (xZ up)]
