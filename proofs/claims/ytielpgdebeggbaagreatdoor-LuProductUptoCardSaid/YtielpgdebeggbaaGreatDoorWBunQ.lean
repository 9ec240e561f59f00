/- What this claim leans on. -/
import Derived.Test.YtielpgdebeggbaaGreatDoorWBunO
import Derived.Laws.CopyOwn
import Derived.RangeFuncBox
set_option linter.unusedVariables false
set_option linter.unusedSimpArgs false
namespace Go.Proofs.YtielpgdebeggbaaGreatDoor
open Go Go.RowKit Go.Proofs.Tryz
set_option maxHeartbeats 16000000
set_option maxRecDepth 100000
variable {A C p:List Nat}{D j k n u1:Nat}
def vy (u2 u1 h:Nat):Nat:=if u2<h then(u2*18446744073709551616+u1) / h else 18446744073709551615
def oj (u2 u1 h:Nat):Nat:=if u2<h then(u2*18446744073709551616+u1)%h else u1+h
def sG (u2 u1 h v:Nat):Nat:=if oj u2 u1 h<vy u2 u1 h*v / 18446744073709551616/\oj u2 u1 h<18446744073709551616 then vy u2 u1 h - 1 else vy u2 u1 h
theorem Wo {u2 h:Nat}(hu:u1<18446744073709551616):vy u2 u1 h<18446744073709551616:=by
 unfold vy
 split
 ·rename_i hc
  refine(QA zb).2 ?_;have:(u2+1)*18446744073709551616<=h*18446744073709551616:=qS _ hc;rw [QQ _ h];omega
 ·decide
theorem r9 {P U h v M u2:Nat}(H:vT P D U h v M)(hU:U=u2*18446744073709551616+u1)(hu:u1<18446744073709551616):P / D<=sG u2 u1 h v/\sG u2 u1 h v<=P / D+1/\sG u2 u1 h v<18446744073709551616:=by
 have hh:=H.hh;have ht:=H.top;have hq:=H.q.2.2;have tb:=Wo (u2:=u2) (h:=h) hu;have e:vy u2 u1 h*h+oj u2 u1 h=U:=by
  unfold vy oj
  split
  ·rw [hU,QQ _ h,yQ]
  ·obtain rfl:u2=h:=by rw [hU] at ht;omega
   rw [hU];omega
 have lo:P / D<=vy u2 u1 h:=by
  unfold vy
  split
  ·rw [<-hU];exact(Nat.le_div_iff_mul_le zb).2 H.le
  ·omega
 have up:vy u2 u1 h<=P / D+2:=H.two zb tb;obtain⟨t,c⟩:∃t,vy u2 u1 h=t:=⟨_,rfl⟩;obtain⟨r,a⟩:∃r,oj u2 u1 h=r:=⟨_,rfl⟩;unfold sG;rw [c] at lo up tb e;rw [a] at e;rw [c,a];obtain⟨q,d⟩:∃q,P / D=q:=⟨_,rfl⟩;have vb:=H.vb;have h2:t*v / 18446744073709551616<18446744073709551616:=by
  refine(QA zf).2 ?_;exact QN (Nat.mul_le_mul (show t<=18446744073709551615 by omega) (show v<=18446744073709551615 by omega)) zf
 have d1:=H.dec (t:=t) (r:=r) e;have d2:=H.one (t:=t) (r:=r) e tb;rw [d] at lo up hq d1 d2⊢;obtain⟨x,hx⟩:∃x,t*v / 18446744073709551616=x:=⟨_,rfl⟩;rw [hx] at h2
 split
 ·rename_i hc
  rw [hx] at hc;have h1:=d1 ((Nat.le_div_iff_mul_le zf).1 (by rw [hx];omega));clear d1 d2;omega
 ·rename_i hc
  rw [hx] at hc;have h1:=d2 ((QA zf).1 (by rw [hx];omega));clear d1 d2;omega
theorem UG (x y:Nat)(hx:x<18446744073709551616)(hy:y<18446744073709551616)(w:World):
  Calls prog 175 #[.int .u64 x,.int .u64 y] w λe w'=>e=.returned (.tuple #[.int .u64 ((x*y / 18446744073709551616:Nat):Int),.int .u64 ((x*y%18446744073709551616:Nat):Int)])/\w=w':=by
 have h:=pZ x y ⟨zb,zb⟩ ⟨zb,zb⟩ w;rw [show sh (x:Int) (y:Int)=((x*y / 18446744073709551616:Nat):Int) from by unfold sh;simp,show vt (x:Int) (y:Int)=((x*y%18446744073709551616:Nat):Int) from by unfold vt;simp] at h;exact h
theorem Uq (hi lo y:Nat)(h1:hi<y)(hy:y<18446744073709551616)(hl:lo<18446744073709551616)(w:World):
  Calls prog 162 #[.int .u64 hi,.int .u64 lo,.int .u64 y] w λe w'=>e=.returned (.tuple #[.int .u64 (((hi*18446744073709551616+lo) / y:Nat):Int),.int .u64 (((hi*18446744073709551616+lo)%y:Nat):Int),.bool true])/\∃n,w'=w.drewN n:=by
 have h:=T3 hi lo y ⟨zb,zb⟩ zb zb ⟨zb,zb⟩ w;rw [show vg (hi:Int) (lo:Int) (y:Int)=(((hi*18446744073709551616+lo) / y:Nat):Int) from by unfold vg;simp,show vh (hi:Int) (lo:Int) (y:Int)=(((hi*18446744073709551616+lo)%y:Nat):Int) from by unfold vh;simp] at h;exact h
theorem Zv (x y c:Nat)(hx:x<18446744073709551616)(hy:y<18446744073709551616)(hc:c<=1)(w:World):
  Calls prog 153 #[.int .u64 x,.int .u64 y,.int .u64 c] w λe w'=>e=.returned (.tuple #[.int .u64 (((x+y+c)%18446744073709551616:Nat):Int),.int .u64 (((x+y+c) / 18446744073709551616:Nat):Int)])/\w=w':=by
 have h:=Ug x y c ⟨zb,zb⟩ ⟨zb,zb⟩ ⟨zb,zb⟩ w;rw [Wh hc,Wg hc] at h;exact h
def re (w:World)(t:Nat)(e:Ending)(w':World):Prop:=e=.returned (.int .u64 (t:Int))/\∃n,w'=w.drewN n
theorem r8 (g k m c1 cd:Nat)(ad:Addr)(u2 u1 h v:Nat)(w:World)(hm:2<=m)(hm2:m<=1099511627776)(hc1:m+1<=c1)(hc:c1<=9223372036854775807)(hcd:m<=cd)(n:cd<=9223372036854775807)
  (j:w.cell? ⟨g,k+m,none⟩=some (.int .u64 (u2:Int))) (i:w.cell? ⟨g,k+(m - 1),none⟩=some (.int .u64 (u1:Int))) (hH:w.cell? (ad.add (m - 1))=some (.int .u64 (h:Int))) (hV:w.cell? (ad.add (m - 2))=some (.int .u64 (v:Int)))
  (u2b:u2<18446744073709551616) (A:u1<18446744073709551616) (hb:h<18446744073709551616) (vb:v<18446744073709551616) (c:u2<h):
  Calls prog 171 #[.slice (some ⟨g,k,none⟩) (m+1) c1,.slice (some ad) m cd] w (re w (sG u2 u1 h v)):=by
 have et:vy u2 u1 h=(u2*18446744073709551616+u1) / h:=if_pos c;have er:oj u2 u1 h=(u2*18446744073709551616+u1)%h:=if_pos c;have rb:(u2*18446744073709551616+u1)%h<18446744073709551616:=Nat.lt_trans (xG _ zb) hb;have tb:=Wo (u2:=u2) (h:=h) A;have HD:=λw=>Uq u2 u1 h c hb A w;have HM:=λw=>UG (vy u2 u1 h) v tb vb w;have HN:sG u2 u1 h v=if oj u2 u1 h<vy u2 u1 h*v / 18446744073709551616/\oj u2 u1 h<18446744073709551616 then vy u2 u1 h - 1 else vy u2 u1 h:=rfl
 rw [et,er] at HN;rw [et] at HM tb;clear et er;obtain⟨t,ht⟩:∃t,(u2*18446744073709551616+u1) / h=t:=⟨_,rfl⟩;obtain⟨r,hr⟩:∃r,(u2*18446744073709551616+u1)%h=r:=⟨_,rfl⟩;rw [ht,hr] at HD HN;rw [hr] at rb;rw [ht] at HM tb;obtain⟨nd,d⟩:∃nd,t*v / 18446744073709551616=nd:=⟨_,rfl⟩;obtain⟨nl,u⟩:∃nl,t*v%18446744073709551616=nl:=⟨_,rfl⟩;rw [d,u] at HM;rw [d] at HN;have hnt:nd<=t:=by
  rw [<-d];refine qH (Nat.div_le_div_right (QM t (qG vb))) ?_;rw [Nat.mul_div_cancel _ zf];exact qX _
 have y:=za HD;have z:=za HM;obtain⟨GN,s⟩:∃GN,sG u2 u1 h v=GN:=⟨_,rfl⟩;rw [s] at HN⊢;have hJ:IntKind.i64.wrap ((m:Int) - 1)=(m:Int) - 1/\IntKind.i64.wrap ((m:Int) - 2)=(m:Int) - 2:=⟨QP _ zb,QP _ zb⟩;have hK:((m:Int) - 1).toNat=m - 1/\((m:Int) - 2).toNat=m - 2:=⟨zb,zb⟩;have hL:(0:Int)<=(m:Int) - 1/\(m:Int) - 1<(m:Int)/\(0:Int)<=(m:Int) - 2/\(m:Int) - 2<(m:Int)/\(m:Int)<(m:Int)+1/\(m:Int) - 1<(m:Int)+1:=zb;obtain⟨l1,l2,l3,l4,l5,l6⟩:=hL;by_cases hc:r<nd
 ·rw [if_pos ⟨hc,rb⟩] at HN;have HG:=za HN;have t1:decide ((r:Int)<(nd:Int))=true:=by simpa using hc
  have t2:0<t:=zb;have t3:IntKind.u64.wrap ((t:Int) - 1)=(t:Int) - 1:=by rw [xY];omega
  clear HD HM HN ht hr d u s rb c n;obtain⟨j1,j2⟩:=hJ;obtain⟨j3,j4⟩:=hK;go_enter func171,ntmps171;go_wp2
  go_quiet (fail)
  obtain⟨w1,a⟩:∃w1,w.drewN nq=w1:=⟨_,rfl⟩;have o:=za a;have j:w1.cell? ⟨g,k+m,none⟩=some (.int .u64 (u2:Int)):=by rw [<-a];exact j
  have i:w1.cell? ⟨g,k+(m - 1),none⟩=some (.int .u64 (u1:Int)):=by rw [<-a];exact i
  rw [a];clear a;go_wp2
  go_quiet ((go_at_call 162;exact Calls.quiet_of (y.o _)))
  go_wp2_with (go_at_call 175;(with_reducible refine(z.o _).mono ?_);rintro e w' ⟨rfl,rfl⟩);go_ret;refine⟨by rw [HG.o];show Ending.returned (.int .u64 ((t:Int) - 1))=_;rw [Int.ofNat_sub zb];rfl,?_⟩;rw [<-o.o,World.drewN_drewN];exact⟨_,rfl⟩
 ·rw [if_neg (λh=>hc h.1)] at HN;have HG:=za HN;have t1:decide ((r:Int)<(nd:Int))=false:=by simpa using hc
  clear HD HM HN ht hr d u s rb c n;obtain⟨j1,j2⟩:=hJ;obtain⟨j3,j4⟩:=hK;go_enter func171,ntmps171;go_wp2
  go_quiet (fail)
  obtain⟨w1,a⟩:∃w1,w.drewN nq=w1:=⟨_,rfl⟩;have o:=za a;have j:w1.cell? ⟨g,k+m,none⟩=some (.int .u64 (u2:Int)):=by rw [<-a];exact j
  have i:w1.cell? ⟨g,k+(m - 1),none⟩=some (.int .u64 (u1:Int)):=by rw [<-a];exact i
  rw [a];clear a;go_wp2
  go_quiet ((go_at_call 162;exact Calls.quiet_of (y.o _)))
  go_wp2_with (go_at_call 175;(with_reducible refine(z.o _).mono ?_);rintro e w' ⟨rfl,rfl⟩);go_ret;refine⟨by rw [HG.o];rfl,?_⟩;rw [<-o.o,World.drewN_drewN];exact⟨_,rfl⟩
theorem r6 (g k m c1 cd:Nat)(ad:Addr)(u2 u1 h v:Nat)(w:World)(hm:2<=m)(hm2:m<=1099511627776)(hc1:m+1<=c1)(hc:c1<=9223372036854775807)(hcd:m<=cd)(n:cd<=9223372036854775807)
  (d:w.cell? ⟨g,k+m,none⟩=some (.int .u64 (u2:Int))) (c:w.cell? ⟨g,k+(m - 1),none⟩=some (.int .u64 (u1:Int))) (hH:w.cell? (ad.add (m - 1))=some (.int .u64 (h:Int))) (hV:w.cell? (ad.add (m - 2))=some (.int .u64 (v:Int)))
  (u2b:u2<18446744073709551616) (B:u1<18446744073709551616) (hb:h<18446744073709551616) (vb:v<18446744073709551616) (o:¬ u2<h):
  Calls prog 171 #[.slice (some ⟨g,k,none⟩) (m+1) c1,.slice (some ad) m cd] w (re w (sG u2 u1 h v)):=by
 have et:vy u2 u1 h=18446744073709551615:=if_neg o;have er:oj u2 u1 h=u1+h:=if_neg o;have HD:=λw=>SQ u2 u1 h zb w;have HM:∀w,Calls prog 175 #[.int .u64 18446744073709551615,.int .u64 v] w λe w'=>e=.returned (.tuple #[.int .u64 ((18446744073709551615*v / 18446744073709551616:Nat):Int),.int .u64 ((18446744073709551615*v%18446744073709551616:Nat):Int)])/\w=w':=λw=>UG 18446744073709551615 v zf vb w;have HA:∀w,Calls prog 153 #[.int .u64 u1,.int .u64 h,.int .u64 0] w λe w'=>e=.returned (.tuple #[.int .u64 (((u1+h+0)%18446744073709551616:Nat):Int),.int .u64 (((u1+h+0) / 18446744073709551616:Nat):Int)])/\w=w':=λw=>Zv u1 h 0 B hb zf w;have HN:sG u2 u1 h v=if oj u2 u1 h<vy u2 u1 h*v / 18446744073709551616/\oj u2 u1 h<18446744073709551616 then vy u2 u1 h - 1 else vy u2 u1 h:=rfl
 rw [et,er] at HN;clear et er;obtain⟨nd,s⟩:∃nd,18446744073709551615*v / 18446744073709551616=nd:=⟨_,rfl⟩;obtain⟨nl,y⟩:∃nl,18446744073709551615*v%18446744073709551616=nl:=⟨_,rfl⟩;rw [s,y] at HM;rw [s] at HN;have z:=za HD;have A:=za HM;obtain⟨GN,u⟩:∃GN,sG u2 u1 h v=GN:=⟨_,rfl⟩;rw [u] at HN⊢;have hJ:IntKind.i64.wrap ((m:Int) - 1)=(m:Int) - 1/\IntKind.i64.wrap ((m:Int) - 2)=(m:Int) - 2:=⟨QP _ zb,QP _ zb⟩;have hK:((m:Int) - 1).toNat=m - 1/\((m:Int) - 2).toNat=m - 2:=⟨zb,zb⟩;have hL:(0:Int)<=(m:Int) - 1/\(m:Int) - 1<(m:Int)/\(0:Int)<=(m:Int) - 2/\(m:Int) - 2<(m:Int)/\(m:Int)<(m:Int)+1/\(m:Int) - 1<(m:Int)+1:=zb;obtain⟨l1,l2,l3,l4,l5,l6⟩:=hL;by_cases hr:u1+h<18446744073709551616
 ·rw [show(u1+h+0)%18446744073709551616=u1+h from by omega,show(u1+h+0) / 18446744073709551616=0 from by omega] at HA;obtain⟨r,i⟩:∃r,u1+h=r:=⟨_,rfl⟩;rw [i] at HA HN hr;have t:=za HA;by_cases hc:r<nd
  ·rw [if_pos ⟨hc,hr⟩] at HN;have HG:=za HN;have t1:decide ((r:Int)<(nd:Int))=true:=by simpa using hc
   clear i hr;clear HD HM HN HA s y u o n;obtain⟨j1,j2⟩:=hJ;obtain⟨j3,j4⟩:=hK;go_enter func171,ntmps171;go_wp2
   go_quiet (fail)
   obtain⟨w1,a⟩:∃w1,w.drewN nq=w1:=⟨_,rfl⟩;have j:=za a;have d:w1.cell? ⟨g,k+m,none⟩=some (.int .u64 (u2:Int)):=by rw [<-a];exact d
   have c:w1.cell? ⟨g,k+(m - 1),none⟩=some (.int .u64 (u1:Int)):=by rw [<-a];exact c
   rw [a];clear a;go_wp2
   go_quiet ((go_at_call 162;exact jL (z.o _)))
   have c:(w1.drewN nq).cell? ⟨g,k+(m - 1),none⟩=some (.int .u64 (u1:Int)):=c;go_wp2_with (first|(go_at_call 175;(with_reducible refine(A.o _).mono ?_);rintro e w' ⟨rfl,rfl⟩)|(go_at_call 153;(with_reducible refine(t.o _).mono ?_);rintro e w' ⟨rfl,rfl⟩));go_ret;refine⟨by rw [HG.o];rfl,?_⟩;rw [<-j.o,World.drewN_drewN];exact⟨_,rfl⟩
  ·rw [if_neg (λh=>hc h.1)] at HN;have HG:=za HN;have t1:decide ((r:Int)<(nd:Int))=false:=by simpa using hc
   clear i hr;clear HD HM HN HA s y u o n;obtain⟨j1,j2⟩:=hJ;obtain⟨j3,j4⟩:=hK;go_enter func171,ntmps171;go_wp2
   go_quiet (fail)
   obtain⟨w1,a⟩:∃w1,w.drewN nq=w1:=⟨_,rfl⟩;have j:=za a;have d:w1.cell? ⟨g,k+m,none⟩=some (.int .u64 (u2:Int)):=by rw [<-a];exact d
   have c:w1.cell? ⟨g,k+(m - 1),none⟩=some (.int .u64 (u1:Int)):=by rw [<-a];exact c
   rw [a];clear a;go_wp2
   go_quiet ((go_at_call 162;exact jL (z.o _)))
   have c:(w1.drewN nq).cell? ⟨g,k+(m - 1),none⟩=some (.int .u64 (u1:Int)):=c;go_wp2_with (first|(go_at_call 175;(with_reducible refine(A.o _).mono ?_);rintro e w' ⟨rfl,rfl⟩)|(go_at_call 153;(with_reducible refine(t.o _).mono ?_);rintro e w' ⟨rfl,rfl⟩));go_ret;refine⟨by rw [HG.o];rfl,?_⟩;rw [<-j.o,World.drewN_drewN];exact⟨_,rfl⟩
 ·rw [show(u1+h+0) / 18446744073709551616=1 from by omega] at HA;obtain⟨r,i⟩:∃r,(u1+h+0)%18446744073709551616=r:=⟨_,rfl⟩;rw [i] at HA;have t:=za HA;rw [if_neg (λh=>hr h.2)] at HN;have HG:=za HN;clear i hr;clear HD HM HN HA s y u o n;obtain⟨j1,j2⟩:=hJ;obtain⟨j3,j4⟩:=hK;go_enter func171,ntmps171;go_wp2
  go_quiet (fail)
  obtain⟨w1,a⟩:∃w1,w.drewN nq=w1:=⟨_,rfl⟩;have j:=za a;have d:w1.cell? ⟨g,k+m,none⟩=some (.int .u64 (u2:Int)):=by rw [<-a];exact d
  have c:w1.cell? ⟨g,k+(m - 1),none⟩=some (.int .u64 (u1:Int)):=by rw [<-a];exact c
  rw [a];clear a;go_wp2
  go_quiet ((go_at_call 162;exact jL (z.o _)))
  have c:(w1.drewN nq).cell? ⟨g,k+(m - 1),none⟩=some (.int .u64 (u1:Int)):=c;go_wp2_with (first|(go_at_call 175;(with_reducible refine(A.o _).mono ?_);rintro e w' ⟨rfl,rfl⟩)|(go_at_call 153;(with_reducible refine(t.o _).mono ?_);rintro e w' ⟨rfl,rfl⟩));go_ret;refine⟨by rw [HG.o];rfl,?_⟩;rw [<-j.o,World.drewN_drewN];exact⟨_,rfl⟩
def yv (g:Nat)(w w':World):Prop:=w.grownBy w' (some g)
section
variable {g:Nat}{w w' w2:World}
theorem yv.refl (g:Nat)(w:World):yv g w w:=⟨rfl,rfl,rfl,qX _,λ_ _ _=>rfl⟩
theorem yv.trans (h:yv g w w')(k:yv g w' w2):yv g w w2:=
 ⟨k.os.trans h.os,k.tape.trans h.tape,k.output.trans h.output,qH h.size k.size,λi hi a=>(k.block i (qJ hi h.size) a).trans (h.block i hi a)⟩
theorem yv.set_ (h:yv g w w')(k:Nat)(u:Value):yv g w (w'.setCell ⟨g,k,none⟩ u):=
 h.trans ⟨rfl,rfl,rfl,by simp [World.setCell],λi _ a=>Below.heap_setCell _ _ _ i (λe=>a (by rw [e]))⟩
theorem yv.drewN (h:yv g w w')(n:Nat):yv g w (w'.drewN n):=⟨h.os,h.tape,h.output,h.size,h.block⟩
theorem yv.blk {b:Nat}{t:TypeId}{cs:Array Value}(h:yv g w w')(hb:zh w b t cs)(a:b≠g):zh w' b t cs:=hb.grown h (λe=>a (by injection e))
theorem yv.reads {A:ze}{xs:List Value}(h:yv g w w')(hr:zK w g 1 A n xs)(hg:g<=w.heap.size):zK w' g 1 A n xs:=hr.grown h hg (λ_ e=>by cases e;exact qX _)
theorem yv.below {B:Nat}{w0:World}(h:yv g w w')(hb:Below B w0 w)(hB:B<=w.heap.size)(hg:B<=g):Below B w0 w':=hb.grown h hB (λ_ e=>by cases e;exact hg)
theorem yv.cell {p:Addr}{v:Value}(h:yv g w w')(hc:w.cell? p=some v)(a:p.block≠g):w'.cell? p=some v:=World.grownBy.cell h hc (λe=>a (by injection e))
end
theorem fC (hA:A.length=k)(hj:j<p.length):(A++p++C).getD (k+j) 0=p.getD j 0:=by
 simp only [qQ];rw [xX,qT zb,QG zb,hA,yZ]
theorem dZ {d:Nat}(hA:A.length=k)(hj:j<p.length):(A++p++C).set (k+j) d=A++p.set j d++C:=by
 rw [xX,yS _ _ zb,hA,yZ,List.set_append_left _ _ hj,xX]
theorem Vf (a b c:Nat)(ha:a<18446744073709551616)(hb:b<18446744073709551616)(hc:c<=1):∃d c':Nat,d<18446744073709551616/\c'<=1/\d+b+c=a+18446744073709551616*c'/\
  ∀w:World,Calls prog 154 #[.int .u64 a,.int .u64 b,.int .u64 c] w λe w'=>e=.returned (.tuple #[.int .u64 (d:Int),.int .u64 (c':Int)])/\w=w':=by
 obtain⟨d,c',e1,e2,h1,h2,h3⟩:=ZM ha hb hc;refine⟨d,c',h1,h2,h3,λw=>?_⟩;have h:=Uh a b c ⟨zb,zb⟩ ⟨zb,zb⟩ ⟨zb,zb⟩ w;rw [e1,e2] at h;exact h
theorem me (p q r:Nat)(hp:p<18446744073709551616)(hq:q<18446744073709551616)(hr:r<18446744073709551616)(w:World):
  Calls prog 127 #[.int .u64 p,.int .u64 q,.int .u64 r,.int .u64 0] w λe w'=>e=.returned (.tuple #[.int .u64 (((p*q+r+0) / 18446744073709551616:Nat):Int),.int .u64 (((p*q+r+0)%18446744073709551616:Nat):Int)])/\w=w':=
 Xs p q r 0 hp hq hr zf w
def rj (w:World)(ty:TypeId)(g cap N m t:Nat)(A p C Ld:List Nat)(e:Ending)(w':World):Prop:=
 ∃(b:Nat) (p':List Nat),e=.returned (.bool (b==1))/\b<=1/\p'.length=m+1/\zG 18446744073709551616 p'/\dv 18446744073709551616 p'+t*dv 18446744073709551616 Ld=dv 18446744073709551616 p+18446744073709551616^(m+1)*b/\zF w' ty g cap N (A++p'++C)/\yv g w w'
theorem Tl (ty:TypeId)(g cap N k m c1 cd t:Nat)(ad:Addr)(A p C Ld:List Nat)(w:World)(hR:zF w ty g cap N (A++p++C))(hA:A.length=k)(hp:p.length=m+1)(P:zG 18446744073709551616 p)
  (hD:zK w g 1 (some ad) m (zB .u64 Ld)) (L:zG 18446744073709551616 Ld) (hm2:m<=1099511627776) (hc1:m+1<=c1) (hc:c1<=9223372036854775807) (hcd:m<=cd) (hcd2:cd<=9223372036854775807) (ht:t<18446744073709551616):
  Calls prog 172 #[.slice (some ⟨g,k,none⟩) (m+1) c1,.slice (some ad) m cd,.int .u64 t] w (rj w ty g cap N m t A p C Ld):=by
 have J:=hR.len;have M:=hD.len_;have HA:=za hA;have HP:=za hp;have o:=za (show k+(m+1)<=N by simp at J;omega);have Q:=za M;have I:=za L;have HI:=za (mV.start Ld t P);have HO:=yv.refl g w;clear hA hp J M L P;go_enter func172,ntmps172;go_wp2_with fail
 go_loopg [7,8,16] (m+1) (λgg cy bo ix wr=>∃(i cc bb:Nat) (q:List Nat),i<=m/\m<gg+i/\ix=.int .i64 i/\cy=.int .u64 cc/\bo=.int .u64 bb/\mV p Ld t i q cc bb/\zF wr ty g cap N (A++q++C)/\yv g w wr/\zK wr g 1 (some ad) m (zB .u64 Ld))
 case atStart=>exact⟨0,0,0,p,qW _,zb,rfl,rfl,rfl,HI.o,hR,HO,hD⟩
 case round=>
  clear hR HI HO hD;obtain⟨i,cc,bb,q,him,hgg,rfl,rfl,rfl,hI,hR,hO,hD⟩:=hrel;have c:=hI.len;by_cases hlt:i<m
  ·obtain⟨ad',e,hadb,h1⟩:=se hD (k:=i) hlt;cases e;have T:=I.o.getD zf i;have h2:=hR.cell (k+i) (by have:=o.o;omega);rw [fC HA.o (by rw [c,HP.o];omega)] at h2;have h3:=hR.frozen (k+i);have U:=hI.carry;have n:=hI.dgs.getD zf i;obtain⟨b,z⟩:∃b,Ld.getD i 0=b:=⟨_,rfl⟩;have B:=λw'=>me b t cc (by rw [<-z];exact T) ht U w';obtain⟨d,b',H,y,hx,hS⟩:=Vf (q.getD i 0) ((b*t+cc+0)%18446744073709551616) bb n (xG _ zf) hI.lack;have h:=za (hI.step (s:=Ld.getD i 0*t+cc+0) (d:=d) (b':=b') ht I.o (by rw [HP.o];omega) rfl H y (by rw [z];exact hx));have a:=hR.set_ (k+i) d (by have:=o.o;omega);rw [dZ HA.o (by rw [c,HP.o];omega)] at a;have E:=za a;have D:=za (λu=>hO.set_ (k+i) u);have R:=za (λu=>hD.setCell (p:=⟨g,k+i,none⟩) (qX _) u);rw [z] at h1 h;obtain⟨pv,j⟩:∃b,q.getD i 0=b:=⟨_,rfl⟩;rw [j] at h2 hS;obtain⟨s1,e1⟩:∃s1,(b*t+cc+0)%18446744073709551616=s1:=⟨_,rfl⟩;obtain⟨s2,e2⟩:∃s2,(b*t+cc+0) / 18446744073709551616=s2:=⟨_,rfl⟩;rw [e1,e2] at B;rw [e1] at hS;rw [e2] at h;have S:=za B;have v:=za hS;have i1:(0:Int)<=(i:Int):=zb;have i2:(i:Int)<(m:Int):=zb;have i3:(i:Int)<(m:Int)+1:=zb;have i4:i<m+1:=zb;clear B hS hx j e1 e2 z hI hR hO hD n a c;go_wp2_with (first|(go_at_call 127;(with_reducible refine(S.o _).mono ?_);rintro e w' ⟨rfl,rfl⟩)|(go_at_call 154;(with_reducible refine(v.o _).mono ?_);rintro e w' ⟨rfl,rfl⟩));go_roundg (m - i)
   case measure=>omega
   case rel=>exact⟨i+1,s2,b',_,zb,zb,by go_num,rfl,rfl,h.o,E.o,D.o _,R.o _⟩
  ·have O:i=m:=zb;subst O;have h2:=hR.cell (k+i) (by have:=o.o;omega);rw [fC HA.o (by rw [c,HP.o];omega)] at h2;have h3:=hR.frozen (k+i);have n:=hI.dgs.getD zf i;obtain⟨d,b',H,y,hx,hS⟩:=Vf (q.getD i 0) cc bb n hI.carry hI.lack;have h:=za (hI.last (d:=d) (b':=b') (by rw [HP.o]) (by rw [Q.o]) H y hx);have a:=hR.set_ (k+i) d (by have:=o.o;omega);rw [dZ HA.o (by rw [c,HP.o];omega)] at a;have E:=za a;have D:=za (hO.set_ (k+i) (.int .u64 (d:Int)));obtain⟨pv,j⟩:∃b,q.getD i 0=b:=⟨_,rfl⟩;rw [j] at h2 hS;have v:=za hS;have i1:(0:Int)<=(i:Int):=zb;have i3:(i:Int)<(i:Int)+1:=zb;have i4:i<i+1:=zb;clear hS hx j hI hR hO hD n a c;have G:∀F:Bool,F=(b'==1)->rj w ty g cap N i t A p C Ld (.returned (.bool F)) (wr.setCell ⟨g,k+i,none⟩ (.int .u64 (d:Int))):=λF K=>by
    obtain⟨g1,g2,g3⟩:=h.o;rw [HP.o] at g1 g3;exact⟨b',_,by rw [K],y,g1,g2,g3,E.o,D.o⟩
   have HG:=za G;clear G;rcases (show b'=0\/b'=1 by omega) with rfl|rfl
   ·go_wp2_with (go_at_call 154;(with_reducible refine(v.o _).mono ?_);rintro e w' ⟨rfl,rfl⟩);go_ret;exact HG.o _ rfl
   ·go_wp2_with (go_at_call 154;(with_reducible refine(v.o _).mono ?_);rintro e w' ⟨rfl,rfl⟩);go_ret;exact HG.o _ rfl
def sU (w:World)(ty:TypeId)(g cap N m:Nat)(A p C Ld:List Nat)(e:Ending)(w':World):Prop:=
 ∃(v:Value) (p':List Nat),e=.returned v/\p'.length=m+1/\zG 18446744073709551616 p'/\dv 18446744073709551616 p'=(dv 18446744073709551616 p+dv 18446744073709551616 Ld)%18446744073709551616^(m+1)/\zF w' ty g cap N (A++p'++C)/\yv g w w'
theorem TO (ty:TypeId)(g cap N k m c1 cd:Nat)(ad:Addr)(A p C Ld:List Nat)(w:World)(hR:zF w ty g cap N (A++p++C))(hA:A.length=k)(hp:p.length=m+1)(J:zG 18446744073709551616 p)
  (hD:zK w g 1 (some ad) m (zB .u64 Ld)) (F:zG 18446744073709551616 Ld) (hm2:m<=1099511627776) (hc1:m+1<=c1) (hc:c1<=9223372036854775807) (hcd:m<=cd) (hcd2:cd<=9223372036854775807):
  Calls prog 173 #[.slice (some ⟨g,k,none⟩) (m+1) c1,.slice (some ad) m cd] w (sU w ty g cap N m A p C Ld):=by
 have B:=hR.len;have H:=hD.len_;have HA:=za hA;have HP:=za hp;have n:=za (show k+(m+1)<=N by simp at B;omega);have K:=za H;have z:=za F;have HI:=za (mU.start Ld J);have HO:=yv.refl g w;clear hA hp B H F J;go_enter func173,ntmps173;go_wp2_with fail
 go_loopg [4,10] (m+1) (λgg cy ix wr=>∃(i cc:Nat) (q:List Nat),i<=m/\m<gg+i/\ix=.int .i64 i/\cy=.int .u64 cc/\mU p Ld i q cc/\zF wr ty g cap N (A++q++C)/\yv g w wr/\zK wr g 1 (some ad) m (zB .u64 Ld))
 case atStart=>exact⟨0,0,p,qW _,zb,rfl,rfl,HI.o,hR,HO,hD⟩
 case round=>
  clear hR HI HO hD;obtain⟨i,cc,q,him,hgg,rfl,rfl,hI,hR,hO,hD⟩:=hrel;have h:=hI.len;by_cases hlt:i<m
  ·obtain⟨ad',e,hadb,h1⟩:=se hD (k:=i) hlt;cases e;have D:=z.o.getD zf i;have h2:=hR.cell (k+i) (by have:=n.o;omega);rw [fC HA.o (by rw [h,HP.o];omega)] at h2;have h3:=hR.frozen (k+i);have y:=hI.carry;have d:=hI.dgs.getD zf i;have a:=hI.step (s:=q.getD i 0+Ld.getD i 0+cc) z.o (by rw [HP.o];omega) rfl;obtain⟨b,E⟩:∃b,Ld.getD i 0=b:=⟨_,rfl⟩;obtain⟨pv,j⟩:∃b,q.getD i 0=b:=⟨_,rfl⟩;rw [E] at h1 D a;rw [j] at h2 d a;have hS:=λw=>Zv pv b cc d D y w;have c:=hR.set_ (k+i) ((pv+b+cc)%18446744073709551616) (by have:=n.o;omega);rw [dZ HA.o (by rw [h,HP.o];omega)] at c;obtain⟨s1,e1⟩:∃s1,(pv+b+cc)%18446744073709551616=s1:=⟨_,rfl⟩;obtain⟨s2,e2⟩:∃s2,(pv+b+cc) / 18446744073709551616=s2:=⟨_,rfl⟩;rw [e1,e2] at hS a;rw [e1] at c;have a:=za a;have M:=za c;have o:=za (λu=>hO.set_ (k+i) u);have L:=za (λu=>hD.setCell (p:=⟨g,k+i,none⟩) (qX _) u);have t:=za hS;have i1:(0:Int)<=(i:Int):=zb;have i2:(i:Int)<(m:Int):=zb;have i3:(i:Int)<(m:Int)+1:=zb;have i4:i<m+1:=zb;clear hS j e1 e2 E hI hR hO hD d c h;go_wp2_with (go_at_call 153;(with_reducible refine(t.o _).mono ?_);rintro e w' ⟨rfl,rfl⟩);go_roundg (m - i)
   case measure=>omega
   case rel=>exact⟨i+1,s2,_,zb,zb,by go_num,rfl,a.o,M.o,o.o _,L.o _⟩
  ·have I:i=m:=zb;subst I;have h2:=hR.cell (k+i) (by have:=n.o;omega);rw [fC HA.o (by rw [h,HP.o];omega)] at h2;have h3:=hR.frozen (k+i);have y:=hI.carry;have d:=hI.dgs.getD zf i;have a:=hI.last (s:=q.getD i 0+0+cc) (by rw [HP.o]) (by rw [K.o]) rfl;obtain⟨pv,j⟩:∃b,q.getD i 0=b:=⟨_,rfl⟩;rw [j] at h2 d a;have hS:∀w,Calls prog 153 #[.int .u64 pv,.int .u64 0,.int .u64 cc] w λe w'=>e=.returned (.tuple #[.int .u64 (((pv+0+cc)%18446744073709551616:Nat):Int),.int .u64 (((pv+0+cc) / 18446744073709551616:Nat):Int)])/\w=w':=λw=>Zv pv 0 cc d zf y w;have c:=hR.set_ (k+i) ((pv+0+cc)%18446744073709551616) (by have:=n.o;omega);rw [dZ HA.o (by rw [h,HP.o];omega)] at c;obtain⟨s1,e1⟩:∃s1,(pv+0+cc)%18446744073709551616=s1:=⟨_,rfl⟩;obtain⟨s2,e2⟩:∃s2,(pv+0+cc) / 18446744073709551616=s2:=⟨_,rfl⟩;rw [e1] at a c;rw [e1,e2] at hS;have t:=za hS;have o:=za (hO.set_ (k+i) (.int .u64 (s1:Int)));have i1:(0:Int)<=(i:Int):=zb;have i3:(i:Int)<(i:Int)+1:=zb;have i4:i<i+1:=zb;have G:∀v:Value,sU w ty g cap N i A p C Ld (.returned v) (wr.setCell ⟨g,k+i,none⟩ (.int .u64 (s1:Int))):=λv=>by
    obtain⟨g1,g2,g3⟩:=a;rw [HP.o] at g1 g3;exact⟨v,_,rfl,g1,g2,g3,c,o.o⟩
   have HG:=za G;clear G hS j hI hR hO hD d c h e1 e2 a;go_wp2_with (go_at_call 153;(with_reducible refine(t.o _).mono ?_);rintro e w' ⟨rfl,rfl⟩)
   go_end0
   exact HG.o _
def o6 (w:World)(ty:TypeId)(g cap N m:Nat)(A p C Ld:List Nat)(e:Ending)(w':World):Prop:=
 ∃p':List Nat,e=.returned (.int .u64 ((dv 18446744073709551616 p / dv 18446744073709551616 Ld:Nat):Int))/\p'.length=m+1/\zG 18446744073709551616 p'/\dv 18446744073709551616 p'=dv 18446744073709551616 p%dv 18446744073709551616 Ld/\zF w' ty g cap N (A++p'++C)/\yv g w w'
theorem TQ (ty:TypeId)(g cap N k m c1 cd:Nat)(ad:Addr)(A p C Ld:List Nat)(w:World)(hR:zF w ty g cap N (A++p++C))(hA:A.length=k)(hp:p.length=m+1)(u:zG 18446744073709551616 p)
  (hD:zK w g 1 (some ad) m (zB .u64 Ld)) (c:zG 18446744073709551616 Ld) (hm:2<=m) (J:m<=1099511627776) (H:m+1<=c1) (hc:c1<=9223372036854775807) (I:m<=cd) (i:cd<=9223372036854775807)
  (L:18446744073709551616<=2*Ld.getD (m - 1) 0) (ab:dv 18446744073709551616 p<18446744073709551616*dv 18446744073709551616 Ld):
  Calls prog 165 #[.slice (some ⟨g,k,none⟩) (m+1) c1,.slice (some ad) m cd] w (o6 w ty g cap N m A p C Ld):=by
 have V:=hR.len;have O:=hD.len_;have hg:=hR.lt;have av:k+(m+1)<=N:=by simp at V;omega
 obtain⟨j,rfl⟩:∃j,m=j+2:=⟨m - 2,zb⟩;have T:=kP (m:=j) u c hp O L ab;have z:=hR.cell (k+(j+2)) zb;have B:=hR.cell (k+(j+1)) zb;rw [fC hA zb] at z B;obtain⟨ao,e,aa,d1⟩:=se hD (k:=j+1) zb;cases e;obtain⟨ao,e,_,d2⟩:=se hD (k:=j) zb;cases e;have b1:=u.getD zf (j+2);have b2:=u.getD zf (j+1);have b3:=c.getD zf (j+1);have b4:=c.getD zf j;have GL:=r9 T rfl b2;have HG:Calls prog 171 #[.slice (some ⟨g,k,none⟩) (j+2+1) c1,.slice (some ad) (j+2) cd] w (re w (sG (p.getD (j+2) 0) (p.getD (j+1) 0) (Ld.getD (j+1) 0) (Ld.getD j 0))):=by
  by_cases hc:p.getD (j+2) 0<Ld.getD (j+1) 0
  ·exact r8 g k (j+2) c1 cd ad _ _ _ _ w zb J H ‹_› I i z B d1 d2 b1 b2 b3 b4 hc
  ·exact r6 g k (j+2) c1 cd ad _ _ _ _ w zb J H ‹_› I i z B d1 d2 b1 b2 b3 b4 hc
 obtain⟨t,ag⟩:∃t,sG (p.getD (j+2) 0) (p.getD (j+1) 0) (Ld.getD (j+1) 0) (Ld.getD j 0)=t:=⟨_,rfl⟩;rw [ag] at HG GL;obtain⟨lo,up,tb⟩:=GL;have hS:=λn=>Tl ty g cap N k (j+2) c1 cd t ad A p C Ld (w.drewN n) hR hA hp u hD c J H ‹_› I i tb;have R:=vp u;rw [hp] at R;have K:=vp c;rw [O] at K;have aj:=za HG;have an:=za hS;have M:=T.Dpos;have ap:=za (λw' q (aw:zF w' ty g cap N (A++q++C)) (hq:q.length=j+2+1) (d:zG 18446744073709551616 q) (ar:zK w' g 1 (some ad) (j+2) (zB .u64 Ld))=>TO ty g cap N k (j+2) c1 cd ad A q C Ld w' aw hA hq d ar c J H ‹_› I i);have HR:=za (λX b'=>S7 (P:=dv 18446744073709551616 p) (D:=dv 18446744073709551616 Ld) (t:=t) (X:=X) (E:=18446744073709551616^(j+2+1)) (b':=b'));have HV:=za (λX b'=>Qm (P:=dv 18446744073709551616 p) (D:=dv 18446744073709551616 Ld) (t:=t) (X:=X) (E:=18446744073709551616^(j+2+1)) (b':=b'));have al:=za (xG (dv 18446744073709551616 p) M);have U:dv 18446744073709551616 Ld<=18446744073709551616^(j+2+1):=by
  have:18446744073709551616^(j+2)<=18446744073709551616^(j+2+1):=qR zf zb;omega
 have ah:=za U;have am:=za R;have au:=za (λn=>(yv.refl g w).drewN n);have ai:=za (λw' (h:yv g w w')=>h.reads hD (qG hg));have S:=za M;obtain⟨Q,hQ⟩:∃Q,dv 18446744073709551616 p / dv 18446744073709551616 Ld=Q:=⟨_,rfl⟩;have HQ:=za hQ;have ak:=za (show t=Q\/t=Q+1 by rw [hQ] at lo up;omega);clear HG hS hR hD u c T z B d1 d2 b1 b2 b3 b4 L ab hp hA ag aa M U R K hQ lo up O V av;go_enter func165,ntmps165;go_wp2_with fail;refine aj.o.mono ?_;rintro e w1 ⟨rfl,n,rfl⟩;go_wp2_with fail;refine(an.o n).mono ?_;rintro e w2 ⟨b,q,rfl,hb,y,d,o,F,a⟩;have a:=(au.o n).trans a;have s:=vp d;rw [y] at s;rcases ak.o with ht|ht
 ·obtain⟨rfl,hX⟩:=HR.out _ _ (by rw [HQ.o];exact ht) S.o s o hb;have G:zd (o6 w ty g cap N (j+2) A p C Ld (.returned (.int .u64 (t:Int))) w2):=⟨q,by rw [HQ.o,ht],y,d,hX,F,a⟩;clear F a hX s d o y ht hb;go_wp2;go_ret;exact G.o
 ·obtain⟨rfl,hX⟩:=HV.out _ _ (by rw [HQ.o];exact ht) S.o am.o s o hb;have aq:=za (SW hX al.o s ah.o);have HB:=za (ap.o w2 q F y d (ai.o _ a));have HT:=za ht;have t2:0<t:=zb;have t3:IntKind.u64.wrap ((t:Int) - 1)=(t:Int) - 1:=by rw [xY];omega
  clear F hX s d o y ht hb;go_wp2_with fail;refine HB.o.mono ?_;rintro e w3 ⟨v,r,rfl,ae,ac,af,Z,Y⟩;have G:zd (o6 w ty g cap N (j+2) A p C Ld (.returned (.int .u64 ((t:Int) - 1))) w3):=⟨r,by rw [HQ.o,HT.o];simp,ae,ac,by rw [af];exact aq.o,Z,a.trans Y⟩;clear Z Y a ae ac af;go_wp2;go_ret;exact G.o
def jN (w:World)(ty:TypeId)(N X:Nat)(e:Ending)(w':World):Prop:=
 ∃(g:Nat) (L:List Nat),e=.returned (.slice (some ⟨g,0,none⟩) N N)/\w.heap.size<=g/\zF w' ty g N N L/\zG 18446744073709551616 L/\dv 18446744073709551616 L=X/\Below w.heap.size w w'
theorem ke (b:Nat)(l:List Nat)(n:Nat):dv b (l++List.replicate n 0)=dv b l:=by rw [tF,jR,yC,XD]
theorem Y6 (x up N:Nat)(A:ze)(n c:Nat)(w:World)(hA:zp w x A n c)(hn:n<=274877906944)(R:up<=63)(hN:(dg 18446744073709551616 (2^up*x)).length<=N)(hN2:N<=549755813888):
  Calls prog 164 #[.agg #[.slice A n c],.int .i64 up,.int .i64 N] w (jN w 133 N (2^up*x)):=by
 obtain⟨i0,I,S,J,T⟩:=info_parts oS;have HS:=zj w (λw' hb=>UJ x up A n c w' (hA.below hb) zb zb);obtain⟨y,hy⟩:∃y,2^up*x=y:=⟨_,rfl⟩;rw [hy] at HS hN⊢;have HW:=za (λw' A' n' c' (h:zp w' y A' n' c') (hb:n'<=1099511627776)=>ja y A' n' c' w' h hb);have HN:=za hN;obtain⟨Z,hZ⟩:∃Z,madeCells (Value.cells (.int .u64 0)) N=Z:=⟨_,rfl⟩;have F:zd (Z=(zB .u64 (List.replicate N 0)).toArray):=by
  show _=_;have h:Z.toList=zB .u64 (List.replicate N 0):=by
   rw [<-hZ];exact(toList_madeCells_one _ _).trans (by simp [zB])
  rw [<-h]
 have P:∀W:World,(Instr.makeSlice 46 (.int .i64 (N:Int)) (.int .i64 (N:Int))).run prog W=.ok (.slice (some ⟨W.heap.size,0,none⟩) N N) (W.alloc (.cells Z 133)):=λW=>by
  have h:=sx _ _ i0 _ underlying46 I S .i64 .i64 N N (qX _) (by rw [T];omega) zb W;rw [J,xV,hZ] at h;exact h
 clear hZ hA hN hy R;go_enter func164,ntmps164;go_wp2_with fail;generalize hW:w.alloc (.cells #[.slice A n c] 48)=W0;obtain⟨b1,b2,b5⟩:=zu w 48 #[.slice A n c];rw [hW] at b1 b2 b5;clear hW b2;refine(HS.o _ b1).mono ?_;rintro e w1 ⟨A1,n1,c1,rfl,k,hb,M⟩;have hB:=zc b1 hb;clear hb b1 b5;obtain⟨d1,d2,d5⟩:=zu w1 48 #[.slice A1 n1 c1];have d0:=hB.size;have hB:=zc hB d1;have k:=k.below d1;have g1:(w1.alloc (.cells #[.slice A1 n1 c1] 48)).cell? ⟨w1.heap.size,0,none⟩=some (.slice A1 n1 c1):=d2.cell 0;clear d1 d2 d5 M;go_wp2_with fail;have B:=k.below ((qZ _ (w1.alloc (.cells #[.slice A1 n1 c1] 48))).alloc (qX _) (.cells Z 133));have hz:=zh.new (w1.alloc (.cells #[.slice A1 n1 c1] 48)) 133 Z;have hB:=xn (.cells Z 133) hB;have i:w.heap.size<=(w1.alloc (.cells #[.slice A1 n1 c1] 48)).heap.size:=by have:=hB.size;simp at this⊢;have:=d0;omega
 rw [show(w1.alloc (.cells #[.slice A1 n1 c1] 48)).heap.size=w1.heap.size+1 from by simp] at hz i;obtain⟨gs,H⟩:∃g,w1.heap.size+1=g:=⟨_,rfl⟩;rw [H] at hz i⊢;generalize (w1.alloc (.cells #[.slice A1 n1 c1] 48)).alloc (.cells Z 133)=W2 at*;clear H k g1 P;have z:=B.len;have Q:n1<=N:=by have:=HN.o;omega
 refine(HW.o _ A1 n1 c1 B zb).mono ?_;rintro e w3 ⟨A2,c2,rfl,a,_,⟨_,O⟩,hb⟩;have hB:=zc hB hb;have hz:=zg hb hz;rw [F.o] at hz;rw [z] at a;rw [z];have t:=a.len_;have s:=uV (b:=18446744073709551616) zf y;have u:=uk (b:=18446744073709551616) zf y;obtain⟨D,hD⟩:∃D,dg 18446744073709551616 y=D:=⟨_,rfl⟩;rw [hD] at a t s u;have m:0<(zB .u64 D).length->∃ad,A2=some ad/\∀j v,(zB .u64 D)[j]?=some v->w3.cell? (ad.add j)=some v:=λh=>by
  rw [wS] at h;obtain⟨ad,e,_,hc⟩:=a.2 zb;exact⟨ad,e,hc⟩
 have C:=za m;have E:zd (∀w4,zd (w4.heap[gs]?=some (.cells (splice (zB .u64 (List.replicate N 0)) 0 (zB .u64 D)).toArray 133 (0,0)))->Below w.heap.size w w4->jN w 133 N y (.returned (.slice (some ⟨gs,0,none⟩) N N)) w4):=λw4 h4 d=>by
  have e:splice (zB .u64 (List.replicate N 0)) 0 (zB .u64 D)=zB .u64 (D++List.replicate (N - n1) 0):=by
   unfold splice;rw [List.take_zero,XC,xB,wS,Qp,t,List.drop_replicate,<-fS]
  rw [e] at h4;refine⟨gs,D++List.replicate (N - n1) 0,rfl,i,⟨_,h4.o,qX _,by unfold maxLen;omega,by simp [wS];omega,by simp;omega,?_⟩,s.append (zG.zeros zf _),by rw [ke,u],d⟩;show(zB .u64 (D++List.replicate (N - n1) 0)).take N=_;rw [qV (by rw [wS];simp;omega)]
 have L:=za hz;have K:=za hB;clear hz hB m s u hD a O hb z B F;have hu:=underlying46;go_wp2_with ((with_reducible show wpList _ _ _ _ _ _);refine wpList_copy_splice (o:=⟨some 21,_,_,_,_,_⟩) rfl (.tmp 18) (.tmp 20) 46 46 rfl 133 hu (by rw [I];simp [J]) (some ⟨gs,0,none⟩) A2 N N n1 c2 rfl rfl gs 0 (zB .u64 (List.replicate N 0)) 133 L.o (zB .u64 D) (by rw [wS,t];exact(xU Q).symm) (λh=>⟨rfl,C.o h⟩) (by rw [wS,wS];simp;omega) (dI _ _) w.heap.size w K.o i ?_;intro w4 h4 d);have G:=za (E.o w4 h4 d);clear h4 d;go_wp2;go_ret;exact G.o
theorem mh {d m:Nat}(hd:(dg 18446744073709551616 d).length=m+1):∃up:Nat,(64 - te ((wd d m:Nat):Int)=(up:Int))/\up<=63/\2^up*d<18446744073709551616^(m+1)/\18446744073709551616<=2*(2^up*d / 18446744073709551616^m):=by
 obtain⟨h1,h2,_⟩:=Xd hd;have h3:=wJ d m;obtain⟨up,e,hu,c,g⟩:=VV ((wd d m:Nat):Int) zb zb;refine⟨up,e,hu,?_,?_⟩
 ·obtain⟨t,ht⟩:∃t,wd d m=t:=⟨_,rfl⟩;rw [ht] at h1 g;have h4:t*2^up<2^(64 - up)*2^up:=by
   rw [<-xI,show 64 - up+up=64 from by omega];have:((t*2^up:Nat):Int)<((2^64:Nat):Int):=by
    rw [QI,yH];exact g
   omega
  have h5:t+1<=2^(64 - up):=yG h4;have h6:d<(t+1)*18446744073709551616^m:=by
   have:=Nat.lt_div_mul_add (a:=d) (b:=18446744073709551616^m) (yX zf);rw [<-h1] at this;rw [QE,yY];exact this
  have h7:d<2^(64 - up)*18446744073709551616^m:=qJ h6 (qS _ h5);have h8:2^up*d<2^up*(2^(64 - up)*18446744073709551616^m):=(Nat.mul_lt_mul_left (xS up)).2 h7;rw [<-qD,<-xI,show up+(64 - up)=64 from by omega] at h8;rw [Nat.pow_succ'];exact h8
 ·rw [h1] at c;obtain⟨t,ht⟩:∃t,d / 18446744073709551616^m=t:=⟨_,rfl⟩;rw [ht] at c;have h4:t*2^up<=2^up*d / 18446744073709551616^m:=by
   refine(Nat.le_div_iff_mul_le (yX zf)).2 ?_;rw [QQ t,qD,<-ht];exact QM _ (Nat.div_mul_le_self _ _)
  have h5:((9223372036854775808:Nat):Int)<=((t*2^up:Nat):Int):=by
   rw [QI,yH];exact c
  omega
theorem qu {x up:Nat}(hx:(dg 18446744073709551616 x).length=n)(hu:up<=63):(dg 18446744073709551616 (2^up*x)).length<=n+1:=by
 have h:=wh (b:=18446744073709551616) zf x;rw [hx] at h;refine mQ zf _ _ ?_;rw [Nat.pow_succ'];exact YH (QN (qR zf hu) zf) h
theorem Rk {x d n m k up:Nat}(hx:(dg 18446744073709551616 x).length=n)(hd:(dg 18446744073709551616 d).length=m+1)(hk:m+k=n):2^up*x / 18446744073709551616^k<2^up*d:=by
 refine(QA (yX zf)).2 ?_;have h:=wh (b:=18446744073709551616) zf x;rw [hx,<-hk,xI] at h;have h0:d≠0:=λe=>by rw [e,lK] at hd;simp at hd
 have h2:=(tu (b:=18446744073709551616) zf d h0).2;rw [hd,Nat.add_sub_cancel] at h2;rw [qD];refine(Nat.mul_lt_mul_left (xS up)).2 ?_;exact qJ h (qS _ h2)
theorem qv {m:Nat}{L:List Nat}(hl:L.length=m+1)(hd:zG 18446744073709551616 L)(hv:dv 18446744073709551616 L=D)(h:18446744073709551616<=2*(D / 18446744073709551616^m)):18446744073709551616<=2*L.getD m 0:=by
 rw [jl zf hd,hv];have h1:=vp hd;rw [hl,hv,QK] at h1;have h2:D / 18446744073709551616^m<18446744073709551616:=(QA (yX zf)).2 (by rw [QQ];exact h1);rw [qO h2];exact h
theorem Q8 (x d up:Nat):2^up*x / (2^up*d)=x / d/\2^up*x%(2^up*d) / 2^up=x%d:=by
 refine⟨Nat.mul_div_mul_left _ _ (xS up),?_⟩;rw [Nat.mul_mod_mul_left,XS _ (xS up)]
