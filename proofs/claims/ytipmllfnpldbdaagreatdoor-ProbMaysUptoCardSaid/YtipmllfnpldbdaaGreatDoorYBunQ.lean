/- What this claim leans on. -/
import Derived.Test.YtipmllfnpldbdaaGreatDoorYBunO
import Derived.Test.YtipmllfnpldbdaaGreatDoorYBunS
import Derived.Laws.CopyOwn
import Derived.RangeFuncBox
set_option linter.unusedVariables false
set_option linter.unusedSimpArgs false
namespace Go.Proofs.YtipmllfnpldbdaaGreatDoor
open Go Go.RowKit Go.Proofs.Tryz
set_option maxHeartbeats 16000000
set_option maxRecDepth 100000
variable {A C p:List Nat}{D j u1:Nat}
def wl (u2 u1 h:Nat):Nat:=if u2<h then(u2*18446744073709551616+u1) / h else 18446744073709551615
def s6 (u2 u1 h:Nat):Nat:=if u2<h then(u2*18446744073709551616+u1)%h else u1+h
def uB (u2 u1 h v:Nat):Nat:=if s6 u2 u1 h<wl u2 u1 h*v / 18446744073709551616/\s6 u2 u1 h<18446744073709551616 then wl u2 u1 h - 1 else wl u2 u1 h
theorem dO {u2 h:Nat}(hu:u1<18446744073709551616):wl u2 u1 h<18446744073709551616:=by
 unfold wl
 split
 ·rename_i hc
  refine(QU za).2 ?_;have:(u2+1)*18446744073709551616<=h*18446744073709551616:=QK _ hc;rw [qE _ h];omega
 ·decide
theorem tI {P U h v M u2:Nat}(H:wJ P D U h v M)(hU:U=u2*18446744073709551616+u1)(hu:u1<18446744073709551616):P / D<=uB u2 u1 h v/\uB u2 u1 h v<=P / D+1/\uB u2 u1 h v<18446744073709551616:=by
 have hh:=H.hh;have ht:=H.top;have hq:=H.q.2.2;have tb:=dO (u2:=u2) (h:=h) hu;have e:wl u2 u1 h*h+s6 u2 u1 h=U:=by
  unfold wl s6
  split
  ·rw [hU,qE _ h,XJ]
  ·obtain rfl:u2=h:=by rw [hU] at ht;omega
   rw [hU];omega
 have lo:P / D<=wl u2 u1 h:=by
  unfold wl
  split
  ·rw [<-hU];exact(Nat.le_div_iff_mul_le za).2 H.le
  ·omega
 have up:wl u2 u1 h<=P / D+2:=H.two za tb;obtain⟨t,d⟩:∃t,wl u2 u1 h=t:=⟨_,rfl⟩;obtain⟨r,a⟩:∃r,s6 u2 u1 h=r:=⟨_,rfl⟩;unfold uB;rw [d] at lo up tb e;rw [a] at e;rw [d,a];obtain⟨q,g⟩:∃q,P / D=q:=⟨_,rfl⟩;have vb:=H.vb;have h2:t*v / 18446744073709551616<18446744073709551616:=by
  refine(QU zh).2 ?_;exact QA (Nat.mul_le_mul (show t<=18446744073709551615 by omega) (show v<=18446744073709551615 by omega)) zh
 have d1:=H.dec (t:=t) (r:=r) e;have d2:=H.one (t:=t) (r:=r) e tb;rw [g] at lo up hq d1 d2⊢;obtain⟨x,hx⟩:∃x,t*v / 18446744073709551616=x:=⟨_,rfl⟩;rw [hx] at h2
 split
 ·rename_i hc
  rw [hx] at hc;have h1:=d1 ((Nat.le_div_iff_mul_le zh).1 (by rw [hx];omega));clear d1 d2;omega
 ·rename_i hc
  rw [hx] at hc;have h1:=d2 ((QU zh).1 (by rw [hx];omega));clear d1 d2;omega
theorem Zg (x y:Nat)(hx:x<18446744073709551616)(hy:y<18446744073709551616)(w:World):
  Calls prog 162 #[.int .u64 x,.int .u64 y] w λe w'=>e=.returned (.tuple #[.int .u64 ((x*y / 18446744073709551616:Nat):Int),.int .u64 ((x*y%18446744073709551616:Nat):Int)])/\w=w':=by
 have h:=sW x y ⟨za,za⟩ ⟨za,za⟩ w;rw [show uh (x:Int) (y:Int)=((x*y / 18446744073709551616:Nat):Int) from by unfold uh;simp,show wi (x:Int) (y:Int)=((x*y%18446744073709551616:Nat):Int) from by unfold wi;simp] at h;exact h
theorem aW (hi lo y:Nat)(h1:hi<y)(hy:y<18446744073709551616)(hl:lo<18446744073709551616)(w:World):
  Calls prog 150 #[.int .u64 hi,.int .u64 lo,.int .u64 y] w λe w'=>e=.returned (.tuple #[.int .u64 (((hi*18446744073709551616+lo) / y:Nat):Int),.int .u64 (((hi*18446744073709551616+lo)%y:Nat):Int),.bool true])/\∃n,w'=w.drewN n:=by
 have h:=Y3 hi lo y ⟨za,za⟩ za za ⟨za,za⟩ w;rw [show xF (hi:Int) (lo:Int) (y:Int)=(((hi*18446744073709551616+lo) / y:Nat):Int) from by unfold xF;simp,show x4 (hi:Int) (lo:Int) (y:Int)=(((hi*18446744073709551616+lo)%y:Nat):Int) from by unfold x4;simp] at h;exact h
theorem gI (x y c:Nat)(hx:x<18446744073709551616)(hy:y<18446744073709551616)(hc:c<=1)(w:World):
  Calls prog 133 #[.int .u64 x,.int .u64 y,.int .u64 c] w λe w'=>e=.returned (.tuple #[.int .u64 (((x+y+c)%18446744073709551616:Nat):Int),.int .u64 (((x+y+c) / 18446744073709551616:Nat):Int)])/\w=w':=by
 have h:=bK x y c ⟨za,za⟩ ⟨za,za⟩ ⟨za,za⟩ w;rw [dC hc,dB hc] at h;exact h
def uU (w:World)(t:Nat)(e:Ending)(w':World):Prop:=e=.returned (.int .u64 (t:Int))/\∃n,w'=w.drewN n
theorem tH (g k m c1 cd:Nat)(ad:Addr)(u2 u1 h v:Nat)(w:World)(hm:2<=m)(hm2:m<=1099511627776)(hc1:m+1<=c1)(hc:c1<=9223372036854775807)(hcd:m<=cd)(x:cd<=9223372036854775807)
  (u:w.cell? ⟨g,k+m,none⟩=some (.int .u64 (u2:Int))) (j:w.cell? ⟨g,k+(m - 1),none⟩=some (.int .u64 (u1:Int))) (hH:w.cell? (ad.add (m - 1))=some (.int .u64 (h:Int))) (hV:w.cell? (ad.add (m - 2))=some (.int .u64 (v:Int)))
  (u2b:u2<18446744073709551616) (D:u1<18446744073709551616) (hb:h<18446744073709551616) (vb:v<18446744073709551616) (d:u2<h):
  Calls prog 158 #[.slice (some ⟨g,k,none⟩) (m+1) c1,.slice (some ad) m cd] w (uU w (uB u2 u1 h v)):=by
 have et:wl u2 u1 h=(u2*18446744073709551616+u1) / h:=if_pos d;have er:s6 u2 u1 h=(u2*18446744073709551616+u1)%h:=if_pos d;have rb:(u2*18446744073709551616+u1)%h<18446744073709551616:=Nat.lt_trans (QI _ za) hb;have tb:=dO (u2:=u2) (h:=h) D;have HD:=λw=>aW u2 u1 h d hb D w;have HM:=λw=>Zg (wl u2 u1 h) v tb vb w;have HN:uB u2 u1 h v=if s6 u2 u1 h<wl u2 u1 h*v / 18446744073709551616/\s6 u2 u1 h<18446744073709551616 then wl u2 u1 h - 1 else wl u2 u1 h:=rfl
 rw [et,er] at HN;rw [et] at HM tb;clear et er;obtain⟨t,ht⟩:∃t,(u2*18446744073709551616+u1) / h=t:=⟨_,rfl⟩;obtain⟨r,hr⟩:∃r,(u2*18446744073709551616+u1)%h=r:=⟨_,rfl⟩;rw [ht,hr] at HD HN;rw [hr] at rb;rw [ht] at HM tb;obtain⟨nd,i⟩:∃nd,t*v / 18446744073709551616=nd:=⟨_,rfl⟩;obtain⟨nl,A⟩:∃nl,t*v%18446744073709551616=nl:=⟨_,rfl⟩;rw [i,A] at HM;rw [i] at HN;have hnt:nd<=t:=by
  rw [<-i];refine qC (Nat.div_le_div_right (QG t (yY vb))) ?_;rw [Nat.mul_div_cancel _ zh];exact qX _
 have B:=zd HD;have C:=zd HM;obtain⟨GN,z⟩:∃GN,uB u2 u1 h v=GN:=⟨_,rfl⟩;rw [z] at HN⊢;have hJ:IntKind.i64.wrap ((m:Int) - 1)=(m:Int) - 1/\IntKind.i64.wrap ((m:Int) - 2)=(m:Int) - 2:=⟨QD _ za,QD _ za⟩;have hK:((m:Int) - 1).toNat=m - 1/\((m:Int) - 2).toNat=m - 2:=⟨za,za⟩;have hL:(0:Int)<=(m:Int) - 1/\(m:Int) - 1<(m:Int)/\(0:Int)<=(m:Int) - 2/\(m:Int) - 2<(m:Int)/\(m:Int)<(m:Int)+1/\(m:Int) - 1<(m:Int)+1:=za;obtain⟨l1,l2,l3,l4,l5,l6⟩:=hL;by_cases hc:r<nd
 ·rw [if_pos ⟨hc,rb⟩] at HN;have HG:=zd HN;have t1:decide ((r:Int)<(nd:Int))=true:=by simpa using hc
  have t2:0<t:=za;have t3:IntKind.u64.wrap ((t:Int) - 1)=(t:Int) - 1:=by rw [QL];omega
  clear HD HM HN ht hr i A z rb d x;obtain⟨j1,j2⟩:=hJ;obtain⟨j3,j4⟩:=hK;go_enter func158,ntmps158;go_wp2
  go_quiet (fail)
  obtain⟨w1,a⟩:∃w1,w.drewN nq=w1:=⟨_,rfl⟩;have y:=zd a;have u:w1.cell? ⟨g,k+m,none⟩=some (.int .u64 (u2:Int)):=by rw [<-a];exact u
  have j:w1.cell? ⟨g,k+(m - 1),none⟩=some (.int .u64 (u1:Int)):=by rw [<-a];exact j
  rw [a];clear a;go_wp2
  go_quiet ((go_at_call 150;exact Calls.quiet_of (B.o _)))
  go_wp2_with (go_at_call 162;(with_reducible refine(C.o _).mono ?_);rintro e w' ⟨rfl,rfl⟩);go_ret;refine⟨by rw [HG.o];show Ending.returned (.int .u64 ((t:Int) - 1))=_;rw [Int.ofNat_sub za];rfl,?_⟩;rw [<-y.o,World.drewN_drewN];exact⟨_,rfl⟩
 ·rw [if_neg (λh=>hc h.1)] at HN;have HG:=zd HN;have t1:decide ((r:Int)<(nd:Int))=false:=by simpa using hc
  clear HD HM HN ht hr i A z rb d x;obtain⟨j1,j2⟩:=hJ;obtain⟨j3,j4⟩:=hK;go_enter func158,ntmps158;go_wp2
  go_quiet (fail)
  obtain⟨w1,a⟩:∃w1,w.drewN nq=w1:=⟨_,rfl⟩;have y:=zd a;have u:w1.cell? ⟨g,k+m,none⟩=some (.int .u64 (u2:Int)):=by rw [<-a];exact u
  have j:w1.cell? ⟨g,k+(m - 1),none⟩=some (.int .u64 (u1:Int)):=by rw [<-a];exact j
  rw [a];clear a;go_wp2
  go_quiet ((go_at_call 150;exact Calls.quiet_of (B.o _)))
  go_wp2_with (go_at_call 162;(with_reducible refine(C.o _).mono ?_);rintro e w' ⟨rfl,rfl⟩);go_ret;refine⟨by rw [HG.o];rfl,?_⟩;rw [<-y.o,World.drewN_drewN];exact⟨_,rfl⟩
theorem tG (g k m c1 cd:Nat)(ad:Addr)(u2 u1 h v:Nat)(w:World)(hm:2<=m)(hm2:m<=1099511627776)(hc1:m+1<=c1)(hc:c1<=9223372036854775807)(hcd:m<=cd)(u:cd<=9223372036854775807)
  (i:w.cell? ⟨g,k+m,none⟩=some (.int .u64 (u2:Int))) (d:w.cell? ⟨g,k+(m - 1),none⟩=some (.int .u64 (u1:Int))) (hH:w.cell? (ad.add (m - 1))=some (.int .u64 (h:Int))) (hV:w.cell? (ad.add (m - 2))=some (.int .u64 (v:Int)))
  (u2b:u2<18446744073709551616) (E:u1<18446744073709551616) (hb:h<18446744073709551616) (vb:v<18446744073709551616) (x:¬ u2<h):
  Calls prog 158 #[.slice (some ⟨g,k,none⟩) (m+1) c1,.slice (some ad) m cd] w (uU w (uB u2 u1 h v)):=by
 have et:wl u2 u1 h=18446744073709551615:=if_neg x;have er:s6 u2 u1 h=u1+h:=if_neg x;have HD:=λw=>Xj u2 u1 h za w;have HM:∀w,Calls prog 162 #[.int .u64 18446744073709551615,.int .u64 v] w λe w'=>e=.returned (.tuple #[.int .u64 ((18446744073709551615*v / 18446744073709551616:Nat):Int),.int .u64 ((18446744073709551615*v%18446744073709551616:Nat):Int)])/\w=w':=λw=>Zg 18446744073709551615 v zh vb w;have HA:∀w,Calls prog 133 #[.int .u64 u1,.int .u64 h,.int .u64 0] w λe w'=>e=.returned (.tuple #[.int .u64 (((u1+h+0)%18446744073709551616:Nat):Int),.int .u64 (((u1+h+0) / 18446744073709551616:Nat):Int)])/\w=w':=λw=>gI u1 h 0 E hb zh w;have HN:uB u2 u1 h v=if s6 u2 u1 h<wl u2 u1 h*v / 18446744073709551616/\s6 u2 u1 h<18446744073709551616 then wl u2 u1 h - 1 else wl u2 u1 h:=rfl
 rw [et,er] at HN;clear et er;obtain⟨nd,y⟩:∃nd,18446744073709551615*v / 18446744073709551616=nd:=⟨_,rfl⟩;obtain⟨nl,B⟩:∃nl,18446744073709551615*v%18446744073709551616=nl:=⟨_,rfl⟩;rw [y,B] at HM;rw [y] at HN;have C:=zd HD;have D:=zd HM;obtain⟨GN,A⟩:∃GN,uB u2 u1 h v=GN:=⟨_,rfl⟩;rw [A] at HN⊢;have hJ:IntKind.i64.wrap ((m:Int) - 1)=(m:Int) - 1/\IntKind.i64.wrap ((m:Int) - 2)=(m:Int) - 2:=⟨QD _ za,QD _ za⟩;have hK:((m:Int) - 1).toNat=m - 1/\((m:Int) - 2).toNat=m - 2:=⟨za,za⟩;have hL:(0:Int)<=(m:Int) - 1/\(m:Int) - 1<(m:Int)/\(0:Int)<=(m:Int) - 2/\(m:Int) - 2<(m:Int)/\(m:Int)<(m:Int)+1/\(m:Int) - 1<(m:Int)+1:=za;obtain⟨l1,l2,l3,l4,l5,l6⟩:=hL;by_cases hr:u1+h<18446744073709551616
 ·rw [show(u1+h+0)%18446744073709551616=u1+h from by omega,show(u1+h+0) / 18446744073709551616=0 from by omega] at HA;obtain⟨r,j⟩:∃r,u1+h=r:=⟨_,rfl⟩;rw [j] at HA HN hr;have z:=zd HA;by_cases hc:r<nd
  ·rw [if_pos ⟨hc,hr⟩] at HN;have HG:=zd HN;have t1:decide ((r:Int)<(nd:Int))=true:=by simpa using hc
   clear j hr;clear HD HM HN HA y B A x u;obtain⟨j1,j2⟩:=hJ;obtain⟨j3,j4⟩:=hK;go_enter func158,ntmps158;go_wp2
   go_quiet (fail)
   obtain⟨w1,a⟩:∃w1,w.drewN nq=w1:=⟨_,rfl⟩;have t:=zd a;have i:w1.cell? ⟨g,k+m,none⟩=some (.int .u64 (u2:Int)):=by rw [<-a];exact i
   have d:w1.cell? ⟨g,k+(m - 1),none⟩=some (.int .u64 (u1:Int)):=by rw [<-a];exact d
   rw [a];clear a;go_wp2
   go_quiet ((go_at_call 150;exact mD (C.o _)))
   have d:(w1.drewN nq).cell? ⟨g,k+(m - 1),none⟩=some (.int .u64 (u1:Int)):=d;go_wp2_with (first|(go_at_call 162;(with_reducible refine(D.o _).mono ?_);rintro e w' ⟨rfl,rfl⟩)|(go_at_call 133;(with_reducible refine(z.o _).mono ?_);rintro e w' ⟨rfl,rfl⟩));go_ret;refine⟨by rw [HG.o];rfl,?_⟩;rw [<-t.o,World.drewN_drewN];exact⟨_,rfl⟩
  ·rw [if_neg (λh=>hc h.1)] at HN;have HG:=zd HN;have t1:decide ((r:Int)<(nd:Int))=false:=by simpa using hc
   clear j hr;clear HD HM HN HA y B A x u;obtain⟨j1,j2⟩:=hJ;obtain⟨j3,j4⟩:=hK;go_enter func158,ntmps158;go_wp2
   go_quiet (fail)
   obtain⟨w1,a⟩:∃w1,w.drewN nq=w1:=⟨_,rfl⟩;have t:=zd a;have i:w1.cell? ⟨g,k+m,none⟩=some (.int .u64 (u2:Int)):=by rw [<-a];exact i
   have d:w1.cell? ⟨g,k+(m - 1),none⟩=some (.int .u64 (u1:Int)):=by rw [<-a];exact d
   rw [a];clear a;go_wp2
   go_quiet ((go_at_call 150;exact mD (C.o _)))
   have d:(w1.drewN nq).cell? ⟨g,k+(m - 1),none⟩=some (.int .u64 (u1:Int)):=d;go_wp2_with (first|(go_at_call 162;(with_reducible refine(D.o _).mono ?_);rintro e w' ⟨rfl,rfl⟩)|(go_at_call 133;(with_reducible refine(z.o _).mono ?_);rintro e w' ⟨rfl,rfl⟩));go_ret;refine⟨by rw [HG.o];rfl,?_⟩;rw [<-t.o,World.drewN_drewN];exact⟨_,rfl⟩
 ·rw [show(u1+h+0) / 18446744073709551616=1 from by omega] at HA;obtain⟨r,j⟩:∃r,(u1+h+0)%18446744073709551616=r:=⟨_,rfl⟩;rw [j] at HA;have z:=zd HA;rw [if_neg (λh=>hr h.2)] at HN;have HG:=zd HN;clear j hr;clear HD HM HN HA y B A x u;obtain⟨j1,j2⟩:=hJ;obtain⟨j3,j4⟩:=hK;go_enter func158,ntmps158;go_wp2
  go_quiet (fail)
  obtain⟨w1,a⟩:∃w1,w.drewN nq=w1:=⟨_,rfl⟩;have t:=zd a;have i:w1.cell? ⟨g,k+m,none⟩=some (.int .u64 (u2:Int)):=by rw [<-a];exact i
  have d:w1.cell? ⟨g,k+(m - 1),none⟩=some (.int .u64 (u1:Int)):=by rw [<-a];exact d
  rw [a];clear a;go_wp2
  go_quiet ((go_at_call 150;exact mD (C.o _)))
  have d:(w1.drewN nq).cell? ⟨g,k+(m - 1),none⟩=some (.int .u64 (u1:Int)):=d;go_wp2_with (first|(go_at_call 162;(with_reducible refine(D.o _).mono ?_);rintro e w' ⟨rfl,rfl⟩)|(go_at_call 133;(with_reducible refine(z.o _).mono ?_);rintro e w' ⟨rfl,rfl⟩));go_ret;refine⟨by rw [HG.o];rfl,?_⟩;rw [<-t.o,World.drewN_drewN];exact⟨_,rfl⟩
def zW (g:Nat)(w w':World):Prop:=w.grownBy w' (some g)
section
variable {g:Nat}{w w' w2:World}
theorem zW.refl (g:Nat)(w:World):zW g w w:=⟨rfl,rfl,rfl,qX _,λ_ _ _=>rfl⟩
theorem zW.trans (h:zW g w w')(k:zW g w' w2):zW g w w2:=
 ⟨k.os.trans h.os,k.tape.trans h.tape,k.output.trans h.output,qC h.size k.size,λi hi a=>(k.block i (qJ hi h.size) a).trans (h.block i hi a)⟩
theorem zW.set_ (h:zW g w w')(k:Nat)(u:Value):zW g w (w'.setCell ⟨g,k,none⟩ u):=
 h.trans ⟨rfl,rfl,rfl,by simp [World.setCell],λi _ a=>Below.heap_setCell _ _ _ i (λe=>a (by rw [e]))⟩
theorem zW.drewN (h:zW g w w')(n:Nat):zW g w (w'.drewN n):=⟨h.os,h.tape,h.output,h.size,h.block⟩
theorem zW.blk {b:Nat}{t:TypeId}{cs:Array Value}(h:zW g w w')(hb:zi w b t cs)(a:b≠g):zi w' b t cs:=hb.grown h (λe=>a (by injection e))
theorem zW.reads {n:Nat}{A:zf}{xs:List Value}(h:zW g w w')(hr:zE w g 1 A n xs)(hg:g<=w.heap.size):zE w' g 1 A n xs:=hr.grown h hg (λ_ e=>by cases e;exact qX _)
theorem zW.below {B:Nat}{w0:World}(h:zW g w w')(hb:Below B w0 w)(hB:B<=w.heap.size)(hg:B<=g):Below B w0 w':=hb.grown h hB (λ_ e=>by cases e;exact hg)
theorem zW.cell {p:Addr}{v:Value}(h:zW g w w')(hc:w.cell? p=some v)(a:p.block≠g):w'.cell? p=some v:=World.grownBy.cell h hc (λe=>a (by injection e))
end
theorem lY {k:Nat}(hA:A.length=k)(hj:j<p.length):(A++p++C).getD (k+j) 0=p.getD j 0:=by
 simp only [qQ];rw [xX,qD za,qO za,hA,QW]
theorem ju {k d:Nat}(hA:A.length=k)(hj:j<p.length):(A++p++C).set (k+j) d=A++p.set j d++C:=by
 rw [xX,yH _ _ za,hA,QW,List.set_append_left _ _ hj,xX]
theorem cA (a b c:Nat)(ha:a<18446744073709551616)(hb:b<18446744073709551616)(hc:c<=1):∃d c':Nat,d<18446744073709551616/\c'<=1/\d+b+c=a+18446744073709551616*c'/\
  ∀w:World,Calls prog 134 #[.int .u64 a,.int .u64 b,.int .u64 c] w λe w'=>e=.returned (.tuple #[.int .u64 (d:Int),.int .u64 (c':Int)])/\w=w':=by
 obtain⟨d,c',e1,e2,h1,h2,h3⟩:=gA ha hb hc;refine⟨d,c',h1,h2,h3,λw=>?_⟩;have h:=bL a b c ⟨za,za⟩ ⟨za,za⟩ ⟨za,za⟩ w;rw [e1,e2] at h;exact h
theorem q8 (p q r:Nat)(hp:p<18446744073709551616)(hq:q<18446744073709551616)(hr:r<18446744073709551616)(w:World):
  Calls prog 119 #[.int .u64 p,.int .u64 q,.int .u64 r,.int .u64 0] w λe w'=>e=.returned (.tuple #[.int .u64 (((p*q+r+0) / 18446744073709551616:Nat):Int),.int .u64 (((p*q+r+0)%18446744073709551616:Nat):Int)])/\w=w':=
 eG p q r 0 hp hq hr zh w
def uY (w:World)(ty:TypeId)(g cap N m t:Nat)(A p C Ld:List Nat)(e:Ending)(w':World):Prop:=
 ∃(b:Nat) (p':List Nat),e=.returned (.bool (b==1))/\b<=1/\p'.length=m+1/\zC 18446744073709551616 p'/\dv 18446744073709551616 p'+t*dv 18446744073709551616 Ld=dv 18446744073709551616 p+18446744073709551616^(m+1)*b/\zy w' ty g cap N (A++p'++C)/\zW g w w'
theorem ZV (ty:TypeId)(g B N k m c1 cd t:Nat)(ad:Addr)(A p C Ld:List Nat)(w:World)(hR:zy w ty g B N (A++p++C))(hA:A.length=k)(hp:p.length=m+1)(S:zC 18446744073709551616 p)
  (hD:zE w g 1 (some ad) m (zw .u64 Ld)) (P:zC 18446744073709551616 Ld) (hm2:m<=1099511627776) (hc1:m+1<=c1) (hc:c1<=9223372036854775807) (hcd:m<=cd) (hcd2:cd<=9223372036854775807) (ht:t<18446744073709551616):
  Calls prog 159 #[.slice (some ⟨g,k,none⟩) (m+1) c1,.slice (some ad) m cd,.int .u64 t] w (uY w ty g B N m t A p C Ld):=by
 have M:=hR.len;have Q:=hD.len_;have HA:=zd hA;have HP:=zd hp;have y:=zd (show k+(m+1)<=N by simp at M;omega);have T:=zd Q;have L:=zd P;have HI:=zd (p9.start Ld t S);have HO:=zW.refl g w;clear hA hp M Q P S;go_enter func159,ntmps159;go_wp2_with fail
 go_loopg [7,8,16] (m+1) (λgg cy bo ix wr=>∃(i cc bb:Nat) (q:List Nat),i<=m/\m<gg+i/\ix=.int .i64 i/\cy=.int .u64 cc/\bo=.int .u64 bb/\p9 p Ld t i q cc bb/\zy wr ty g B N (A++q++C)/\zW g w wr/\zE wr g 1 (some ad) m (zw .u64 Ld))
 case atStart=>exact⟨0,0,0,p,xQ _,za,rfl,rfl,rfl,HI.o,hR,HO,hD⟩
 case round=>
  clear hR HI HO hD;obtain⟨i,cc,bb,q,him,hgg,rfl,rfl,rfl,hI,hR,hO,hD⟩:=hrel;have h:=hI.len;by_cases hlt:i<m
  ·obtain⟨ad',e,hadb,h1⟩:=ug hD (k:=i) hlt;cases e;have X:=L.o.getD zh i;have h2:=hR.cell (k+i) (by have:=y.o;omega);rw [lY HA.o (by rw [h,HP.o];omega)] at h2;have h3:=hR.frozen (k+i);have Y:=hI.carry;have x:=hI.dgs.getD zh i;obtain⟨b,E⟩:∃b,Ld.getD i 0=b:=⟨_,rfl⟩;have F:=λw'=>q8 b t cc (by rw [<-E];exact X) ht Y w';obtain⟨d,b',K,D,hx,hS⟩:=cA (q.getD i 0) ((b*t+cc+0)%18446744073709551616) bb x (QI _ zh) hI.lack;have j:=zd (hI.step (s:=Ld.getD i 0*t+cc+0) (d:=d) (b':=b') ht L.o (by rw [HP.o];omega) rfl K D (by rw [E];exact hx));have a:=hR.set_ (k+i) d (by have:=y.o;omega);rw [ju HA.o (by rw [h,HP.o];omega)] at a;have I:=zd a;have H:=zd (λu=>hO.set_ (k+i) u);have U:=zd (λu=>hD.setCell (p:=⟨g,k+i,none⟩) (qX _) u);rw [E] at h1 j;obtain⟨pv,v⟩:∃b,q.getD i 0=b:=⟨_,rfl⟩;rw [v] at h2 hS;obtain⟨s1,e1⟩:∃s1,(b*t+cc+0)%18446744073709551616=s1:=⟨_,rfl⟩;obtain⟨s2,e2⟩:∃s2,(b*t+cc+0) / 18446744073709551616=s2:=⟨_,rfl⟩;rw [e1,e2] at F;rw [e1] at hS;rw [e2] at j;have V:=zd F;have z:=zd hS;have i1:(0:Int)<=(i:Int):=za;have i2:(i:Int)<(m:Int):=za;have i3:(i:Int)<(m:Int)+1:=za;have i4:i<m+1:=za;clear F hS hx v e1 e2 E hI hR hO hD x a h;go_wp2_with (first|(go_at_call 119;(with_reducible refine(V.o _).mono ?_);rintro e w' ⟨rfl,rfl⟩)|(go_at_call 134;(with_reducible refine(z.o _).mono ?_);rintro e w' ⟨rfl,rfl⟩));go_roundg (m - i)
   case measure=>omega
   case rel=>exact⟨i+1,s2,b',_,za,za,by go_num,rfl,rfl,j.o,I.o,H.o _,U.o _⟩
  ·have R:i=m:=za;subst R;have h2:=hR.cell (k+i) (by have:=y.o;omega);rw [lY HA.o (by rw [h,HP.o];omega)] at h2;have h3:=hR.frozen (k+i);have x:=hI.dgs.getD zh i;obtain⟨d,b',K,D,hx,hS⟩:=cA (q.getD i 0) cc bb x hI.carry hI.lack;have j:=zd (hI.last (d:=d) (b':=b') (by rw [HP.o]) (by rw [T.o]) K D hx);have a:=hR.set_ (k+i) d (by have:=y.o;omega);rw [ju HA.o (by rw [h,HP.o];omega)] at a;have I:=zd a;have H:=zd (hO.set_ (k+i) (.int .u64 (d:Int)));obtain⟨pv,v⟩:∃b,q.getD i 0=b:=⟨_,rfl⟩;rw [v] at h2 hS;have z:=zd hS;have i1:(0:Int)<=(i:Int):=za;have i3:(i:Int)<(i:Int)+1:=za;have i4:i<i+1:=za;clear hS hx v hI hR hO hD x a h;have G:∀J:Bool,J=(b'==1)->uY w ty g B N i t A p C Ld (.returned (.bool J)) (wr.setCell ⟨g,k+i,none⟩ (.int .u64 (d:Int))):=λJ O=>by
    obtain⟨g1,g2,g3⟩:=j.o;rw [HP.o] at g1 g3;exact⟨b',_,by rw [O],D,g1,g2,g3,I.o,H.o⟩
   have HG:=zd G;clear G;rcases (show b'=0\/b'=1 by omega) with rfl|rfl
   ·go_wp2_with (go_at_call 134;(with_reducible refine(z.o _).mono ?_);rintro e w' ⟨rfl,rfl⟩);go_ret;exact HG.o _ rfl
   ·go_wp2_with (go_at_call 134;(with_reducible refine(z.o _).mono ?_);rintro e w' ⟨rfl,rfl⟩);go_ret;exact HG.o _ rfl
def uO (w:World)(ty:TypeId)(g cap N m:Nat)(A p C Ld:List Nat)(e:Ending)(w':World):Prop:=
 ∃(v:Value) (p':List Nat),e=.returned v/\p'.length=m+1/\zC 18446744073709551616 p'/\dv 18446744073709551616 p'=(dv 18446744073709551616 p+dv 18446744073709551616 Ld)%18446744073709551616^(m+1)/\zy w' ty g cap N (A++p'++C)/\zW g w w'
theorem Z5 (ty:TypeId)(g y N k m c1 cd:Nat)(ad:Addr)(A p C Ld:List Nat)(w:World)(hR:zy w ty g y N (A++p++C))(hA:A.length=k)(hp:p.length=m+1)(M:zC 18446744073709551616 p)
  (hD:zE w g 1 (some ad) m (zw .u64 Ld)) (J:zC 18446744073709551616 Ld) (hm2:m<=1099511627776) (hc1:m+1<=c1) (hc:c1<=9223372036854775807) (hcd:m<=cd) (hcd2:cd<=9223372036854775807):
  Calls prog 160 #[.slice (some ⟨g,k,none⟩) (m+1) c1,.slice (some ad) m cd] w (uO w ty g y N m A p C Ld):=by
 have F:=hR.len;have K:=hD.len_;have HA:=zd hA;have HP:=zd hp;have x:=zd (show k+(m+1)<=N by simp at F;omega);have O:=zd K;have E:=zd J;have HI:=zd (oc.start Ld M);have HO:=zW.refl g w;clear hA hp F K J M;go_enter func160,ntmps160;go_wp2_with fail
 go_loopg [4,10] (m+1) (λgg cy ix wr=>∃(i cc:Nat) (q:List Nat),i<=m/\m<gg+i/\ix=.int .i64 i/\cy=.int .u64 cc/\oc p Ld i q cc/\zy wr ty g y N (A++q++C)/\zW g w wr/\zE wr g 1 (some ad) m (zw .u64 Ld))
 case atStart=>exact⟨0,0,p,xQ _,za,rfl,rfl,HI.o,hR,HO,hD⟩
 case round=>
  clear hR HI HO hD;obtain⟨i,cc,q,him,hgg,rfl,rfl,hI,hR,hO,hD⟩:=hrel;have j:=hI.len;by_cases hlt:i<m
  ·obtain⟨ad',e,hadb,h1⟩:=ug hD (k:=i) hlt;cases e;have H:=E.o.getD zh i;have h2:=hR.cell (k+i) (by have:=x.o;omega);rw [lY HA.o (by rw [j,HP.o];omega)] at h2;have h3:=hR.frozen (k+i);have D:=hI.carry;have h:=hI.dgs.getD zh i;have a:=hI.step (s:=q.getD i 0+Ld.getD i 0+cc) E.o (by rw [HP.o];omega) rfl;obtain⟨b,I⟩:∃b,Ld.getD i 0=b:=⟨_,rfl⟩;obtain⟨pv,t⟩:∃b,q.getD i 0=b:=⟨_,rfl⟩;rw [I] at h1 H a;rw [t] at h2 h a;have hS:=λw=>gI pv b cc h H D w;have d:=hR.set_ (k+i) ((pv+b+cc)%18446744073709551616) (by have:=x.o;omega);rw [ju HA.o (by rw [j,HP.o];omega)] at d;obtain⟨s1,e1⟩:∃s1,(pv+b+cc)%18446744073709551616=s1:=⟨_,rfl⟩;obtain⟨s2,e2⟩:∃s2,(pv+b+cc) / 18446744073709551616=s2:=⟨_,rfl⟩;rw [e1,e2] at hS a;rw [e1] at d;have a:=zd a;have Q:=zd d;have z:=zd (λu=>hO.set_ (k+i) u);have P:=zd (λu=>hD.setCell (p:=⟨g,k+i,none⟩) (qX _) u);have B:=zd hS;have i1:(0:Int)<=(i:Int):=za;have i2:(i:Int)<(m:Int):=za;have i3:(i:Int)<(m:Int)+1:=za;have i4:i<m+1:=za;clear hS t e1 e2 I hI hR hO hD h d j;go_wp2_with (go_at_call 133;(with_reducible refine(B.o _).mono ?_);rintro e w' ⟨rfl,rfl⟩);go_roundg (m - i)
   case measure=>omega
   case rel=>exact⟨i+1,s2,_,za,za,by go_num,rfl,a.o,Q.o,z.o _,P.o _⟩
  ·have L:i=m:=za;subst L;have h2:=hR.cell (k+i) (by have:=x.o;omega);rw [lY HA.o (by rw [j,HP.o];omega)] at h2;have h3:=hR.frozen (k+i);have D:=hI.carry;have h:=hI.dgs.getD zh i;have a:=hI.last (s:=q.getD i 0+0+cc) (by rw [HP.o]) (by rw [O.o]) rfl;obtain⟨pv,t⟩:∃b,q.getD i 0=b:=⟨_,rfl⟩;rw [t] at h2 h a;have hS:∀w,Calls prog 133 #[.int .u64 pv,.int .u64 0,.int .u64 cc] w λe w'=>e=.returned (.tuple #[.int .u64 (((pv+0+cc)%18446744073709551616:Nat):Int),.int .u64 (((pv+0+cc) / 18446744073709551616:Nat):Int)])/\w=w':=λw=>gI pv 0 cc h zh D w;have d:=hR.set_ (k+i) ((pv+0+cc)%18446744073709551616) (by have:=x.o;omega);rw [ju HA.o (by rw [j,HP.o];omega)] at d;obtain⟨s1,e1⟩:∃s1,(pv+0+cc)%18446744073709551616=s1:=⟨_,rfl⟩;obtain⟨s2,e2⟩:∃s2,(pv+0+cc) / 18446744073709551616=s2:=⟨_,rfl⟩;rw [e1] at a d;rw [e1,e2] at hS;have B:=zd hS;have z:=zd (hO.set_ (k+i) (.int .u64 (s1:Int)));have i1:(0:Int)<=(i:Int):=za;have i3:(i:Int)<(i:Int)+1:=za;have i4:i<i+1:=za;have G:∀v:Value,uO w ty g y N i A p C Ld (.returned v) (wr.setCell ⟨g,k+i,none⟩ (.int .u64 (s1:Int))):=λv=>by
    obtain⟨g1,g2,g3⟩:=a;rw [HP.o] at g1 g3;exact⟨v,_,rfl,g1,g2,g3,d,z.o⟩
   have HG:=zd G;clear G hS t hI hR hO hD h d j e1 e2 a;go_wp2_with (go_at_call 133;(with_reducible refine(B.o _).mono ?_);rintro e w' ⟨rfl,rfl⟩)
   go_end0
   exact HG.o _
def r6 (w:World)(ty:TypeId)(g cap N m:Nat)(A p C Ld:List Nat)(e:Ending)(w':World):Prop:=
 ∃p':List Nat,e=.returned (.int .u64 ((dv 18446744073709551616 p / dv 18446744073709551616 Ld:Nat):Int))/\p'.length=m+1/\zC 18446744073709551616 p'/\dv 18446744073709551616 p'=dv 18446744073709551616 p%dv 18446744073709551616 Ld/\zy w' ty g cap N (A++p'++C)/\zW g w w'
theorem Z7 (ty:TypeId)(g a N k m c1 cd:Nat)(ad:Addr)(A p C Ld:List Nat)(w:World)(hR:zy w ty g a N (A++p++C))(hA:A.length=k)(hp:p.length=m+1)(B:zC 18446744073709551616 p)
  (hD:zE w g 1 (some ad) m (zw .u64 Ld)) (i:zC 18446744073709551616 Ld) (hm:2<=m) (M:m<=1099511627776) (K:m+1<=c1) (hc:c1<=9223372036854775807) (L:m<=cd) (x:cd<=9223372036854775807)
  (R:18446744073709551616<=2*Ld.getD (m - 1) 0) (af:dv 18446744073709551616 p<18446744073709551616*dv 18446744073709551616 Ld):
  Calls prog 153 #[.slice (some ⟨g,k,none⟩) (m+1) c1,.slice (some ad) m cd] w (r6 w ty g a N m A p C Ld):=by
 have aa:=hR.len;have U:=hD.len_;have hg:=hR.lt;have ay:k+(m+1)<=N:=by simp at aa;omega
 obtain⟨j,rfl⟩:∃j,m=j+2:=⟨m - 2,za⟩;have T:=nH (m:=j) B i hp U R af;have H:=hR.cell (k+(j+2)) za;have I:=hR.cell (k+(j+1)) za;rw [lY hA za] at H I;obtain⟨ar,e,ae,d1⟩:=ug hD (k:=j+1) za;cases e;obtain⟨ar,e,_,d2⟩:=ug hD (k:=j) za;cases e;have b1:=B.getD zh (j+2);have b2:=B.getD zh (j+1);have b3:=i.getD zh (j+1);have b4:=i.getD zh j;have GL:=tI T rfl b2;have HG:Calls prog 158 #[.slice (some ⟨g,k,none⟩) (j+2+1) c1,.slice (some ad) (j+2) cd] w (uU w (uB (p.getD (j+2) 0) (p.getD (j+1) 0) (Ld.getD (j+1) 0) (Ld.getD j 0))):=by
  by_cases hc:p.getD (j+2) 0<Ld.getD (j+1) 0
  ·exact tH g k (j+2) c1 cd ad _ _ _ _ w za M K ‹_› L x H I d1 d2 b1 b2 b3 b4 hc
  ·exact tG g k (j+2) c1 cd ad _ _ _ _ w za M K ‹_› L x H I d1 d2 b1 b2 b3 b4 hc
 obtain⟨t,aj⟩:∃t,uB (p.getD (j+2) 0) (p.getD (j+1) 0) (Ld.getD (j+1) 0) (Ld.getD j 0)=t:=⟨_,rfl⟩;rw [aj] at HG GL;obtain⟨lo,up,tb⟩:=GL;have hS:=λn=>ZV ty g a N k (j+2) c1 cd t ad A p C Ld (w.drewN n) hR hA hp B hD i M K ‹_› L x tb;have V:=wh B;rw [hp] at V;have O:=wh i;rw [U] at O;have am:=zd HG;have aq:=zd hS;have S:=T.Dpos;have au:=zd (λw' q (az:zy w' ty g a N (A++q++C)) (hq:q.length=j+2+1) (u:zC 18446744073709551616 q) (aw:zE w' g 1 (some ad) (j+2) (zw .u64 Ld))=>Z5 ty g a N k (j+2) c1 cd ad A q C Ld w' az hA hq u aw i M K ‹_› L x);have HR:=zd (λX b'=>WE (P:=dv 18446744073709551616 p) (D:=dv 18446744073709551616 Ld) (t:=t) (X:=X) (E:=18446744073709551616^(j+2+1)) (b':=b'));have HV:=zd (λX b'=>Uq (P:=dv 18446744073709551616 p) (D:=dv 18446744073709551616 Ld) (t:=t) (X:=X) (E:=18446744073709551616^(j+2+1)) (b':=b'));have ao:=zd (QI (dv 18446744073709551616 p) S);have Z:dv 18446744073709551616 Ld<=18446744073709551616^(j+2+1):=by
  have:18446744073709551616^(j+2)<=18446744073709551616^(j+2+1):=qL zh za;omega
 have ak:=zd Z;have ap:=zd V;have ax:=zd (λn=>(zW.refl g w).drewN n);have al:=zd (λw' (h:zW g w w')=>h.reads hD (yY hg));have Y:=zd S;obtain⟨Q,hQ⟩:∃Q,dv 18446744073709551616 p / dv 18446744073709551616 Ld=Q:=⟨_,rfl⟩;have HQ:=zd hQ;have an:=zd (show t=Q\/t=Q+1 by rw [hQ] at lo up;omega);clear HG hS hR hD B i T H I d1 d2 b1 b2 b3 b4 R af hp hA aj ae S Z V O hQ lo up U aa ay;go_enter func153,ntmps153;go_wp2_with fail;refine am.o.mono ?_;rintro e w1 ⟨rfl,n,rfl⟩;go_wp2_with fail;refine(aq.o n).mono ?_;rintro e w2 ⟨b,q,rfl,hb,F,u,y,J,d⟩;have d:=(ax.o n).trans d;have z:=wh u;rw [F] at z;rcases an.o with ht|ht
 ·obtain⟨rfl,hX⟩:=HR.out _ _ (by rw [HQ.o];exact ht) Y.o z y hb;have G:zg (r6 w ty g a N (j+2) A p C Ld (.returned (.int .u64 (t:Int))) w2):=⟨q,by rw [HQ.o,ht],F,u,hX,J,d⟩;clear J d hX z u y F ht hb;go_wp2;go_ret;exact G.o
 ·obtain⟨rfl,hX⟩:=HV.out _ _ (by rw [HQ.o];exact ht) Y.o ap.o z y hb;have av:=zd (Xw hX ao.o z ak.o);have HB:=zd (au.o w2 q J F u (al.o _ d));have HT:=zd ht;have t2:0<t:=za;have t3:IntKind.u64.wrap ((t:Int) - 1)=(t:Int) - 1:=by rw [QL];omega
  clear J hX z u y F ht hb;go_wp2_with fail;refine HB.o.mono ?_;rintro e w3 ⟨v,r,rfl,ah,ag,ai,ac,ab⟩;have G:zg (r6 w ty g a N (j+2) A p C Ld (.returned (.int .u64 ((t:Int) - 1))) w3):=⟨r,by rw [HQ.o,HT.o];simp,ah,ag,by rw [ai];exact av.o,ac,d.trans ab⟩;clear ac ab d ah ag ai;go_wp2;go_ret;exact G.o
def mK (w:World)(ty:TypeId)(N X:Nat)(e:Ending)(w':World):Prop:=
 ∃(g:Nat) (L:List Nat),e=.returned (.slice (some ⟨g,0,none⟩) N N)/\w.heap.size<=g/\zy w' ty g N N L/\zC 18446744073709551616 L/\dv 18446744073709551616 L=X/\Below w.heap.size w w'
theorem oY (b:Nat)(l:List Nat)(n:Nat):dv b (l++List.replicate n 0)=dv b l:=by rw [vJ,mH,XC,xI]
theorem fZ (x up N:Nat)(A:zf)(n c:Nat)(w:World)(hA:zp w x A n c)(hn:n<=274877906944)(T:up<=63)(hN:(dg 18446744073709551616 (2^up*x)).length<=N)(hN2:N<=549755813888):
  Calls prog 152 #[.agg #[.slice A n c],.int .i64 up,.int .i64 N] w (mK w 141 N (2^up*x)):=by
 obtain⟨i0,K,U,L,V⟩:=info_parts rN;have HS:=zn w (λw' hb=>Zj x up A n c w' (hA.below hb) za za);obtain⟨y,hy⟩:∃y,2^up*x=y:=⟨_,rfl⟩;rw [hy] at HS hN⊢;have HW:=zd (λw' A' n' c' (h:zp w' y A' n' c') (hb:n'<=1099511627776)=>nM y A' n' c' w' h hb);have HN:=zd hN;obtain⟨Z,hZ⟩:∃Z,madeCells (Value.cells (.int .u64 0)) N=Z:=⟨_,rfl⟩;have I:zg (Z=(zw .u64 (List.replicate N 0)).toArray):=by
  show _=_;have h:Z.toList=zw .u64 (List.replicate N 0):=by
   rw [<-hZ];exact(toList_madeCells_one _ _).trans (by simp [zw])
  rw [<-h]
 have R:∀W:World,(Instr.makeSlice 54 (.int .i64 (N:Int)) (.int .i64 (N:Int))).run prog W=.ok (.slice (some ⟨W.heap.size,0,none⟩) N N) (W.alloc (.cells Z 141)):=λW=>by
  have h:=uv _ _ i0 _ underlying54 K U .i64 .i64 N N (qX _) (by rw [V];omega) za W;rw [L,xO,hZ] at h;exact h
 clear hZ hA hN hy T;go_enter func152,ntmps152;go_wp2_with fail;generalize hW:w.alloc (.cells #[.slice A n c] 56)=W0;obtain⟨b1,b2,b5⟩:=zG w 56 #[.slice A n c];rw [hW] at b1 b2 b5;clear hW b2;refine(HS.o _ b1).mono ?_;rintro e w1 ⟨A1,n1,c1,rfl,m,hb,P⟩;have hB:=ze b1 hb;clear hb b1 b5;obtain⟨d1,d2,d5⟩:=zG w1 56 #[.slice A1 n1 c1];have d0:=hB.size;have hB:=ze hB d1;have m:=m.below d1;have g1:(w1.alloc (.cells #[.slice A1 n1 c1] 56)).cell? ⟨w1.heap.size,0,none⟩=some (.slice A1 n1 c1):=d2.cell 0;clear d1 d2 d5 P;go_wp2_with fail;have E:=m.below ((qY _ (w1.alloc (.cells #[.slice A1 n1 c1] 56))).alloc (qX _) (.cells Z 141));have hz:=zi.new (w1.alloc (.cells #[.slice A1 n1 c1] 56)) 141 Z;have hB:=ym (.cells Z 141) hB;have i:w.heap.size<=(w1.alloc (.cells #[.slice A1 n1 c1] 56)).heap.size:=by have:=hB.size;simp at this⊢;have:=d0;omega
 rw [show(w1.alloc (.cells #[.slice A1 n1 c1] 56)).heap.size=w1.heap.size+1 from by simp] at hz i;obtain⟨gs,J⟩:∃g,w1.heap.size+1=g:=⟨_,rfl⟩;rw [J] at hz i⊢;generalize (w1.alloc (.cells #[.slice A1 n1 c1] 56)).alloc (.cells Z 141)=W2 at*;clear J m g1 R;have C:=E.len;have S:n1<=N:=by have:=HN.o;omega
 refine(HW.o _ A1 n1 c1 E za).mono ?_;rintro e w3 ⟨A2,c2,rfl,a,_,⟨_,Q⟩,hb⟩;have hB:=ze hB hb;have hz:=zj hb hz;rw [I.o] at hz;rw [C] at a;rw [C];have z:=a.len_;have u:=vp (b:=18446744073709551616) zh y;have B:=wV (b:=18446744073709551616) zh y;obtain⟨D,hD⟩:∃D,dg 18446744073709551616 y=D:=⟨_,rfl⟩;rw [hD] at a z u B;have t:0<(zw .u64 D).length->∃ad,A2=some ad/\∀j v,(zw .u64 D)[j]?=some v->w3.cell? (ad.add j)=some v:=λh=>by
  rw [xt] at h;obtain⟨ad,e,_,hc⟩:=a.2 za;exact⟨ad,e,hc⟩
 have F:=zd t;have H:zg (∀w4,zg (w4.heap[gs]?=some (.cells (splice (zw .u64 (List.replicate N 0)) 0 (zw .u64 D)).toArray 141 (0,0)))->Below w.heap.size w w4->mK w 141 N y (.returned (.slice (some ⟨gs,0,none⟩) N N)) w4):=λw4 h4 d=>by
  have e:splice (zw .u64 (List.replicate N 0)) 0 (zw .u64 D)=zw .u64 (D++List.replicate (N - n1) 0):=by
   unfold splice;rw [List.take_zero,XR,xG,xt,Ut,z,List.drop_replicate,<-kR]
  rw [e] at h4;refine⟨gs,D++List.replicate (N - n1) 0,rfl,i,⟨_,h4.o,qX _,by unfold maxLen;omega,by simp [xt];omega,by simp;omega,?_⟩,u.append (zC.zeros zh _),by rw [oY,B],d⟩;show(zw .u64 (D++List.replicate (N - n1) 0)).take N=_;rw [qV (by rw [xt];simp;omega)]
 have O:=zd hz;have M:=zd hB;clear hz hB t u B hD a Q hb C E I;have hu:=underlying54;go_wp2_with ((with_reducible show wpList _ _ _ _ _ _);refine wpList_copy_splice (o:=⟨some 21,_,_,_,_,_⟩) rfl (.tmp 18) (.tmp 20) 54 54 rfl 141 hu (by rw [K];simp [L]) (some ⟨gs,0,none⟩) A2 N N n1 c2 rfl rfl gs 0 (zw .u64 (List.replicate N 0)) 141 O.o (zw .u64 D) (by rw [xt,z];exact(QO S).symm) (λh=>⟨rfl,F.o h⟩) (by rw [xt,xt];simp;omega) (js _ _) w.heap.size w M.o i ?_;intro w4 h4 d);have G:=zd (H.o w4 h4 d);clear h4 d;go_wp2;go_ret;exact G.o
theorem pg {d m:Nat}(hd:(dg 18446744073709551616 d).length=m+1):∃up:Nat,(64 - vw ((wd d m:Nat):Int)=(up:Int))/\up<=63/\2^up*d<18446744073709551616^(m+1)/\18446744073709551616<=2*(2^up*d / 18446744073709551616^m):=by
 obtain⟨h1,h2,_⟩:=fT hd;have h3:=xl d m;obtain⟨up,e,hu,g,h⟩:=bC ((wd d m:Nat):Int) za za;refine⟨up,e,hu,?_,?_⟩
 ·obtain⟨t,ht⟩:∃t,wd d m=t:=⟨_,rfl⟩;rw [ht] at h1 h;have h4:t*2^up<2^(64 - up)*2^up:=by
   rw [<-xU,show 64 - up+up=64 from by omega];have:((t*2^up:Nat):Int)<((2^64:Nat):Int):=by
    rw [QV,XO];exact h
   omega
  have h5:t+1<=2^(64 - up):=XD h4;have h6:d<(t+1)*18446744073709551616^m:=by
   have:=Nat.lt_div_mul_add (a:=d) (b:=18446744073709551616^m) (XM zh);rw [<-h1] at this;rw [QH,XU];exact this
  have h7:d<2^(64 - up)*18446744073709551616^m:=qJ h6 (QK _ h5);have h8:2^up*d<2^up*(2^(64 - up)*18446744073709551616^m):=(Nat.mul_lt_mul_left (xZ up)).2 h7;rw [<-qU,<-xU,show up+(64 - up)=64 from by omega] at h8;rw [Nat.pow_succ'];exact h8
 ·rw [h1] at g;obtain⟨t,ht⟩:∃t,d / 18446744073709551616^m=t:=⟨_,rfl⟩;rw [ht] at g;have h4:t*2^up<=2^up*d / 18446744073709551616^m:=by
   refine(Nat.le_div_iff_mul_le (XM zh)).2 ?_;rw [qE t,qU,<-ht];exact QG _ (Nat.div_mul_le_self _ _)
  have h5:((9223372036854775808:Nat):Int)<=((t*2^up:Nat):Int):=by
   rw [QV,XO];exact g
  omega
theorem sh {x n up:Nat}(hx:(dg 18446744073709551616 x).length=n)(hu:up<=63):(dg 18446744073709551616 (2^up*x)).length<=n+1:=by
 have h:=yx (b:=18446744073709551616) zh x;rw [hx] at h;refine pR zh _ _ ?_;rw [Nat.pow_succ'];exact yJ (QA (qL zh hu) zh) h
theorem Vd {x d n m k up:Nat}(hx:(dg 18446744073709551616 x).length=n)(hd:(dg 18446744073709551616 d).length=m+1)(hk:m+k=n):2^up*x / 18446744073709551616^k<2^up*d:=by
 refine(QU (XM zh)).2 ?_;have h:=yx (b:=18446744073709551616) zh x;rw [hx,<-hk,xU] at h;have h0:d≠0:=λe=>by rw [e,oK] at hd;simp at hd
 have h2:=(vH (b:=18446744073709551616) zh d h0).2;rw [hd,Nat.add_sub_cancel] at h2;rw [qU];refine(Nat.mul_lt_mul_left (xZ up)).2 ?_;exact qJ h (QK _ h2)
theorem si {m:Nat}{L:List Nat}(hl:L.length=m+1)(hd:zC 18446744073709551616 L)(hv:dv 18446744073709551616 L=D)(h:18446744073709551616<=2*(D / 18446744073709551616^m)):18446744073709551616<=2*L.getD m 0:=by
 rw [nU zh hd,hv];have h1:=wh hd;rw [hl,hv,qN] at h1;have h2:D / 18446744073709551616^m<18446744073709551616:=(QU (XM zh)).2 (by rw [qE];exact h1);rw [qP h2];exact h
theorem Vv (x d up:Nat):2^up*x / (2^up*d)=x / d/\2^up*x%(2^up*d) / 2^up=x%d:=by
 refine⟨Nat.mul_div_mul_left _ _ (xZ up),?_⟩;rw [Nat.mul_mod_mul_left,xE _ (xZ up)]
