/- What this claim leans on. -/
import Derived.Test.YtghpdeciaaagnaaGreatDoorQBunO
import Derived.Test.YtghpdeciaaagnaaGreatDoorQBunS
import Derived.Laws.CopyOwn
import Derived.RangeFuncBox
namespace Go.Proofs.YtghpdeciaaagnaaGreatDoor
open Go Go.RowKit Go.Proofs.Tryz
set_option maxHeartbeats 16000000
set_option maxRecDepth 100000
set_option linter.unusedVariables false
def zci (u2 u1 h:Nat):Nat:=if u2<h then(u2*18446744073709551616+u1) / h else 18446744073709551615
def zek (u2 u1 h:Nat):Nat:=if u2<h then(u2*18446744073709551616+u1)%h else u1+h
def zdS (u2 u1 h v:Nat):Nat:=if zek u2 u1 h<zci u2 u1 h*v / 18446744073709551616/\zek u2 u1 h<18446744073709551616 then zci u2 u1 h - 1 else zci u2 u1 h
theorem zkv {u2 u1 h:Nat}(hu:u1<18446744073709551616):zci u2 u1 h<18446744073709551616:=by
 unfold zci
 split
 ·rename_i hc
  refine(Nat.div_lt_iff_lt_mul om9).2 ?_;have:(u2+1)*18446744073709551616<=h*18446744073709551616:=Nat.mul_le_mul_right _ hc;rw [Nat.mul_comm _ h];omega
 ·decide
theorem guess_le {P D U h v M u2 u1:Nat}(H:Two P D U h v M)(hU:U=u2*18446744073709551616+u1)(hu:u1<18446744073709551616):P / D<=zdS u2 u1 h v/\zdS u2 u1 h v<=P / D+1/\zdS u2 u1 h v<18446744073709551616:=by
 have hh:=H.hh;have ht:=H.top;have hq:=H.q.2.2;have tb:=zkv (u2:=u2) (h:=h) hu;have e:zci u2 u1 h*h+zek u2 u1 h=U:=by
  unfold zci zek
  split
  ·rw [hU,Nat.mul_comm _ h,Nat.div_add_mod]
  ·obtain rfl:u2=h:=by rw [hU] at ht;omega
   rw [hU];omega
 have lo:P / D<=zci u2 u1 h:=by
  unfold zci
  split
  ·rw [<-hU];exact(Nat.le_div_iff_mul_le om9).2 H.le
  ·omega
 have up:zci u2 u1 h<=P / D+2:=H.two om9 tb;obtain⟨t,b⟩:∃t,zci u2 u1 h=t:=⟨_,rfl⟩;obtain⟨r,a⟩:∃r,zek u2 u1 h=r:=⟨_,rfl⟩;unfold zdS;rw [b] at lo up tb e;rw [a] at e;rw [b,a];obtain⟨q,c⟩:∃q,P / D=q:=⟨_,rfl⟩;have vb:=H.vb;have h2:t*v / 18446744073709551616<18446744073709551616:=by
  refine(Nat.div_lt_iff_lt_mul de9).2 ?_;exact Nat.lt_of_le_of_lt (Nat.mul_le_mul (show t<=18446744073709551615 by omega) (show v<=18446744073709551615 by omega)) de9
 have d1:=H.dec (t:=t) (r:=r) e;have d2:=H.one (t:=t) (r:=r) e tb;rw [c] at lo up hq d1 d2⊢;obtain⟨x,hx⟩:∃x,t*v / 18446744073709551616=x:=⟨_,rfl⟩;rw [hx] at h2
 split
 ·rename_i hc
  rw [hx] at hc;have h1:=d1 ((Nat.le_div_iff_mul_le de9).1 (by rw [hx];omega));clear d1 d2;omega
 ·rename_i hc
  rw [hx] at hc;have h1:=d2 ((Nat.div_lt_iff_lt_mul de9).1 (by rw [hx];omega));clear d1 d2;omega
theorem zpC (x y:Nat)(hx:x<18446744073709551616)(hy:y<18446744073709551616)(w:World):
  Calls prog 239 #[.int .u64 x,.int .u64 y] w λe w'=>e=.returned (.tuple #[.int .u64 ((x*y / 18446744073709551616:Nat):Int),.int .u64 ((x*y%18446744073709551616:Nat):Int)])/\w=w':=by
 have h:=word_mul x y ⟨om9,om9⟩ ⟨om9,om9⟩ w;rw [show zeU (x:Int) (y:Int)=((x*y / 18446744073709551616:Nat):Int) from by unfold zeU;simp,show zcS (x:Int) (y:Int)=((x*y%18446744073709551616:Nat):Int) from by unfold zcS;simp] at h;exact h
theorem zpq (hi lo y:Nat)(h1:hi<y)(hy:y<18446744073709551616)(hl:lo<18446744073709551616)(w:World):
  Calls prog 226 #[.int .u64 hi,.int .u64 lo,.int .u64 y] w λe w'=>e=.returned (.tuple #[.int .u64 (((hi*18446744073709551616+lo) / y:Nat):Int),.int .u64 (((hi*18446744073709551616+lo)%y:Nat):Int),.bool true])/\∃n,w'=w.drewN n:=by
 have h:=zma hi lo y ⟨om9,om9⟩ om9 om9 ⟨om9,om9⟩ w;rw [show divQ (hi:Int) (lo:Int) (y:Int)=(((hi*18446744073709551616+lo) / y:Nat):Int) from by unfold divQ;simp,show divR (hi:Int) (lo:Int) (y:Int)=(((hi*18446744073709551616+lo)%y:Nat):Int) from by unfold divR;simp] at h;exact h
theorem zlk (x y c:Nat)(hx:x<18446744073709551616)(hy:y<18446744073709551616)(hc:c<=1)(w:World):
  Calls prog 230 #[.int .u64 x,.int .u64 y,.int .u64 c] w λe w'=>e=.returned (.tuple #[.int .u64 (((x+y+c)%18446744073709551616:Nat):Int),.int .u64 (((x+y+c) / 18446744073709551616:Nat):Int)])/\w=w':=by
 have h:=znG x y c ⟨om9,om9⟩ ⟨om9,om9⟩ ⟨om9,om9⟩ w;rw [zkn hc,zkm hc] at h;exact h
def SaysU (w:World)(t:Nat)(e:Ending)(w':World):Prop:=e=.returned (.int .u64 (t:Int))/\∃n,w'=w.drewN n
theorem guess_in (g k m c1 cd:Nat)(ad:Addr)(u2 u1 h v:Nat)(w:World)(hm:2<=m)(hm2:m<=1099511627776)(hc1:m+1<=c1)(hc:c1<=9223372036854775807)(hcd:m<=cd)(i:cd<=9223372036854775807)
  (f:w.cell? ⟨g,k+m,none⟩=some (.int .u64 (u2:Int))) (d:w.cell? ⟨g,k+(m - 1),none⟩=some (.int .u64 (u1:Int))) (hH:w.cell? (ad.add (m - 1))=some (.int .u64 (h:Int))) (hV:w.cell? (ad.add (m - 2))=some (.int .u64 (v:Int)))
  (u2b:u2<18446744073709551616) (u:u1<18446744073709551616) (hb:h<18446744073709551616) (vb:v<18446744073709551616) (b:u2<h):
  Calls prog 236 #[.slice (some ⟨g,k,none⟩) (m+1) c1,.slice (some ad) m cd] w (SaysU w (zdS u2 u1 h v)):=by
 have et:zci u2 u1 h=(u2*18446744073709551616+u1) / h:=if_pos b;have er:zek u2 u1 h=(u2*18446744073709551616+u1)%h:=if_pos b;have rb:(u2*18446744073709551616+u1)%h<18446744073709551616:=Nat.lt_trans (Nat.mod_lt _ om9) hb;have tb:=zkv (u2:=u2) (h:=h) u;have HD:=λw=>zpq u2 u1 h b hb u w;have HM:=λw=>zpC (zci u2 u1 h) v tb vb w;have HN:zdS u2 u1 h v=if zek u2 u1 h<zci u2 u1 h*v / 18446744073709551616/\zek u2 u1 h<18446744073709551616 then zci u2 u1 h - 1 else zci u2 u1 h:=rfl
 rw [et,er] at HN;rw [et] at HM tb;clear et er;obtain⟨t,ht⟩:∃t,(u2*18446744073709551616+u1) / h=t:=⟨_,rfl⟩;obtain⟨r,hr⟩:∃r,(u2*18446744073709551616+u1)%h=r:=⟨_,rfl⟩;rw [ht,hr] at HD HN;rw [hr] at rb;rw [ht] at HM tb;obtain⟨nd,c⟩:∃nd,t*v / 18446744073709551616=nd:=⟨_,rfl⟩;obtain⟨nl,n⟩:∃nl,t*v%18446744073709551616=nl:=⟨_,rfl⟩;rw [c,n] at HM;rw [c] at HN;have hnt:nd<=t:=by
  rw [<-c];refine Nat.le_trans (Nat.div_le_div_right (Nat.mul_le_mul_left t (Nat.le_of_lt vb))) ?_;rw [Nat.mul_div_cancel _ de9];exact Nat.le_refl _
 have o:=lh9 HD;have s:=lh9 HM;obtain⟨GN,l⟩:∃GN,zdS u2 u1 h v=GN:=⟨_,rfl⟩;rw [l] at HN⊢;have hJ:IntKind.i64.wrap ((m:Int) - 1)=(m:Int) - 1/\IntKind.i64.wrap ((m:Int) - 2)=(m:Int) - 2:=⟨IntWalk.i64_in _ om9,IntWalk.i64_in _ om9⟩;have hK:((m:Int) - 1).toNat=m - 1/\((m:Int) - 2).toNat=m - 2:=⟨om9,om9⟩;have hL:(0:Int)<=(m:Int) - 1/\(m:Int) - 1<(m:Int)/\(0:Int)<=(m:Int) - 2/\(m:Int) - 2<(m:Int)/\(m:Int)<(m:Int)+1/\(m:Int) - 1<(m:Int)+1:=om9;obtain⟨l1,l2,l3,l4,l5,l6⟩:=hL;by_cases hc:r<nd
 ·rw [if_pos ⟨hc,rb⟩] at HN;have HG:=lh9 HN;have t1:decide ((r:Int)<(nd:Int))=true:=by simpa using hc
  have t2:0<t:=om9;have t3:IntKind.u64.wrap ((t:Int) - 1)=(t:Int) - 1:=by rw [IntKind.wrap_u64];omega
  clear HD HM HN ht hr c n l rb b i;obtain⟨j1,j2⟩:=hJ;obtain⟨j3,j4⟩:=hK;go_enter func236,ntmps236;go_wp2
  go_quiet (fail)
  obtain⟨w1,a⟩:∃w1,w.drewN nq=w1:=⟨_,rfl⟩;have j:=lh9 a;have f:w1.cell? ⟨g,k+m,none⟩=some (.int .u64 (u2:Int)):=by rw [<-a];exact f
  have d:w1.cell? ⟨g,k+(m - 1),none⟩=some (.int .u64 (u1:Int)):=by rw [<-a];exact d
  rw [a];clear a;go_wp2
  go_quiet ((go_at_call 226;exact Calls.quiet_of (o.out _)))
  go_wp2_with (go_at_call 239;(with_reducible refine(s.out _).mono ?_);rintro e w' ⟨rfl,rfl⟩);go_ret;refine⟨by rw [HG.out];show Ending.returned (.int .u64 ((t:Int) - 1))=_;rw [Int.ofNat_sub om9];rfl,?_⟩;rw [<-j.out,World.drewN_drewN];exact⟨_,rfl⟩
 ·rw [if_neg (λh=>hc h.1)] at HN;have HG:=lh9 HN;have t1:decide ((r:Int)<(nd:Int))=false:=by simpa using hc
  clear HD HM HN ht hr c n l rb b i;obtain⟨j1,j2⟩:=hJ;obtain⟨j3,j4⟩:=hK;go_enter func236,ntmps236;go_wp2
  go_quiet (fail)
  obtain⟨w1,a⟩:∃w1,w.drewN nq=w1:=⟨_,rfl⟩;have j:=lh9 a;have f:w1.cell? ⟨g,k+m,none⟩=some (.int .u64 (u2:Int)):=by rw [<-a];exact f
  have d:w1.cell? ⟨g,k+(m - 1),none⟩=some (.int .u64 (u1:Int)):=by rw [<-a];exact d
  rw [a];clear a;go_wp2
  go_quiet ((go_at_call 226;exact Calls.quiet_of (o.out _)))
  go_wp2_with (go_at_call 239;(with_reducible refine(s.out _).mono ?_);rintro e w' ⟨rfl,rfl⟩);go_ret;refine⟨by rw [HG.out];rfl,?_⟩;rw [<-j.out,World.drewN_drewN];exact⟨_,rfl⟩
theorem guess_eq (g k m c1 cd:Nat)(ad:Addr)(u2 u1 h v:Nat)(w:World)(hm:2<=m)(hm2:m<=1099511627776)(hc1:m+1<=c1)(hc:c1<=9223372036854775807)(hcd:m<=cd)(i:cd<=9223372036854775807)
  (c:w.cell? ⟨g,k+m,none⟩=some (.int .u64 (u2:Int))) (b:w.cell? ⟨g,k+(m - 1),none⟩=some (.int .u64 (u1:Int))) (hH:w.cell? (ad.add (m - 1))=some (.int .u64 (h:Int))) (hV:w.cell? (ad.add (m - 2))=some (.int .u64 (v:Int)))
  (u2b:u2<18446744073709551616) (y:u1<18446744073709551616) (hb:h<18446744073709551616) (vb:v<18446744073709551616) (j:¬ u2<h):
  Calls prog 236 #[.slice (some ⟨g,k,none⟩) (m+1) c1,.slice (some ad) m cd] w (SaysU w (zdS u2 u1 h v)):=by
 have et:zci u2 u1 h=18446744073709551615:=if_neg j;have er:zek u2 u1 h=u1+h:=if_neg j;have HD:=λw=>znH u2 u1 h om9 w;have HM:∀w,Calls prog 239 #[.int .u64 18446744073709551615,.int .u64 v] w λe w'=>e=.returned (.tuple #[.int .u64 ((18446744073709551615*v / 18446744073709551616:Nat):Int),.int .u64 ((18446744073709551615*v%18446744073709551616:Nat):Int)])/\w=w':=λw=>zpC 18446744073709551615 v de9 vb w;have HA:∀w,Calls prog 230 #[.int .u64 u1,.int .u64 h,.int .u64 0] w λe w'=>e=.returned (.tuple #[.int .u64 (((u1+h+0)%18446744073709551616:Nat):Int),.int .u64 (((u1+h+0) / 18446744073709551616:Nat):Int)])/\w=w':=λw=>zlk u1 h 0 y hb de9 w;have HN:zdS u2 u1 h v=if zek u2 u1 h<zci u2 u1 h*v / 18446744073709551616/\zek u2 u1 h<18446744073709551616 then zci u2 u1 h - 1 else zci u2 u1 h:=rfl
 rw [et,er] at HN;clear et er;obtain⟨nd,l⟩:∃nd,18446744073709551615*v / 18446744073709551616=nd:=⟨_,rfl⟩;obtain⟨nl,s⟩:∃nl,18446744073709551615*v%18446744073709551616=nl:=⟨_,rfl⟩;rw [l,s] at HM;rw [l] at HN;have t:=lh9 HD;have u:=lh9 HM;obtain⟨GN,o⟩:∃GN,zdS u2 u1 h v=GN:=⟨_,rfl⟩;rw [o] at HN⊢;have hJ:IntKind.i64.wrap ((m:Int) - 1)=(m:Int) - 1/\IntKind.i64.wrap ((m:Int) - 2)=(m:Int) - 2:=⟨IntWalk.i64_in _ om9,IntWalk.i64_in _ om9⟩;have hK:((m:Int) - 1).toNat=m - 1/\((m:Int) - 2).toNat=m - 2:=⟨om9,om9⟩;have hL:(0:Int)<=(m:Int) - 1/\(m:Int) - 1<(m:Int)/\(0:Int)<=(m:Int) - 2/\(m:Int) - 2<(m:Int)/\(m:Int)<(m:Int)+1/\(m:Int) - 1<(m:Int)+1:=om9;obtain⟨l1,l2,l3,l4,l5,l6⟩:=hL;by_cases hr:u1+h<18446744073709551616
 ·rw [show(u1+h+0)%18446744073709551616=u1+h from by omega,show(u1+h+0) / 18446744073709551616=0 from by omega] at HA;obtain⟨r,d⟩:∃r,u1+h=r:=⟨_,rfl⟩;rw [d] at HA HN hr;have n:=lh9 HA;by_cases hc:r<nd
  ·rw [if_pos ⟨hc,hr⟩] at HN;have HG:=lh9 HN;have t1:decide ((r:Int)<(nd:Int))=true:=by simpa using hc
   clear d hr;clear HD HM HN HA l s o j i;obtain⟨j1,j2⟩:=hJ;obtain⟨j3,j4⟩:=hK;go_enter func236,ntmps236;go_wp2
   go_quiet (fail)
   obtain⟨w1,a⟩:∃w1,w.drewN nq=w1:=⟨_,rfl⟩;have f:=lh9 a;have c:w1.cell? ⟨g,k+m,none⟩=some (.int .u64 (u2:Int)):=by rw [<-a];exact c
   have b:w1.cell? ⟨g,k+(m - 1),none⟩=some (.int .u64 (u1:Int)):=by rw [<-a];exact b
   rw [a];clear a;go_wp2
   go_quiet ((go_at_call 226;exact zdt (t.out _)))
   have b:(w1.drewN nq).cell? ⟨g,k+(m - 1),none⟩=some (.int .u64 (u1:Int)):=b;go_wp2_with (first|(go_at_call 239;(with_reducible refine(u.out _).mono ?_);rintro e w' ⟨rfl,rfl⟩)|(go_at_call 230;(with_reducible refine(n.out _).mono ?_);rintro e w' ⟨rfl,rfl⟩));go_ret;refine⟨by rw [HG.out];rfl,?_⟩;rw [<-f.out,World.drewN_drewN];exact⟨_,rfl⟩
  ·rw [if_neg (λh=>hc h.1)] at HN;have HG:=lh9 HN;have t1:decide ((r:Int)<(nd:Int))=false:=by simpa using hc
   clear d hr;clear HD HM HN HA l s o j i;obtain⟨j1,j2⟩:=hJ;obtain⟨j3,j4⟩:=hK;go_enter func236,ntmps236;go_wp2
   go_quiet (fail)
   obtain⟨w1,a⟩:∃w1,w.drewN nq=w1:=⟨_,rfl⟩;have f:=lh9 a;have c:w1.cell? ⟨g,k+m,none⟩=some (.int .u64 (u2:Int)):=by rw [<-a];exact c
   have b:w1.cell? ⟨g,k+(m - 1),none⟩=some (.int .u64 (u1:Int)):=by rw [<-a];exact b
   rw [a];clear a;go_wp2
   go_quiet ((go_at_call 226;exact zdt (t.out _)))
   have b:(w1.drewN nq).cell? ⟨g,k+(m - 1),none⟩=some (.int .u64 (u1:Int)):=b;go_wp2_with (first|(go_at_call 239;(with_reducible refine(u.out _).mono ?_);rintro e w' ⟨rfl,rfl⟩)|(go_at_call 230;(with_reducible refine(n.out _).mono ?_);rintro e w' ⟨rfl,rfl⟩));go_ret;refine⟨by rw [HG.out];rfl,?_⟩;rw [<-f.out,World.drewN_drewN];exact⟨_,rfl⟩
 ·rw [show(u1+h+0) / 18446744073709551616=1 from by omega] at HA;obtain⟨r,d⟩:∃r,(u1+h+0)%18446744073709551616=r:=⟨_,rfl⟩;rw [d] at HA;have n:=lh9 HA;rw [if_neg (λh=>hr h.2)] at HN;have HG:=lh9 HN;clear d hr;clear HD HM HN HA l s o j i;obtain⟨j1,j2⟩:=hJ;obtain⟨j3,j4⟩:=hK;go_enter func236,ntmps236;go_wp2
  go_quiet (fail)
  obtain⟨w1,a⟩:∃w1,w.drewN nq=w1:=⟨_,rfl⟩;have f:=lh9 a;have c:w1.cell? ⟨g,k+m,none⟩=some (.int .u64 (u2:Int)):=by rw [<-a];exact c
  have b:w1.cell? ⟨g,k+(m - 1),none⟩=some (.int .u64 (u1:Int)):=by rw [<-a];exact b
  rw [a];clear a;go_wp2
  go_quiet ((go_at_call 226;exact zdt (t.out _)))
  have b:(w1.drewN nq).cell? ⟨g,k+(m - 1),none⟩=some (.int .u64 (u1:Int)):=b;go_wp2_with (first|(go_at_call 239;(with_reducible refine(u.out _).mono ?_);rintro e w' ⟨rfl,rfl⟩)|(go_at_call 230;(with_reducible refine(n.out _).mono ?_);rintro e w' ⟨rfl,rfl⟩));go_ret;refine⟨by rw [HG.out];rfl,?_⟩;rw [<-f.out,World.drewN_drewN];exact⟨_,rfl⟩
def Off (g:Nat)(w w':World):Prop:=w.grownBy w' (some g)
section
variable {g:Nat}{w w' w2:World}
theorem Off.refl (g:Nat)(w:World):Off g w w:=⟨rfl,rfl,rfl,Nat.le_refl _,λ_ _ _=>rfl⟩
theorem Off.trans (h:Off g w w')(k:Off g w' w2):Off g w w2:=
 ⟨k.os.trans h.os,k.tape.trans h.tape,k.output.trans h.output,Nat.le_trans h.size k.size,λi hi a=>(k.block i (Nat.lt_of_lt_of_le hi h.size) a).trans (h.block i hi a)⟩
theorem Off.set_ (h:Off g w w')(k:Nat)(u:Value):Off g w (w'.setCell ⟨g,k,none⟩ u):=
 h.trans ⟨rfl,rfl,rfl,by simp [World.setCell],λi _ a=>Below.heap_setCell _ _ _ i (λe=>a (by rw [e]))⟩
theorem Off.drewN (h:Off g w w')(n:Nat):Off g w (w'.drewN n):=⟨h.os,h.tape,h.output,h.size,h.block⟩
theorem Off.blk {b:Nat}{t:TypeId}{cs:Array Value}(h:Off g w w')(hb:Blk w b t cs)(a:b≠g):Blk w' b t cs:=hb.grown h (λe=>a (by injection e))
theorem Off.reads {n:Nat}{A:oA9}{xs:List Value}(h:Off g w w')(hr:zaw w g 1 A n xs)(hg:g<=w.heap.size):zaw w' g 1 A n xs:=hr.grown h hg (λ_ e=>by cases e;exact Nat.le_refl _)
theorem Off.below {B:Nat}{w0:World}(h:Off g w w')(hb:Below B w0 w)(hB:B<=w.heap.size)(hg:B<=g):Below B w0 w':=hb.grown h hB (λ_ e=>by cases e;exact hg)
theorem Off.cell {p:Addr}{v:Value}(h:Off g w w')(hc:w.cell? p=some v)(a:p.block≠g):w'.cell? p=some v:=World.grownBy.cell h hc (λe=>a (by injection e))
end
theorem zhq {A p C:List Nat}{k j:Nat}(hA:A.length=k)(hj:j<p.length):(A++p++C).getD (k+j) 0=p.getD j 0:=by
 simp only [List.getD_eq_getElem?_getD];rw [List.append_assoc,List.getElem?_append_right om9,List.getElem?_append_left om9,hA,Nat.add_sub_cancel_left]
theorem ziK {A p C:List Nat}{k j d:Nat}(hA:A.length=k)(hj:j<p.length):(A++p++C).set (k+j) d=A++p.set j d++C:=by
 rw [List.append_assoc,List.set_append_right _ _ om9,hA,Nat.add_sub_cancel_left,List.set_append_left _ _ hj,List.append_assoc]
theorem zkV (a b c:Nat)(ha:a<18446744073709551616)(hb:b<18446744073709551616)(hc:c<=1):∃d c':Nat,d<18446744073709551616/\c'<=1/\d+b+c=a+18446744073709551616*c'/\
  ∀w:World,Calls prog 231 #[.int .u64 a,.int .u64 b,.int .u64 c] w λe w'=>e=.returned (.tuple #[.int .u64 (d:Int),.int .u64 (c':Int)])/\w=w':=by
 obtain⟨d,c',e1,e2,h1,h2,h3⟩:=zlV ha hb hc;refine⟨d,c',h1,h2,h3,λw=>?_⟩;have h:=znJ a b c ⟨om9,om9⟩ ⟨om9,om9⟩ ⟨om9,om9⟩ w;rw [e1,e2] at h;exact h
theorem muladd0 (p q r:Nat)(hp:p<18446744073709551616)(hq:q<18446744073709551616)(hr:r<18446744073709551616)(w:World):
  Calls prog 165 #[.int .u64 p,.int .u64 q,.int .u64 r,.int .u64 0] w λe w'=>e=.returned (.tuple #[.int .u64 (((p*q+r+0) / 18446744073709551616:Nat):Int),.int .u64 (((p*q+r+0)%18446744073709551616:Nat):Int)])/\w=w':=
 zjz p q r 0 hp hq hr de9 w
def TakesR (w:World)(ty:TypeId)(g cap N m t:Nat)(A p C Ld:List Nat)(e:Ending)(w':World):Prop:=
 ∃(b:Nat) (p':List Nat),e=.returned (.bool (b==1))/\b<=1/\p'.length=m+1/\Dgs 18446744073709551616 p'/\dv 18446744073709551616 p'+t*dv 18446744073709551616 Ld=dv 18446744073709551616 p+18446744073709551616^(m+1)*b/\zaq w' ty g cap N (A++p'++C)/\Off g w w'
theorem zki (ty:TypeId)(g cap N k m c1 cd t:Nat)(ad:Addr)(A p C Ld:List Nat)(w:World)(hR:zaq w ty g cap N (A++p++C))(hA:A.length=k)(hp:p.length=m+1)(L:Dgs 18446744073709551616 p)
  (hD:zaw w g 1 (some ad) m (zaF .u64 Ld)) (I:Dgs 18446744073709551616 Ld) (hm2:m<=1099511627776) (hc1:m+1<=c1) (hc:c1<=9223372036854775807) (hcd:m<=cd) (hcd2:cd<=9223372036854775807) (ht:t<18446744073709551616):
  Calls prog 237 #[.slice (some ⟨g,k,none⟩) (m+1) c1,.slice (some ad) m cd,.int .u64 t] w (TakesR w ty g cap N m t A p C Ld):=by
 have F:=hR.len;have J:=hD.len_;have HA:=lh9 hA;have HP:=lh9 hp;have l:=lh9 (show k+(m+1)<=N by simp at F;omega);have M:=lh9 J;have E:=lh9 I;have HI:=lh9 (zhd.start Ld t L);have HO:=Off.refl g w;clear hA hp F J I L;go_enter func237,ntmps237;go_wp2_with fail
 go_loopg [7,8,16] (m+1) (λgg cy bo ix wr=>∃(i cc bb:Nat) (q:List Nat),i<=m/\m<gg+i/\ix=.int .i64 i/\cy=.int .u64 cc/\bo=.int .u64 bb/\zhd p Ld t i q cc bb/\zaq wr ty g cap N (A++q++C)/\Off g w wr/\zaw wr g 1 (some ad) m (zaF .u64 Ld))
 case atStart=>exact⟨0,0,0,p,Nat.zero_le _,om9,rfl,rfl,rfl,HI.out,hR,HO,hD⟩
 case round=>
  clear hR HI HO hD;obtain⟨i,cc,bb,q,him,hgg,rfl,rfl,rfl,hI,hR,hO,hD⟩:=hrel;have c:=hI.len;by_cases hlt:i<m
  ·obtain⟨ad',e,hadb,h1⟩:=zdy hD (k:=i) hlt;cases e;have Q:=E.out.getD de9 i;have h2:=hR.cell (k+i) (by have:=l.out;omega);rw [zhq HA.out (by rw [c,HP.out];omega)] at h2;have h3:=hR.frozen (k+i);have R:=hI.carry;have j:=hI.dgs.getD de9 i;obtain⟨b,r⟩:∃b,Ld.getD i 0=b:=⟨_,rfl⟩;have v:=λw'=>muladd0 b t cc (by rw [<-r];exact Q) ht R w';obtain⟨d,b',D,o,hx,hS⟩:=zkV (q.getD i 0) ((b*t+cc+0)%18446744073709551616) bb j (Nat.mod_lt _ de9) hI.lack;have f:=lh9 (hI.step (s:=Ld.getD i 0*t+cc+0) (d:=d) (b':=b') ht E.out (by rw [HP.out];omega) rfl D o (by rw [r];exact hx));have a:=hR.set_ (k+i) d (by have:=l.out;omega);rw [ziK HA.out (by rw [c,HP.out];omega)] at a;have z:=lh9 a;have y:=lh9 (λu=>hO.set_ (k+i) u);have O:=lh9 (λu=>hD.setCell (p:=⟨g,k+i,none⟩) (Nat.le_refl _) u);rw [r] at h1 f;obtain⟨pv,h⟩:∃b,q.getD i 0=b:=⟨_,rfl⟩;rw [h] at h2 hS;obtain⟨s1,e1⟩:∃s1,(b*t+cc+0)%18446744073709551616=s1:=⟨_,rfl⟩;obtain⟨s2,e2⟩:∃s2,(b*t+cc+0) / 18446744073709551616=s2:=⟨_,rfl⟩;rw [e1,e2] at v;rw [e1] at hS;rw [e2] at f;have P:=lh9 v;have n:=lh9 hS;have i1:(0:Int)<=(i:Int):=om9;have i2:(i:Int)<(m:Int):=om9;have i3:(i:Int)<(m:Int)+1:=om9;have i4:i<m+1:=om9;clear v hS hx h e1 e2 r hI hR hO hD j a c;go_wp2_with (first|(go_at_call 165;(with_reducible refine(P.out _).mono ?_);rintro e w' ⟨rfl,rfl⟩)|(go_at_call 231;(with_reducible refine(n.out _).mono ?_);rintro e w' ⟨rfl,rfl⟩));go_roundg (m - i)
   case measure=>omega
   case rel=>exact⟨i+1,s2,b',_,om9,om9,by go_num,rfl,rfl,f.out,z.out,y.out _,O.out _⟩
  ·have K:i=m:=om9;subst K;have h2:=hR.cell (k+i) (by have:=l.out;omega);rw [zhq HA.out (by rw [c,HP.out];omega)] at h2;have h3:=hR.frozen (k+i);have j:=hI.dgs.getD de9 i;obtain⟨d,b',D,o,hx,hS⟩:=zkV (q.getD i 0) cc bb j hI.carry hI.lack;have f:=lh9 (hI.last (d:=d) (b':=b') (by rw [HP.out]) (by rw [M.out]) D o hx);have a:=hR.set_ (k+i) d (by have:=l.out;omega);rw [ziK HA.out (by rw [c,HP.out];omega)] at a;have z:=lh9 a;have y:=lh9 (hO.set_ (k+i) (.int .u64 (d:Int)));obtain⟨pv,h⟩:∃b,q.getD i 0=b:=⟨_,rfl⟩;rw [h] at h2 hS;have n:=lh9 hS;have i1:(0:Int)<=(i:Int):=om9;have i3:(i:Int)<(i:Int)+1:=om9;have i4:i<i+1:=om9;clear hS hx h hI hR hO hD j a c;have G:∀B:Bool,B=(b'==1)->TakesR w ty g cap N i t A p C Ld (.returned (.bool B)) (wr.setCell ⟨g,k+i,none⟩ (.int .u64 (d:Int))):=λB H=>by
    obtain⟨g1,g2,g3⟩:=f.out;rw [HP.out] at g1 g3;exact⟨b',_,by rw [H],o,g1,g2,g3,z.out,y.out⟩
   have HG:=lh9 G;clear G;rcases (show b'=0\/b'=1 by omega) with rfl|rfl
   ·go_wp2_with (go_at_call 231;(with_reducible refine(n.out _).mono ?_);rintro e w' ⟨rfl,rfl⟩);go_ret;exact HG.out _ rfl
   ·go_wp2_with (go_at_call 231;(with_reducible refine(n.out _).mono ?_);rintro e w' ⟨rfl,rfl⟩);go_ret;exact HG.out _ rfl
def BacksR (w:World)(ty:TypeId)(g cap N m:Nat)(A p C Ld:List Nat)(e:Ending)(w':World):Prop:=
 ∃(v:Value) (p':List Nat),e=.returned v/\p'.length=m+1/\Dgs 18446744073709551616 p'/\dv 18446744073709551616 p'=(dv 18446744073709551616 p+dv 18446744073709551616 Ld)%18446744073709551616^(m+1)/\zaq w' ty g cap N (A++p'++C)/\Off g w w'
theorem zlH (ty:TypeId)(g cap N k m c1 cd:Nat)(ad:Addr)(A p C Ld:List Nat)(w:World)(hR:zaq w ty g cap N (A++p++C))(hA:A.length=k)(hp:p.length=m+1)(F:Dgs 18446744073709551616 p)
  (hD:zaw w g 1 (some ad) m (zaF .u64 Ld)) (B:Dgs 18446744073709551616 Ld) (hm2:m<=1099511627776) (hc1:m+1<=c1) (hc:c1<=9223372036854775807) (hcd:m<=cd) (hcd2:cd<=9223372036854775807):
  Calls prog 238 #[.slice (some ⟨g,k,none⟩) (m+1) c1,.slice (some ad) m cd] w (BacksR w ty g cap N m A p C Ld):=by
 have t:=hR.len;have D:=hD.len_;have HA:=lh9 hA;have HP:=lh9 hp;have j:=lh9 (show k+(m+1)<=N by simp at t;omega);have H:=lh9 D;have r:=lh9 B;have HI:=lh9 (zgZ.start Ld F);have HO:=Off.refl g w;clear hA hp t D B F;go_enter func238,ntmps238;go_wp2_with fail
 go_loopg [4,10] (m+1) (λgg cy ix wr=>∃(i cc:Nat) (q:List Nat),i<=m/\m<gg+i/\ix=.int .i64 i/\cy=.int .u64 cc/\zgZ p Ld i q cc/\zaq wr ty g cap N (A++q++C)/\Off g w wr/\zaw wr g 1 (some ad) m (zaF .u64 Ld))
 case atStart=>exact⟨0,0,p,Nat.zero_le _,om9,rfl,rfl,HI.out,hR,HO,hD⟩
 case round=>
  clear hR HI HO hD;obtain⟨i,cc,q,him,hgg,rfl,rfl,hI,hR,hO,hD⟩:=hrel;have f:=hI.len;by_cases hlt:i<m
  ·obtain⟨ad',e,hadb,h1⟩:=zdy hD (k:=i) hlt;cases e;have y:=r.out.getD de9 i;have h2:=hR.cell (k+i) (by have:=j.out;omega);rw [zhq HA.out (by rw [f,HP.out];omega)] at h2;have h3:=hR.frozen (k+i);have o:=hI.carry;have d:=hI.dgs.getD de9 i;have a:=hI.step (s:=q.getD i 0+Ld.getD i 0+cc) r.out (by rw [HP.out];omega) rfl;obtain⟨b,z⟩:∃b,Ld.getD i 0=b:=⟨_,rfl⟩;obtain⟨pv,h⟩:∃b,q.getD i 0=b:=⟨_,rfl⟩;rw [z] at h1 y a;rw [h] at h2 d a;have hS:=λw=>zlk pv b cc d y o w;have c:=hR.set_ (k+i) ((pv+b+cc)%18446744073709551616) (by have:=j.out;omega);rw [ziK HA.out (by rw [f,HP.out];omega)] at c;obtain⟨s1,e1⟩:∃s1,(pv+b+cc)%18446744073709551616=s1:=⟨_,rfl⟩;obtain⟨s2,e2⟩:∃s2,(pv+b+cc) / 18446744073709551616=s2:=⟨_,rfl⟩;rw [e1,e2] at hS a;rw [e1] at c;have a:=lh9 a;have J:=lh9 c;have l:=lh9 (λu=>hO.set_ (k+i) u);have I:=lh9 (λu=>hD.setCell (p:=⟨g,k+i,none⟩) (Nat.le_refl _) u);have n:=lh9 hS;have i1:(0:Int)<=(i:Int):=om9;have i2:(i:Int)<(m:Int):=om9;have i3:(i:Int)<(m:Int)+1:=om9;have i4:i<m+1:=om9;clear hS h e1 e2 z hI hR hO hD d c f;go_wp2_with (go_at_call 230;(with_reducible refine(n.out _).mono ?_);rintro e w' ⟨rfl,rfl⟩);go_roundg (m - i)
   case measure=>omega
   case rel=>exact⟨i+1,s2,_,om9,om9,by go_num,rfl,a.out,J.out,l.out _,I.out _⟩
  ·have E:i=m:=om9;subst E;have h2:=hR.cell (k+i) (by have:=j.out;omega);rw [zhq HA.out (by rw [f,HP.out];omega)] at h2;have h3:=hR.frozen (k+i);have o:=hI.carry;have d:=hI.dgs.getD de9 i;have a:=hI.last (s:=q.getD i 0+0+cc) (by rw [HP.out]) (by rw [H.out]) rfl;obtain⟨pv,h⟩:∃b,q.getD i 0=b:=⟨_,rfl⟩;rw [h] at h2 d a;have hS:∀w,Calls prog 230 #[.int .u64 pv,.int .u64 0,.int .u64 cc] w λe w'=>e=.returned (.tuple #[.int .u64 (((pv+0+cc)%18446744073709551616:Nat):Int),.int .u64 (((pv+0+cc) / 18446744073709551616:Nat):Int)])/\w=w':=λw=>zlk pv 0 cc d de9 o w;have c:=hR.set_ (k+i) ((pv+0+cc)%18446744073709551616) (by have:=j.out;omega);rw [ziK HA.out (by rw [f,HP.out];omega)] at c;obtain⟨s1,e1⟩:∃s1,(pv+0+cc)%18446744073709551616=s1:=⟨_,rfl⟩;obtain⟨s2,e2⟩:∃s2,(pv+0+cc) / 18446744073709551616=s2:=⟨_,rfl⟩;rw [e1] at a c;rw [e1,e2] at hS;have n:=lh9 hS;have l:=lh9 (hO.set_ (k+i) (.int .u64 (s1:Int)));have i1:(0:Int)<=(i:Int):=om9;have i3:(i:Int)<(i:Int)+1:=om9;have i4:i<i+1:=om9;have G:∀v:Value,BacksR w ty g cap N i A p C Ld (.returned v) (wr.setCell ⟨g,k+i,none⟩ (.int .u64 (s1:Int))):=λv=>by
    obtain⟨g1,g2,g3⟩:=a;rw [HP.out] at g1 g3;exact⟨v,_,rfl,g1,g2,g3,c,l.out⟩
   have HG:=lh9 G;clear G hS h hI hR hO hD d c f e1 e2 a;go_wp2_with (go_at_call 230;(with_reducible refine(n.out _).mono ?_);rintro e w' ⟨rfl,rfl⟩)
   go_end0
   exact HG.out _
def OutR (w:World)(ty:TypeId)(g cap N m:Nat)(A p C Ld:List Nat)(e:Ending)(w':World):Prop:=
 ∃p':List Nat,e=.returned (.int .u64 ((dv 18446744073709551616 p / dv 18446744073709551616 Ld:Nat):Int))/\p'.length=m+1/\Dgs 18446744073709551616 p'/\dv 18446744073709551616 p'=dv 18446744073709551616 p%dv 18446744073709551616 Ld/\zaq w' ty g cap N (A++p'++C)/\Off g w w'
theorem zlJ (ty:TypeId)(g cap N k m c1 cd:Nat)(ad:Addr)(A p C Ld:List Nat)(w:World)(hR:zaq w ty g cap N (A++p++C))(hA:A.length=k)(hp:p.length=m+1)(o:Dgs 18446744073709551616 p)
  (hD:zaw w g 1 (some ad) m (zaF .u64 Ld)) (c:Dgs 18446744073709551616 Ld) (hm:2<=m) (H:m<=1099511627776) (B:m+1<=c1) (hc:c1<=9223372036854775807) (F:m<=cd) (f:cd<=9223372036854775807)
  (J:18446744073709551616<=2*Ld.getD (m - 1) 0) (Z:dv 18446744073709551616 p<18446744073709551616*dv 18446744073709551616 Ld):
  Calls prog 229 #[.slice (some ⟨g,k,none⟩) (m+1) c1,.slice (some ad) m cd] w (OutR w ty g cap N m A p C Ld):=by
 have S:=hR.len;have L:=hD.len_;have hg:=hR.lt;have ar:k+(m+1)<=N:=by simp at S;omega
 obtain⟨j,rfl⟩:∃j,m=j+2:=⟨m - 2,om9⟩;have T:=two_of (m:=j) o c hp L J Z;have u:=hR.cell (k+(j+2)) om9;have y:=hR.cell (k+(j+1)) om9;rw [zhq hA om9] at u y;obtain⟨am,e,Y,d1⟩:=zdy hD (k:=j+1) om9;cases e;obtain⟨am,e,_,d2⟩:=zdy hD (k:=j) om9;cases e;have b1:=o.getD de9 (j+2);have b2:=o.getD de9 (j+1);have b3:=c.getD de9 (j+1);have b4:=c.getD de9 j;have GL:=guess_le T rfl b2;have HG:Calls prog 236 #[.slice (some ⟨g,k,none⟩) (j+2+1) c1,.slice (some ad) (j+2) cd] w (SaysU w (zdS (p.getD (j+2) 0) (p.getD (j+1) 0) (Ld.getD (j+1) 0) (Ld.getD j 0))):=by
  by_cases hc:p.getD (j+2) 0<Ld.getD (j+1) 0
  ·exact guess_in g k (j+2) c1 cd ad _ _ _ _ w om9 H B ‹_› F f u y d1 d2 b1 b2 b3 b4 hc
  ·exact guess_eq g k (j+2) c1 cd ad _ _ _ _ w om9 H B ‹_› F f u y d1 d2 b1 b2 b3 b4 hc
 obtain⟨t,ae⟩:∃t,zdS (p.getD (j+2) 0) (p.getD (j+1) 0) (Ld.getD (j+1) 0) (Ld.getD j 0)=t:=⟨_,rfl⟩;rw [ae] at HG GL;obtain⟨lo,up,tb⟩:=GL;have hS:=λn=>zki ty g cap N k (j+2) c1 cd t ad A p C Ld (w.drewN n) hR hA hp o hD c H B ‹_› F f tb;have M:=zcP o;rw [hp] at M;have I:=zcP c;rw [L] at I;have ah:=lh9 HG;have al:=lh9 hS;have K:=T.Dpos;have an:=lh9 (λw' q (au:zaq w' ty g cap N (A++q++C)) (hq:q.length=j+2+1) (d:Dgs 18446744073709551616 q) (ap:zaw w' g 1 (some ad) (j+2) (zaF .u64 Ld))=>zlH ty g cap N k (j+2) c1 cd ad A q C Ld w' au hA hq d ap c H B ‹_› F f);have HR:=lh9 (λX b'=>zpd (P:=dv 18446744073709551616 p) (D:=dv 18446744073709551616 Ld) (t:=t) (X:=X) (E:=18446744073709551616^(j+2+1)) (b':=b'));have HV:=lh9 (λX b'=>zrr (P:=dv 18446744073709551616 p) (D:=dv 18446744073709551616 Ld) (t:=t) (X:=X) (E:=18446744073709551616^(j+2+1)) (b':=b'));have aj:=lh9 (Nat.mod_lt (dv 18446744073709551616 p) K);have R:dv 18446744073709551616 Ld<=18446744073709551616^(j+2+1):=by
  have:18446744073709551616^(j+2)<=18446744073709551616^(j+2+1):=Nat.pow_le_pow_right de9 om9;omega
 have af:=lh9 R;have ak:=lh9 M;have aq:=lh9 (λn=>(Off.refl g w).drewN n);have ag:=lh9 (λw' (h:Off g w w')=>h.reads hD (Nat.le_of_lt hg));have O:=lh9 K;obtain⟨Q,hQ⟩:∃Q,dv 18446744073709551616 p / dv 18446744073709551616 Ld=Q:=⟨_,rfl⟩;have HQ:=lh9 hQ;have ai:=lh9 (show t=Q\/t=Q+1 by rw [hQ] at lo up;omega);clear HG hS hR hD o c T u y d1 d2 b1 b2 b3 b4 J Z hp hA ae Y K R M I hQ lo up L S ar;go_enter func229,ntmps229;go_wp2_with fail;refine ah.out.mono ?_;rintro e w1 ⟨rfl,n,rfl⟩;go_wp2_with fail;refine(al.out n).mono ?_;rintro e w2 ⟨b,q,rfl,hb,s,d,i,z,a⟩;have a:=(aq.out n).trans a;have l:=zcP d;rw [s] at l;rcases ai.out with ht|ht
 ·obtain⟨rfl,hX⟩:=HR.out _ _ (by rw [HQ.out];exact ht) O.out l i hb;have G:Hid (OutR w ty g cap N (j+2) A p C Ld (.returned (.int .u64 (t:Int))) w2):=⟨q,by rw [HQ.out,ht],s,d,hX,z,a⟩;clear z a hX l d i s ht hb;go_wp2;go_ret;exact G.out
 ·obtain⟨rfl,hX⟩:=HV.out _ _ (by rw [HQ.out];exact ht) O.out ak.out l i hb;have ao:=lh9 (znS hX aj.out l af.out);have HB:=lh9 (an.out w2 q z s d (ag.out _ a));have HT:=lh9 ht;have t2:0<t:=om9;have t3:IntKind.u64.wrap ((t:Int) - 1)=(t:Int) - 1:=by rw [IntKind.wrap_u64];omega
  clear z hX l d i s ht hb;go_wp2_with fail;refine HB.out.mono ?_;rintro e w3 ⟨v,r,rfl,ab,aa,ac,V,U⟩;have G:Hid (OutR w ty g cap N (j+2) A p C Ld (.returned (.int .u64 ((t:Int) - 1))) w3):=⟨r,by rw [HQ.out,HT.out];simp,ab,aa,by rw [ac];exact ao.out,V,a.trans U⟩;clear V U a ab aa ac;go_wp2;go_ret;exact G.out
def zeN (w:World)(ty:TypeId)(N X:Nat)(e:Ending)(w':World):Prop:=
 ∃(g:Nat) (L:List Nat),e=.returned (.slice (some ⟨g,0,none⟩) N N)/\w.heap.size<=g/\zaq w' ty g N N L/\Dgs 18446744073709551616 L/\dv 18446744073709551616 L=X/\Below w.heap.size w w'
theorem dv_pad (b:Nat)(l:List Nat)(n:Nat):dv b (l++List.replicate n 0)=dv b l:=by rw [zbA,zeT,Nat.mul_zero,Nat.add_zero]
theorem zit (x up N:Nat)(A:oA9)(n c:Nat)(w:World)(hA:zad w x A n c)(hn:n<=274877906944)(O:up<=63)(hN:(dg 18446744073709551616 (2^up*x)).length<=N)(hN2:N<=549755813888):
  Calls prog 228 #[.agg #[.slice A n c],.int .i64 up,.int .i64 N] w (zeN w 160 N (2^up*x)):=by
 obtain⟨i0,E,P,F,Q⟩:=info_parts zgD;have HS:=up9 w (λw' hb=>zpF x up A n c w' (hA.below hb) om9 om9);obtain⟨y,hy⟩:∃y,2^up*x=y:=⟨_,rfl⟩;rw [hy] at HS hN⊢;have HW:=lh9 (λw' A' n' c' (h:zad w' y A' n' c') (hb:n'<=1099511627776)=>zds y A' n' c' w' h hb);have HN:=lh9 hN;obtain⟨Z,hZ⟩:∃Z,madeCells (Value.cells (.int .u64 0)) N=Z:=⟨_,rfl⟩;have B:Hid (Z=(zaF .u64 (List.replicate N 0)).toArray):=by
  show _=_;have h:Z.toList=zaF .u64 (List.replicate N 0):=by
   rw [<-hZ];exact(toList_madeCells_one _ _).trans (by simp [zaF])
  rw [<-h]
 have L:∀W:World,(Instr.makeSlice 35 (.int .i64 (N:Int)) (.int .i64 (N:Int))).run prog W=.ok (.slice (some ⟨W.heap.size,0,none⟩) N N) (W.alloc (.cells Z 160)):=λW=>by
  have h:=zbf _ _ i0 _ underlying35 E P .i64 .i64 N N (Nat.le_refl _) (by rw [Q];omega) om9 W;rw [F,Nat.mul_one,hZ] at h;exact h
 clear hZ hA hN hy O;go_enter func228,ntmps228;go_wp2_with fail;generalize hW:w.alloc (.cells #[.slice A n c] 37)=W0;obtain⟨b1,b2,b5⟩:=zax w 37 #[.slice A n c];rw [hW] at b1 b2 b5;clear hW b2;refine(HS.out _ b1).mono ?_;rintro e w1 ⟨A1,n1,c1,rfl,i,hb,J⟩;have hB:=zaa b1 hb;clear hb b1 b5;obtain⟨d1,d2,d5⟩:=zax w1 37 #[.slice A1 n1 c1];have d0:=hB.size;have hB:=zaa hB d1;have i:=i.below d1;have g1:(w1.alloc (.cells #[.slice A1 n1 c1] 37)).cell? ⟨w1.heap.size,0,none⟩=some (.slice A1 n1 c1):=d2.cell 0;clear d1 d2 d5 J;go_wp2_with fail;have t:=i.below ((Below.refl _ (w1.alloc (.cells #[.slice A1 n1 c1] 37))).alloc (Nat.le_refl _) (.cells Z 160));have hz:=Blk.new (w1.alloc (.cells #[.slice A1 n1 c1] 37)) 160 Z;have hB:=zaj (.cells Z 160) hB;have f:w.heap.size<=(w1.alloc (.cells #[.slice A1 n1 c1] 37)).heap.size:=by have:=hB.size;simp at this⊢;have:=d0;omega
 rw [show(w1.alloc (.cells #[.slice A1 n1 c1] 37)).heap.size=w1.heap.size+1 from by simp] at hz f;obtain⟨gs,C⟩:∃g,w1.heap.size+1=g:=⟨_,rfl⟩;rw [C] at hz f⊢;generalize (w1.alloc (.cells #[.slice A1 n1 c1] 37)).alloc (.cells Z 160)=W2 at*;clear C i g1 L;have s:=t.len;have M:n1<=N:=by have:=HN.out;omega
 refine(HW.out _ A1 n1 c1 t om9).mono ?_;rintro e w3 ⟨A2,c2,rfl,a,_,⟨_,K⟩,hb⟩;have hB:=zaa hB hb;have hz:=zab hb hz;rw [B.out] at hz;rw [s] at a;rw [s];have m:=a.len_;have l:=zcY (b:=18446744073709551616) de9 y;have r:=zdF (b:=18446744073709551616) de9 y;obtain⟨D,hD⟩:∃D,dg 18446744073709551616 y=D:=⟨_,rfl⟩;rw [hD] at a m l r;have k:0<(zaF .u64 D).length->∃ad,A2=some ad/\∀j v,(zaF .u64 D)[j]?=some v->w3.cell? (ad.add j)=some v:=λh=>by
  rw [zaL] at h;obtain⟨ad,e,_,hc⟩:=a.2 om9;exact⟨ad,e,hc⟩
 have u:=lh9 k;have z:Hid (∀w4,Hid (w4.heap[gs]?=some (.cells (splice (zaF .u64 (List.replicate N 0)) 0 (zaF .u64 D)).toArray 160 (0,0)))->Below w.heap.size w w4->zeN w 160 N y (.returned (.slice (some ⟨gs,0,none⟩) N N)) w4):=λw4 h4 d=>by
  have e:splice (zaF .u64 (List.replicate N 0)) 0 (zaF .u64 D)=zaF .u64 (D++List.replicate (N - n1) 0):=by
   unfold splice;rw [List.take_zero,List.nil_append,Nat.zero_add,zaL,zru,m,List.drop_replicate,<-zeE]
  rw [e] at h4;refine⟨gs,D++List.replicate (N - n1) 0,rfl,f,⟨_,h4.out,Nat.le_refl _,by unfold maxLen;omega,by simp [zaL];omega,by simp;omega,?_⟩,l.append (Dgs.zeros de9 _),by rw [dv_pad,r],d⟩;show(zaF .u64 (D++List.replicate (N - n1) 0)).take N=_;rw [List.take_of_length_le (by rw [zaL];simp;omega)]
 have I:=lh9 hz;have H:=lh9 hB;clear hz hB k l r hD a K hb s t B;have hu:=underlying35;go_wp2_with ((with_reducible show wpList _ _ _ _ _ _);refine wpList_copy_splice (o:=⟨some 21,_,_,_,_,_⟩) rfl (.tmp 18) (.tmp 20) 35 35 rfl 160 hu (by rw [E];simp [F]) (some ⟨gs,0,none⟩) A2 N N n1 c2 rfl rfl gs 0 (zaF .u64 (List.replicate N 0)) 160 I.out (zaF .u64 D) (by rw [zaL,m];exact(Nat.min_eq_left M).symm) (λh=>⟨rfl,u.out h⟩) (by rw [zaL,zaL];simp;omega) (zhF _ _) w.heap.size w H.out f ?_;intro w4 h4 d);have G:=lh9 (z.out w4 h4 d);clear h4 d;go_wp2;go_ret;exact G.out
theorem norm_up {d m:Nat}(hd:(dg 18446744073709551616 d).length=m+1):∃up:Nat,(64 - zgT ((wd d m:Nat):Int)=(up:Int))/\up<=63/\2^up*d<18446744073709551616^(m+1)/\18446744073709551616<=2*(2^up*d / 18446744073709551616^m):=by
 obtain⟨h1,h2,_⟩:=zii hd;have h3:=zcs d m;obtain⟨up,e,hu,c,f⟩:=zmN ((wd d m:Nat):Int) om9 om9;refine⟨up,e,hu,?_,?_⟩
 ·obtain⟨t,ht⟩:∃t,wd d m=t:=⟨_,rfl⟩;rw [ht] at h1 f;have h4:t*2^up<2^(64 - up)*2^up:=by
   rw [<-Nat.pow_add,show 64 - up+up=64 from by omega];have:((t*2^up:Nat):Int)<((2^64:Nat):Int):=by
    rw [Int.natCast_mul,Int.natCast_pow];exact f
   omega
  have h5:t+1<=2^(64 - up):=Nat.lt_of_mul_lt_mul_right h4;have h6:d<(t+1)*18446744073709551616^m:=by
   have:=Nat.lt_div_mul_add (a:=d) (b:=18446744073709551616^m) (Nat.pow_pos de9);rw [<-h1] at this;rw [Nat.add_mul,Nat.one_mul];exact this
  have h7:d<2^(64 - up)*18446744073709551616^m:=Nat.lt_of_lt_of_le h6 (Nat.mul_le_mul_right _ h5);have h8:2^up*d<2^up*(2^(64 - up)*18446744073709551616^m):=(Nat.mul_lt_mul_left (Nat.two_pow_pos up)).2 h7;rw [<-Nat.mul_assoc,<-Nat.pow_add,show up+(64 - up)=64 from by omega] at h8;rw [Nat.pow_succ'];exact h8
 ·rw [h1] at c;obtain⟨t,ht⟩:∃t,d / 18446744073709551616^m=t:=⟨_,rfl⟩;rw [ht] at c;have h4:t*2^up<=2^up*d / 18446744073709551616^m:=by
   refine(Nat.le_div_iff_mul_le (Nat.pow_pos de9)).2 ?_;rw [Nat.mul_comm t,Nat.mul_assoc,<-ht];exact Nat.mul_le_mul_left _ (Nat.div_mul_le_self _ _)
  have h5:((9223372036854775808:Nat):Int)<=((t*2^up:Nat):Int):=by
   rw [Int.natCast_mul,Int.natCast_pow];exact c
  omega
theorem norm_len {x n up:Nat}(hx:(dg 18446744073709551616 x).length=n)(hu:up<=63):(dg 18446744073709551616 (2^up*x)).length<=n+1:=by
 have h:=zbP (b:=18446744073709551616) de9 x;rw [hx] at h;refine zcH de9 _ _ ?_;rw [Nat.pow_succ'];exact Nat.mul_lt_mul'' (Nat.lt_of_le_of_lt (Nat.pow_le_pow_right de9 hu) de9) h
theorem zoH {x d n m k up:Nat}(hx:(dg 18446744073709551616 x).length=n)(hd:(dg 18446744073709551616 d).length=m+1)(hk:m+k=n):2^up*x / 18446744073709551616^k<2^up*d:=by
 refine(Nat.div_lt_iff_lt_mul (Nat.pow_pos de9)).2 ?_;have h:=zbP (b:=18446744073709551616) de9 x;rw [hx,<-hk,Nat.pow_add] at h;have h0:d≠0:=λe=>by rw [e,zew] at hd;simp at hd
 have h2:=(dg_ge (b:=18446744073709551616) de9 d h0).2;rw [hd,Nat.add_sub_cancel] at h2;rw [Nat.mul_assoc];refine(Nat.mul_lt_mul_left (Nat.two_pow_pos up)).2 ?_;exact Nat.lt_of_lt_of_le h (Nat.mul_le_mul_right _ h2)
theorem norm_top {D m:Nat}{L:List Nat}(hl:L.length=m+1)(hd:Dgs 18446744073709551616 L)(hv:dv 18446744073709551616 L=D)(h:18446744073709551616<=2*(D / 18446744073709551616^m)):18446744073709551616<=2*L.getD m 0:=by
 rw [zfl de9 hd,hv];have h1:=zcP hd;rw [hl,hv,Nat.pow_succ] at h1;have h2:D / 18446744073709551616^m<18446744073709551616:=(Nat.div_lt_iff_lt_mul (Nat.pow_pos de9)).2 (by rw [Nat.mul_comm];exact h1);rw [Nat.mod_eq_of_lt h2];exact h
theorem zqM (x d up:Nat):2^up*x / (2^up*d)=x / d/\2^up*x%(2^up*d) / 2^up=x%d:=by
 refine⟨Nat.mul_div_mul_left _ _ (Nat.two_pow_pos up),?_⟩;rw [Nat.mul_mod_mul_left,Nat.mul_div_cancel_left _ (Nat.two_pow_pos up)]
