/- What this claim leans on. -/
import Derived.Test.YtghpdeciaaagnaaGreatDoorIBun3
import Derived.Test.YtghpdeciaaagnaaGreatDoorIBunS
import Derived.Laws.CopyOwn
import Derived.RangeFuncBox
namespace Go.Proofs.YtghpdeciaaagnaaGreatDoor
open Go Go.RowKit
set_option maxHeartbeats 16000000
set_option maxRecDepth 100000
set_option linter.unusedVariables false
def zcb (u2 u1 h:Nat):Nat:=if u2<h then(u2*18446744073709551616+u1) / h else 18446744073709551615
def zdX (u2 u1 h:Nat):Nat:=if u2<h then(u2*18446744073709551616+u1)%h else u1+h
def zdK (u2 u1 h v:Nat):Nat:=if zdX u2 u1 h<zcb u2 u1 h*v / 18446744073709551616/\zdX u2 u1 h<18446744073709551616 then zcb u2 u1 h - 1 else zcb u2 u1 h
theorem zkL {u2 u1 h:Nat}(hu:u1<18446744073709551616):zcb u2 u1 h<18446744073709551616:=by
 unfold zcb
 split
 ·rename_i hc
  refine(Nat.div_lt_iff_lt_mul (by omega)).2 ?_
  have:(u2+1)*18446744073709551616<=h*18446744073709551616:=Nat.mul_le_mul_right _ hc
  rw [Nat.mul_comm _ h]
  omega
 ·decide
theorem guess_le {P D U h v M u2 u1:Nat}(H:Two P D U h v M)(hU:U=u2*18446744073709551616+u1)(hu:u1<18446744073709551616):P / D<=zdK u2 u1 h v/\zdK u2 u1 h v<=P / D+1/\zdK u2 u1 h v<18446744073709551616:=by
 have hh:=H.hh
 have ht:=H.top
 have hq:=H.q.2.2
 have tb:=zkL (u2:=u2) (h:=h) hu
 have e:zcb u2 u1 h*h+zdX u2 u1 h=U:=by
  unfold zcb zdX
  split
  ·rw [hU,Nat.mul_comm _ h,Nat.div_add_mod]
  ·obtain rfl:u2=h:=by rw [hU] at ht;omega
   rw [hU];omega
 have lo:P / D<=zcb u2 u1 h:=by
  unfold zcb
  split
  ·rw [<-hU]
   exact(Nat.le_div_iff_mul_le (by omega)).2 H.le
  ·omega
 have up:zcb u2 u1 h<=P / D+2:=H.two (by omega) tb
 obtain⟨t,hte⟩:∃t,zcb u2 u1 h=t:=⟨_,rfl⟩
 obtain⟨r,hre⟩:∃r,zdX u2 u1 h=r:=⟨_,rfl⟩
 unfold zdK
 rw [hte] at lo up tb e
 rw [hre] at e
 rw [hte,hre]
 obtain⟨q,hqe⟩:∃q,P / D=q:=⟨_,rfl⟩
 have vb:=H.vb
 have h2:t*v / 18446744073709551616<18446744073709551616:=by
  refine(Nat.div_lt_iff_lt_mul (by decide)).2 ?_
  exact Nat.lt_of_le_of_lt (Nat.mul_le_mul (show t<=18446744073709551615 by omega) (show v<=18446744073709551615 by omega)) (by decide)
 have d1:=H.dec (t:=t) (r:=r) e
 have d2:=H.one (t:=t) (r:=r) e tb
 rw [hqe] at lo up hq d1 d2⊢
 obtain⟨x,hx⟩:∃x,t*v / 18446744073709551616=x:=⟨_,rfl⟩
 rw [hx] at h2
 split
 ·rename_i hc
  rw [hx] at hc
  have h1:=d1 ((Nat.le_div_iff_mul_le (by decide)).1 (by rw [hx];omega))
  clear d1 d2
  omega
 ·rename_i hc
  rw [hx] at hc
  have h1:=d2 ((Nat.div_lt_iff_lt_mul (by decide)).1 (by rw [hx];omega))
  clear d1 d2
  omega
theorem zpy (x y:Nat)(hx:x<18446744073709551616)(hy:y<18446744073709551616)(w:World):
  Calls Tryz.prog 239 #[.int .u64 x,.int .u64 y] w λe w'=>e=.returned (.tuple #[.int .u64 ((x*y / 18446744073709551616:Nat):Int),.int .u64 ((x*y%18446744073709551616:Nat):Int)])/\w=w':=by
 have h:=word_mul x y ⟨by omega,by omega⟩ ⟨by omega,by omega⟩ w
 rw [show zeG (x:Int) (y:Int)=((x*y / 18446744073709551616:Nat):Int) from by unfold zeG;simp,show zcM (x:Int) (y:Int)=((x*y%18446744073709551616:Nat):Int) from by unfold zcM;simp] at h
 exact h
theorem zps (hi lo y:Nat)(h1:hi<y)(hy:y<18446744073709551616)(hl:lo<18446744073709551616)(w:World):
  Calls Tryz.prog 226 #[.int .u64 hi,.int .u64 lo,.int .u64 y] w λe w'=>e=.returned (.tuple #[.int .u64 (((hi*18446744073709551616+lo) / y:Nat):Int),.int .u64 (((hi*18446744073709551616+lo)%y:Nat):Int),.bool true])/\∃n,w'=w.drewN n:=by
 have h:=zmo hi lo y ⟨by omega,by omega⟩ (by omega) (by omega) ⟨by omega,by omega⟩ w
 rw [show divQ (hi:Int) (lo:Int) (y:Int)=(((hi*18446744073709551616+lo) / y:Nat):Int) from by unfold divQ;simp,show divR (hi:Int) (lo:Int) (y:Int)=(((hi*18446744073709551616+lo)%y:Nat):Int) from by unfold divR;simp] at h
 exact h
theorem zly (x y c:Nat)(hx:x<18446744073709551616)(hy:y<18446744073709551616)(hc:c<=1)(w:World):
  Calls Tryz.prog 230 #[.int .u64 x,.int .u64 y,.int .u64 c] w λe w'=>e=.returned (.tuple #[.int .u64 (((x+y+c)%18446744073709551616:Nat):Int),.int .u64 (((x+y+c) / 18446744073709551616:Nat):Int)])/\w=w':=by
 have h:=znH x y c ⟨by omega,by omega⟩ ⟨by omega,by omega⟩ ⟨by omega,by omega⟩ w
 rw [zkC hc,zkB hc] at h
 exact h
def SaysU (w:World)(t:Nat)(e:Ending)(w':World):Prop:=e=.returned (.int .u64 (t:Int))/\∃n,w'=w.drewN n
theorem guess_in (g k m c1 cd:Nat)(ad:Addr)(u2 u1 h v:Nat)(w:World)(hm:2<=m)(hm2:m<=1099511627776)(hc1:m+1<=c1)(hc:c1<=9223372036854775807)(hcd:m<=cd)(hcd2:cd<=9223372036854775807)
  (hU2:w.cell? ⟨g,k+m,none⟩=some (.int .u64 (u2:Int))) (hU1:w.cell? ⟨g,k+(m - 1),none⟩=some (.int .u64 (u1:Int))) (hH:w.cell? (ad.add (m - 1))=some (.int .u64 (h:Int))) (hV:w.cell? (ad.add (m - 2))=some (.int .u64 (v:Int)))
  (u2b:u2<18446744073709551616) (u1b:u1<18446744073709551616) (hb:h<18446744073709551616) (vb:v<18446744073709551616) (hlt:u2<h):
  Calls Tryz.prog 236 #[.slice (some ⟨g,k,none⟩) (m+1) c1,.slice (some ad) m cd] w (SaysU w (zdK u2 u1 h v)):=by
 have et:zcb u2 u1 h=(u2*18446744073709551616+u1) / h:=if_pos hlt
 have er:zdX u2 u1 h=(u2*18446744073709551616+u1)%h:=if_pos hlt
 have rb:(u2*18446744073709551616+u1)%h<18446744073709551616:=Nat.lt_trans (Nat.mod_lt _ (by omega)) hb
 have tb:=zkL (u2:=u2) (h:=h) u1b
 have HD:=λw=>zps u2 u1 h hlt hb u1b w
 have HM:=λw=>zpy (zcb u2 u1 h) v tb vb w
 have HN:zdK u2 u1 h v=if zdX u2 u1 h<zcb u2 u1 h*v / 18446744073709551616/\zdX u2 u1 h<18446744073709551616 then zcb u2 u1 h - 1 else zcb u2 u1 h:=rfl
 rw [et,er] at HN
 rw [et] at HM tb
 clear et er
 obtain⟨t,ht⟩:∃t,(u2*18446744073709551616+u1) / h=t:=⟨_,rfl⟩
 obtain⟨r,hr⟩:∃r,(u2*18446744073709551616+u1)%h=r:=⟨_,rfl⟩
 rw [ht,hr] at HD HN
 rw [hr] at rb
 rw [ht] at HM tb
 obtain⟨nd,hnd⟩:∃nd,t*v / 18446744073709551616=nd:=⟨_,rfl⟩
 obtain⟨nl,hnl⟩:∃nl,t*v%18446744073709551616=nl:=⟨_,rfl⟩
 rw [hnd,hnl] at HM
 rw [hnd] at HN
 have hnt:nd<=t:=by
  rw [<-hnd]
  refine Nat.le_trans (Nat.div_le_div_right (Nat.mul_le_mul_left t (Nat.le_of_lt vb))) ?_
  rw [Nat.mul_div_cancel _ (by decide)]
  exact Nat.le_refl _
 have HDH:=lh9 HD
 have HMH:=lh9 HM
 obtain⟨GN,hGN⟩:∃GN,zdK u2 u1 h v=GN:=⟨_,rfl⟩
 rw [hGN] at HN⊢
 have hJ:IntKind.i64.wrap ((m:Int) - 1)=(m:Int) - 1/\IntKind.i64.wrap ((m:Int) - 2)=(m:Int) - 2:=⟨IntWalk.i64_in _ (by omega),IntWalk.i64_in _ (by omega)⟩
 have hK:((m:Int) - 1).toNat=m - 1/\((m:Int) - 2).toNat=m - 2:=⟨by omega,by omega⟩
 have hL:(0:Int)<=(m:Int) - 1/\(m:Int) - 1<(m:Int)/\(0:Int)<=(m:Int) - 2/\(m:Int) - 2<(m:Int)/\(m:Int)<(m:Int)+1/\(m:Int) - 1<(m:Int)+1:=by omega
 obtain⟨l1,l2,l3,l4,l5,l6⟩:=hL
 by_cases hc:r<nd
 ·rw [if_pos ⟨hc,rb⟩] at HN
  have HG:=lh9 HN
  have t1:decide ((r:Int)<(nd:Int))=true:=by simpa using hc
  have t2:0<t:=by omega
  have t3:IntKind.u64.wrap ((t:Int) - 1)=(t:Int) - 1:=by rw [IntKind.wrap_u64];omega
  clear HD HM HN ht hr hnd hnl hGN rb hlt hcd2
  obtain⟨j1,j2⟩:=hJ
  obtain⟨j3,j4⟩:=hK
  go_enter Tryz.func236,Tryz.ntmps236
  go_wp2
  go_quiet (fail)
  obtain⟨w1,hw1⟩:∃w1,w.drewN nq=w1:=⟨_,rfl⟩
  have HW1:=lh9 hw1
  have hU2:w1.cell? ⟨g,k+m,none⟩=some (.int .u64 (u2:Int)):=by rw [<-hw1];exact hU2
  have hU1:w1.cell? ⟨g,k+(m - 1),none⟩=some (.int .u64 (u1:Int)):=by rw [<-hw1];exact hU1
  rw [hw1]
  clear hw1
  go_wp2
  go_quiet ((go_at_call 226;exact Calls.quiet_of (HDH.out _)))
  go_wp2_with (go_at_call 239;(with_reducible refine(HMH.out _).mono ?_);rintro e w' ⟨rfl,rfl⟩)
  go_ret
  refine⟨by rw [HG.out];show Ending.returned (.int .u64 ((t:Int) - 1))=_;rw [Int.ofNat_sub (by omega)];rfl,?_⟩
  rw [<-HW1.out,World.drewN_drewN]
  exact⟨_,rfl⟩
 ·rw [if_neg (λh=>hc h.1)] at HN
  have HG:=lh9 HN
  have t1:decide ((r:Int)<(nd:Int))=false:=by simpa using hc
  clear HD HM HN ht hr hnd hnl hGN rb hlt hcd2
  obtain⟨j1,j2⟩:=hJ
  obtain⟨j3,j4⟩:=hK
  go_enter Tryz.func236,Tryz.ntmps236
  go_wp2
  go_quiet (fail)
  obtain⟨w1,hw1⟩:∃w1,w.drewN nq=w1:=⟨_,rfl⟩
  have HW1:=lh9 hw1
  have hU2:w1.cell? ⟨g,k+m,none⟩=some (.int .u64 (u2:Int)):=by rw [<-hw1];exact hU2
  have hU1:w1.cell? ⟨g,k+(m - 1),none⟩=some (.int .u64 (u1:Int)):=by rw [<-hw1];exact hU1
  rw [hw1]
  clear hw1
  go_wp2
  go_quiet ((go_at_call 226;exact Calls.quiet_of (HDH.out _)))
  go_wp2_with (go_at_call 239;(with_reducible refine(HMH.out _).mono ?_);rintro e w' ⟨rfl,rfl⟩)
  go_ret
  refine⟨by rw [HG.out];rfl,?_⟩
  rw [<-HW1.out,World.drewN_drewN]
  exact⟨_,rfl⟩
theorem guess_eq (g k m c1 cd:Nat)(ad:Addr)(u2 u1 h v:Nat)(w:World)(hm:2<=m)(hm2:m<=1099511627776)(hc1:m+1<=c1)(hc:c1<=9223372036854775807)(hcd:m<=cd)(hcd2:cd<=9223372036854775807)
  (hU2:w.cell? ⟨g,k+m,none⟩=some (.int .u64 (u2:Int))) (hU1:w.cell? ⟨g,k+(m - 1),none⟩=some (.int .u64 (u1:Int))) (hH:w.cell? (ad.add (m - 1))=some (.int .u64 (h:Int))) (hV:w.cell? (ad.add (m - 2))=some (.int .u64 (v:Int)))
  (u2b:u2<18446744073709551616) (u1b:u1<18446744073709551616) (hb:h<18446744073709551616) (vb:v<18446744073709551616) (hlt:¬ u2<h):
  Calls Tryz.prog 236 #[.slice (some ⟨g,k,none⟩) (m+1) c1,.slice (some ad) m cd] w (SaysU w (zdK u2 u1 h v)):=by
 have et:zcb u2 u1 h=18446744073709551615:=if_neg hlt
 have er:zdX u2 u1 h=u1+h:=if_neg hlt
 have HD:=λw=>znI u2 u1 h (by omega) w
 have HM:∀w,Calls Tryz.prog 239 #[.int .u64 18446744073709551615,.int .u64 v] w λe w'=>e=.returned (.tuple #[.int .u64 ((18446744073709551615*v / 18446744073709551616:Nat):Int),.int .u64 ((18446744073709551615*v%18446744073709551616:Nat):Int)])/\w=w':=λw=>zpy 18446744073709551615 v (by decide) vb w
 have HA:∀w,Calls Tryz.prog 230 #[.int .u64 u1,.int .u64 h,.int .u64 0] w λe w'=>e=.returned (.tuple #[.int .u64 (((u1+h+0)%18446744073709551616:Nat):Int),.int .u64 (((u1+h+0) / 18446744073709551616:Nat):Int)])/\w=w':=λw=>zly u1 h 0 u1b hb (by decide) w
 have HN:zdK u2 u1 h v=if zdX u2 u1 h<zcb u2 u1 h*v / 18446744073709551616/\zdX u2 u1 h<18446744073709551616 then zcb u2 u1 h - 1 else zcb u2 u1 h:=rfl
 rw [et,er] at HN
 clear et er
 obtain⟨nd,hnd⟩:∃nd,18446744073709551615*v / 18446744073709551616=nd:=⟨_,rfl⟩
 obtain⟨nl,hnl⟩:∃nl,18446744073709551615*v%18446744073709551616=nl:=⟨_,rfl⟩
 rw [hnd,hnl] at HM
 rw [hnd] at HN
 have HDH:=lh9 HD
 have HMH:=lh9 HM
 obtain⟨GN,hGN⟩:∃GN,zdK u2 u1 h v=GN:=⟨_,rfl⟩
 rw [hGN] at HN⊢
 have hJ:IntKind.i64.wrap ((m:Int) - 1)=(m:Int) - 1/\IntKind.i64.wrap ((m:Int) - 2)=(m:Int) - 2:=⟨IntWalk.i64_in _ (by omega),IntWalk.i64_in _ (by omega)⟩
 have hK:((m:Int) - 1).toNat=m - 1/\((m:Int) - 2).toNat=m - 2:=⟨by omega,by omega⟩
 have hL:(0:Int)<=(m:Int) - 1/\(m:Int) - 1<(m:Int)/\(0:Int)<=(m:Int) - 2/\(m:Int) - 2<(m:Int)/\(m:Int)<(m:Int)+1/\(m:Int) - 1<(m:Int)+1:=by omega
 obtain⟨l1,l2,l3,l4,l5,l6⟩:=hL
 by_cases hr:u1+h<18446744073709551616
 ·rw [show(u1+h+0)%18446744073709551616=u1+h from by omega,show(u1+h+0) / 18446744073709551616=0 from by omega] at HA
  obtain⟨r,hre⟩:∃r,u1+h=r:=⟨_,rfl⟩
  rw [hre] at HA HN hr
  have HAH:=lh9 HA
  by_cases hc:r<nd
  ·rw [if_pos ⟨hc,hr⟩] at HN
   have HG:=lh9 HN
   have t1:decide ((r:Int)<(nd:Int))=true:=by simpa using hc
   clear hre hr
   clear HD HM HN HA hnd hnl hGN hlt hcd2
   obtain⟨j1,j2⟩:=hJ
   obtain⟨j3,j4⟩:=hK
   go_enter Tryz.func236,Tryz.ntmps236
   go_wp2
   go_quiet (fail)
   obtain⟨w1,hw1⟩:∃w1,w.drewN nq=w1:=⟨_,rfl⟩
   have HW1:=lh9 hw1
   have hU2:w1.cell? ⟨g,k+m,none⟩=some (.int .u64 (u2:Int)):=by rw [<-hw1];exact hU2
   have hU1:w1.cell? ⟨g,k+(m - 1),none⟩=some (.int .u64 (u1:Int)):=by rw [<-hw1];exact hU1
   rw [hw1]
   clear hw1
   go_wp2
   go_quiet ((go_at_call 226;exact zdq (HDH.out _)))
   have hU1:(w1.drewN nq).cell? ⟨g,k+(m - 1),none⟩=some (.int .u64 (u1:Int)):=hU1
   go_wp2_with (first|(go_at_call 239;(with_reducible refine(HMH.out _).mono ?_);rintro e w' ⟨rfl,rfl⟩)|(go_at_call 230;(with_reducible refine(HAH.out _).mono ?_);rintro e w' ⟨rfl,rfl⟩))
   go_ret
   refine⟨by rw [HG.out];rfl,?_⟩
   rw [<-HW1.out,World.drewN_drewN]
   exact⟨_,rfl⟩
  ·rw [if_neg (λh=>hc h.1)] at HN
   have HG:=lh9 HN
   have t1:decide ((r:Int)<(nd:Int))=false:=by simpa using hc
   clear hre hr
   clear HD HM HN HA hnd hnl hGN hlt hcd2
   obtain⟨j1,j2⟩:=hJ
   obtain⟨j3,j4⟩:=hK
   go_enter Tryz.func236,Tryz.ntmps236
   go_wp2
   go_quiet (fail)
   obtain⟨w1,hw1⟩:∃w1,w.drewN nq=w1:=⟨_,rfl⟩
   have HW1:=lh9 hw1
   have hU2:w1.cell? ⟨g,k+m,none⟩=some (.int .u64 (u2:Int)):=by rw [<-hw1];exact hU2
   have hU1:w1.cell? ⟨g,k+(m - 1),none⟩=some (.int .u64 (u1:Int)):=by rw [<-hw1];exact hU1
   rw [hw1]
   clear hw1
   go_wp2
   go_quiet ((go_at_call 226;exact zdq (HDH.out _)))
   have hU1:(w1.drewN nq).cell? ⟨g,k+(m - 1),none⟩=some (.int .u64 (u1:Int)):=hU1
   go_wp2_with (first|(go_at_call 239;(with_reducible refine(HMH.out _).mono ?_);rintro e w' ⟨rfl,rfl⟩)|(go_at_call 230;(with_reducible refine(HAH.out _).mono ?_);rintro e w' ⟨rfl,rfl⟩))
   go_ret
   refine⟨by rw [HG.out];rfl,?_⟩
   rw [<-HW1.out,World.drewN_drewN]
   exact⟨_,rfl⟩
 ·rw [show(u1+h+0) / 18446744073709551616=1 from by omega] at HA
  obtain⟨r,hre⟩:∃r,(u1+h+0)%18446744073709551616=r:=⟨_,rfl⟩
  rw [hre] at HA
  have HAH:=lh9 HA
  rw [if_neg (λh=>hr h.2)] at HN
  have HG:=lh9 HN
  clear hre hr
  clear HD HM HN HA hnd hnl hGN hlt hcd2
  obtain⟨j1,j2⟩:=hJ
  obtain⟨j3,j4⟩:=hK
  go_enter Tryz.func236,Tryz.ntmps236
  go_wp2
  go_quiet (fail)
  obtain⟨w1,hw1⟩:∃w1,w.drewN nq=w1:=⟨_,rfl⟩
  have HW1:=lh9 hw1
  have hU2:w1.cell? ⟨g,k+m,none⟩=some (.int .u64 (u2:Int)):=by rw [<-hw1];exact hU2
  have hU1:w1.cell? ⟨g,k+(m - 1),none⟩=some (.int .u64 (u1:Int)):=by rw [<-hw1];exact hU1
  rw [hw1]
  clear hw1
  go_wp2
  go_quiet ((go_at_call 226;exact zdq (HDH.out _)))
  have hU1:(w1.drewN nq).cell? ⟨g,k+(m - 1),none⟩=some (.int .u64 (u1:Int)):=hU1
  go_wp2_with (first|(go_at_call 239;(with_reducible refine(HMH.out _).mono ?_);rintro e w' ⟨rfl,rfl⟩)|(go_at_call 230;(with_reducible refine(HAH.out _).mono ?_);rintro e w' ⟨rfl,rfl⟩))
  go_ret
  refine⟨by rw [HG.out];rfl,?_⟩
  rw [<-HW1.out,World.drewN_drewN]
  exact⟨_,rfl⟩
def Off (g:Nat)(w w':World):Prop:=w.grownBy w' (some g)
section
variable {g:Nat}{w w' w2:World}
theorem Off.refl (g:Nat)(w:World):Off g w w:=⟨rfl,rfl,rfl,Nat.le_refl _,λ_ _ _=>rfl⟩
theorem Off.trans (h:Off g w w')(k:Off g w' w2):Off g w w2:=
 ⟨k.os.trans h.os,k.tape.trans h.tape,k.output.trans h.output,Nat.le_trans h.size k.size,λi hi hne=>(k.block i (Nat.lt_of_lt_of_le hi h.size) hne).trans (h.block i hi hne)⟩
theorem Off.set_ (h:Off g w w')(k:Nat)(u:Value):Off g w (w'.setCell ⟨g,k,none⟩ u):=
 h.trans ⟨rfl,rfl,rfl,by simp [World.setCell],λi _ hne=>Below.heap_setCell _ _ _ i (λe=>hne (by rw [e]))⟩
theorem Off.drewN (h:Off g w w')(n:Nat):Off g w (w'.drewN n):=⟨h.os,h.tape,h.output,h.size,h.block⟩
theorem Off.blk {b:Nat}{t:TypeId}{cs:Array Value}(h:Off g w w')(hb:Blk w b t cs)(hne:b≠g):Blk w' b t cs:=hb.grown h (λe=>hne (by injection e))
theorem Off.reads {n:Nat}{A:oA9}{xs:List Value}(h:Off g w w')(hr:zas w g 1 A n xs)(hg:g<=w.heap.size):zas w' g 1 A n xs:=hr.grown h hg (λ_ e=>by cases e;exact Nat.le_refl _)
theorem Off.below {B:Nat}{w0:World}(h:Off g w w')(hb:Below B w0 w)(hB:B<=w.heap.size)(hg:B<=g):Below B w0 w':=hb.grown h hB (λ_ e=>by cases e;exact hg)
theorem Off.cell {p:Addr}{v:Value}(h:Off g w w')(hc:w.cell? p=some v)(hne:p.block≠g):w'.cell? p=some v:=World.grownBy.cell h hc (λe=>hne (by injection e))
end
theorem zhn {A p C:List Nat}{k j:Nat}(hA:A.length=k)(hj:j<p.length):(A++p++C).getD (k+j) 0=p.getD j 0:=by
 simp only [List.getD_eq_getElem?_getD]
 rw [List.append_assoc,List.getElem?_append_right (by omega),List.getElem?_append_left (by omega),hA,Nat.add_sub_cancel_left]
theorem ziK {A p C:List Nat}{k j d:Nat}(hA:A.length=k)(hj:j<p.length):(A++p++C).set (k+j) d=A++p.set j d++C:=by
 rw [List.append_assoc,List.set_append_right _ _ (by omega),hA,Nat.add_sub_cancel_left,List.set_append_left _ _ hj,List.append_assoc]
theorem zli (a b c:Nat)(ha:a<18446744073709551616)(hb:b<18446744073709551616)(hc:c<=1):∃d c':Nat,d<18446744073709551616/\c'<=1/\d+b+c=a+18446744073709551616*c'/\
  ∀w:World,Calls Tryz.prog 231 #[.int .u64 a,.int .u64 b,.int .u64 c] w λe w'=>e=.returned (.tuple #[.int .u64 (d:Int),.int .u64 (c':Int)])/\w=w':=by
 obtain⟨d,c',e1,e2,h1,h2,h3⟩:=zmh ha hb hc
 refine⟨d,c',h1,h2,h3,λw=>?_⟩
 have h:=znK a b c ⟨by omega,by omega⟩ ⟨by omega,by omega⟩ ⟨by omega,by omega⟩ w
 rw [e1,e2] at h
 exact h
theorem muladd0 (p q r:Nat)(hp:p<18446744073709551616)(hq:q<18446744073709551616)(hr:r<18446744073709551616)(w:World):
  Calls Tryz.prog 165 #[.int .u64 p,.int .u64 q,.int .u64 r,.int .u64 0] w λe w'=>e=.returned (.tuple #[.int .u64 (((p*q+r+0) / 18446744073709551616:Nat):Int),.int .u64 (((p*q+r+0)%18446744073709551616:Nat):Int)])/\w=w':=
 zjG p q r 0 hp hq hr (by decide) w
def TakesR (w:World)(ty:TypeId)(g cap N m t:Nat)(A p C Ld:List Nat)(e:Ending)(w':World):Prop:=
 ∃(b:Nat) (p':List Nat),e=.returned (.bool (b==1))/\b<=1/\p'.length=m+1/\Dgs 18446744073709551616 p'/\dv 18446744073709551616 p'+t*dv 18446744073709551616 Ld=dv 18446744073709551616 p+18446744073709551616^(m+1)*b/\zaq w' ty g cap N (A++p'++C)/\Off g w w'
theorem zkw (ty:TypeId)(g cap N k m c1 cd t:Nat)(ad:Addr)(A p C Ld:List Nat)(w:World)(hR:zaq w ty g cap N (A++p++C))(hA:A.length=k)(hp:p.length=m+1)(hpd:Dgs 18446744073709551616 p)
  (hD:zas w g 1 (some ad) m (zaA .u64 Ld)) (hdd:Dgs 18446744073709551616 Ld) (hm2:m<=1099511627776) (hc1:m+1<=c1) (hc:c1<=9223372036854775807) (hcd:m<=cd) (hcd2:cd<=9223372036854775807) (ht:t<18446744073709551616):
  Calls Tryz.prog 237 #[.slice (some ⟨g,k,none⟩) (m+1) c1,.slice (some ad) m cd,.int .u64 t] w (TakesR w ty g cap N m t A p C Ld):=by
 have hNl:=hR.len
 have hdl:=hD.len_
 have HA:=lh9 hA
 have HP:=lh9 hp
 have HNL:=lh9 (show k+(m+1)<=N by simp at hNl;omega)
 have HDL:=lh9 hdl
 have HDD:=lh9 hdd
 have HI:=lh9 (zha.start Ld t hpd)
 have HO:=Off.refl g w
 clear hA hp hNl hdl hdd hpd
 go_enter Tryz.func237,Tryz.ntmps237
 go_wp2_with fail
 go_loopg [7,8,16] (m+1) (λgg cy bo ix wr=>∃(i cc bb:Nat) (q:List Nat),i<=m/\m<gg+i/\ix=.int .i64 i/\cy=.int .u64 cc/\bo=.int .u64 bb/\zha p Ld t i q cc bb/\zaq wr ty g cap N (A++q++C)/\Off g w wr/\zas wr g 1 (some ad) m (zaA .u64 Ld))
 case atStart=>exact⟨0,0,0,p,Nat.zero_le _,by omega,rfl,rfl,rfl,HI.out,hR,HO,hD⟩
 case round=>
  clear hR HI HO hD
  obtain⟨i,cc,bb,q,him,hgg,rfl,rfl,rfl,hI,hR,hO,hD⟩:=hrel
  have hql:=hI.len
  by_cases hlt:i<m
  ·obtain⟨ad',e,hadb,h1⟩:=zdv hD (k:=i) hlt
   cases e
   have hb2:=HDD.out.getD (by decide) i
   have h2:=hR.cell (k+i) (by have:=HNL.out;omega)
   rw [zhn HA.out (by rw [hql,HP.out];omega)] at h2
   have h3:=hR.frozen (k+i)
   have hc2:=hI.carry
   have hpv:=hI.dgs.getD (by decide) i
   obtain⟨b,hbb⟩:∃b,Ld.getD i 0=b:=⟨_,rfl⟩
   have HMA:=λw'=>muladd0 b t cc (by rw [<-hbb];exact hb2) ht hc2 w'
   obtain⟨d,b',hd1,hb1,hx,hS⟩:=zli (q.getD i 0) ((b*t+cc+0)%18446744073709551616) bb hpv (Nat.mod_lt _ (by decide)) hI.lack
   have HST:=lh9 (hI.step (s:=Ld.getD i 0*t+cc+0) (d:=d) (b':=b') ht HDD.out (by rw [HP.out];omega) rfl hd1 hb1 (by rw [hbb];exact hx))
   have hRS:=hR.set_ (k+i) d (by have:=HNL.out;omega)
   rw [ziK HA.out (by rw [hql,HP.out];omega)] at hRS
   have HRS:=lh9 hRS
   have HOS:=lh9 (λu=>hO.set_ (k+i) u)
   have HDS:=lh9 (λu=>hD.setCell (p:=⟨g,k+i,none⟩) (Nat.le_refl _) u)
   rw [hbb] at h1 HST
   obtain⟨pv,hpp⟩:∃b,q.getD i 0=b:=⟨_,rfl⟩
   rw [hpp] at h2 hS
   obtain⟨s1,e1⟩:∃s1,(b*t+cc+0)%18446744073709551616=s1:=⟨_,rfl⟩
   obtain⟨s2,e2⟩:∃s2,(b*t+cc+0) / 18446744073709551616=s2:=⟨_,rfl⟩
   rw [e1,e2] at HMA
   rw [e1] at hS
   rw [e2] at HST
   have HMH:=lh9 HMA
   have HSH:=lh9 hS
   have i1:(0:Int)<=(i:Int):=by omega
   have i2:(i:Int)<(m:Int):=by omega
   have i3:(i:Int)<(m:Int)+1:=by omega
   have i4:i<m+1:=by omega
   clear HMA hS hx hpp e1 e2 hbb hI hR hO hD hpv hRS hql
   go_wp2_with (first|(go_at_call 165;(with_reducible refine(HMH.out _).mono ?_);rintro e w' ⟨rfl,rfl⟩)|(go_at_call 231;(with_reducible refine(HSH.out _).mono ?_);rintro e w' ⟨rfl,rfl⟩))
   go_roundg (m - i)
   case measure=>omega
   case rel=>exact⟨i+1,s2,b',_,by omega,by omega,by go_num,rfl,rfl,HST.out,HRS.out,HOS.out _,HDS.out _⟩
  ·have him2:i=m:=by omega
   subst him2
   have h2:=hR.cell (k+i) (by have:=HNL.out;omega)
   rw [zhn HA.out (by rw [hql,HP.out];omega)] at h2
   have h3:=hR.frozen (k+i)
   have hpv:=hI.dgs.getD (by decide) i
   obtain⟨d,b',hd1,hb1,hx,hS⟩:=zli (q.getD i 0) cc bb hpv hI.carry hI.lack
   have HST:=lh9 (hI.last (d:=d) (b':=b') (by rw [HP.out]) (by rw [HDL.out]) hd1 hb1 hx)
   have hRS:=hR.set_ (k+i) d (by have:=HNL.out;omega)
   rw [ziK HA.out (by rw [hql,HP.out];omega)] at hRS
   have HRS:=lh9 hRS
   have HOS:=lh9 (hO.set_ (k+i) (.int .u64 (d:Int)))
   obtain⟨pv,hpp⟩:∃b,q.getD i 0=b:=⟨_,rfl⟩
   rw [hpp] at h2 hS
   have HSH:=lh9 hS
   have i1:(0:Int)<=(i:Int):=by omega
   have i3:(i:Int)<(i:Int)+1:=by omega
   have i4:i<i+1:=by omega
   clear hS hx hpp hI hR hO hD hpv hRS hql
   have G:∀b'':Bool,b''=(b'==1)->TakesR w ty g cap N i t A p C Ld (.returned (.bool b'')) (wr.setCell ⟨g,k+i,none⟩ (.int .u64 (d:Int))):=λb'' hb''=>by
    obtain⟨g1,g2,g3⟩:=HST.out
    rw [HP.out] at g1 g3
    exact⟨b',_,by rw [hb''],hb1,g1,g2,g3,HRS.out,HOS.out⟩
   have HG:=lh9 G
   clear G
   rcases (show b'=0\/b'=1 by omega) with rfl|rfl
   ·go_wp2_with (go_at_call 231;(with_reducible refine(HSH.out _).mono ?_);rintro e w' ⟨rfl,rfl⟩)
    go_ret
    exact HG.out _ rfl
   ·go_wp2_with (go_at_call 231;(with_reducible refine(HSH.out _).mono ?_);rintro e w' ⟨rfl,rfl⟩)
    go_ret
    exact HG.out _ rfl
def BacksR (w:World)(ty:TypeId)(g cap N m:Nat)(A p C Ld:List Nat)(e:Ending)(w':World):Prop:=
 ∃(v:Value) (p':List Nat),e=.returned v/\p'.length=m+1/\Dgs 18446744073709551616 p'/\dv 18446744073709551616 p'=(dv 18446744073709551616 p+dv 18446744073709551616 Ld)%18446744073709551616^(m+1)/\zaq w' ty g cap N (A++p'++C)/\Off g w w'
theorem zlT (ty:TypeId)(g cap N k m c1 cd:Nat)(ad:Addr)(A p C Ld:List Nat)(w:World)(hR:zaq w ty g cap N (A++p++C))(hA:A.length=k)(hp:p.length=m+1)(hpd:Dgs 18446744073709551616 p)
  (hD:zas w g 1 (some ad) m (zaA .u64 Ld)) (hdd:Dgs 18446744073709551616 Ld) (hm2:m<=1099511627776) (hc1:m+1<=c1) (hc:c1<=9223372036854775807) (hcd:m<=cd) (hcd2:cd<=9223372036854775807):
  Calls Tryz.prog 238 #[.slice (some ⟨g,k,none⟩) (m+1) c1,.slice (some ad) m cd] w (BacksR w ty g cap N m A p C Ld):=by
 have hNl:=hR.len
 have hdl:=hD.len_
 have HA:=lh9 hA
 have HP:=lh9 hp
 have HNL:=lh9 (show k+(m+1)<=N by simp at hNl;omega)
 have HDL:=lh9 hdl
 have HDD:=lh9 hdd
 have HI:=lh9 (zgV.start Ld hpd)
 have HO:=Off.refl g w
 clear hA hp hNl hdl hdd hpd
 go_enter Tryz.func238,Tryz.ntmps238
 go_wp2_with fail
 go_loopg [4,10] (m+1) (λgg cy ix wr=>∃(i cc:Nat) (q:List Nat),i<=m/\m<gg+i/\ix=.int .i64 i/\cy=.int .u64 cc/\zgV p Ld i q cc/\zaq wr ty g cap N (A++q++C)/\Off g w wr/\zas wr g 1 (some ad) m (zaA .u64 Ld))
 case atStart=>exact⟨0,0,p,Nat.zero_le _,by omega,rfl,rfl,HI.out,hR,HO,hD⟩
 case round=>
  clear hR HI HO hD
  obtain⟨i,cc,q,him,hgg,rfl,rfl,hI,hR,hO,hD⟩:=hrel
  have hql:=hI.len
  by_cases hlt:i<m
  ·obtain⟨ad',e,hadb,h1⟩:=zdv hD (k:=i) hlt
   cases e
   have hb2:=HDD.out.getD (by decide) i
   have h2:=hR.cell (k+i) (by have:=HNL.out;omega)
   rw [zhn HA.out (by rw [hql,HP.out];omega)] at h2
   have h3:=hR.frozen (k+i)
   have hc2:=hI.carry
   have hpv:=hI.dgs.getD (by decide) i
   have HST:=hI.step (s:=q.getD i 0+Ld.getD i 0+cc) HDD.out (by rw [HP.out];omega) rfl
   obtain⟨b,hbb⟩:∃b,Ld.getD i 0=b:=⟨_,rfl⟩
   obtain⟨pv,hpp⟩:∃b,q.getD i 0=b:=⟨_,rfl⟩
   rw [hbb] at h1 hb2 HST
   rw [hpp] at h2 hpv HST
   have hS:=λw=>zly pv b cc hpv hb2 hc2 w
   have hRS:=hR.set_ (k+i) ((pv+b+cc)%18446744073709551616) (by have:=HNL.out;omega)
   rw [ziK HA.out (by rw [hql,HP.out];omega)] at hRS
   obtain⟨s1,e1⟩:∃s1,(pv+b+cc)%18446744073709551616=s1:=⟨_,rfl⟩
   obtain⟨s2,e2⟩:∃s2,(pv+b+cc) / 18446744073709551616=s2:=⟨_,rfl⟩
   rw [e1,e2] at hS HST
   rw [e1] at hRS
   have HST:=lh9 HST
   have HRS:=lh9 hRS
   have HOS:=lh9 (λu=>hO.set_ (k+i) u)
   have HDS:=lh9 (λu=>hD.setCell (p:=⟨g,k+i,none⟩) (Nat.le_refl _) u)
   have HSH:=lh9 hS
   have i1:(0:Int)<=(i:Int):=by omega
   have i2:(i:Int)<(m:Int):=by omega
   have i3:(i:Int)<(m:Int)+1:=by omega
   have i4:i<m+1:=by omega
   clear hS hpp e1 e2 hbb hI hR hO hD hpv hRS hql
   go_wp2_with (go_at_call 230;(with_reducible refine(HSH.out _).mono ?_);rintro e w' ⟨rfl,rfl⟩)
   go_roundg (m - i)
   case measure=>omega
   case rel=>exact⟨i+1,s2,_,by omega,by omega,by go_num,rfl,HST.out,HRS.out,HOS.out _,HDS.out _⟩
  ·have him2:i=m:=by omega
   subst him2
   have h2:=hR.cell (k+i) (by have:=HNL.out;omega)
   rw [zhn HA.out (by rw [hql,HP.out];omega)] at h2
   have h3:=hR.frozen (k+i)
   have hc2:=hI.carry
   have hpv:=hI.dgs.getD (by decide) i
   have HST:=hI.last (s:=q.getD i 0+0+cc) (by rw [HP.out]) (by rw [HDL.out]) rfl
   obtain⟨pv,hpp⟩:∃b,q.getD i 0=b:=⟨_,rfl⟩
   rw [hpp] at h2 hpv HST
   have hS:∀w,Calls Tryz.prog 230 #[.int .u64 pv,.int .u64 0,.int .u64 cc] w λe w'=>e=.returned (.tuple #[.int .u64 (((pv+0+cc)%18446744073709551616:Nat):Int),.int .u64 (((pv+0+cc) / 18446744073709551616:Nat):Int)])/\w=w':=λw=>zly pv 0 cc hpv (by decide) hc2 w
   have hRS:=hR.set_ (k+i) ((pv+0+cc)%18446744073709551616) (by have:=HNL.out;omega)
   rw [ziK HA.out (by rw [hql,HP.out];omega)] at hRS
   obtain⟨s1,e1⟩:∃s1,(pv+0+cc)%18446744073709551616=s1:=⟨_,rfl⟩
   obtain⟨s2,e2⟩:∃s2,(pv+0+cc) / 18446744073709551616=s2:=⟨_,rfl⟩
   rw [e1] at HST hRS
   rw [e1,e2] at hS
   have HSH:=lh9 hS
   have HOS:=lh9 (hO.set_ (k+i) (.int .u64 (s1:Int)))
   have i1:(0:Int)<=(i:Int):=by omega
   have i3:(i:Int)<(i:Int)+1:=by omega
   have i4:i<i+1:=by omega
   have G:∀v:Value,BacksR w ty g cap N i A p C Ld (.returned v) (wr.setCell ⟨g,k+i,none⟩ (.int .u64 (s1:Int))):=λv=>by
    obtain⟨g1,g2,g3⟩:=HST
    rw [HP.out] at g1 g3
    exact⟨v,_,rfl,g1,g2,g3,hRS,HOS.out⟩
   have HG:=lh9 G
   clear G hS hpp hI hR hO hD hpv hRS hql e1 e2 HST
   go_wp2_with (go_at_call 230;(with_reducible refine(HSH.out _).mono ?_);rintro e w' ⟨rfl,rfl⟩)
   go_end0
   exact HG.out _
def OutR (w:World)(ty:TypeId)(g cap N m:Nat)(A p C Ld:List Nat)(e:Ending)(w':World):Prop:=
 ∃p':List Nat,e=.returned (.int .u64 ((dv 18446744073709551616 p / dv 18446744073709551616 Ld:Nat):Int))/\p'.length=m+1/\Dgs 18446744073709551616 p'/\dv 18446744073709551616 p'=dv 18446744073709551616 p%dv 18446744073709551616 Ld/\zaq w' ty g cap N (A++p'++C)/\Off g w w'
theorem zlV (ty:TypeId)(g cap N k m c1 cd:Nat)(ad:Addr)(A p C Ld:List Nat)(w:World)(hR:zaq w ty g cap N (A++p++C))(hA:A.length=k)(hp:p.length=m+1)(hpd:Dgs 18446744073709551616 p)
  (hD:zas w g 1 (some ad) m (zaA .u64 Ld)) (hdd:Dgs 18446744073709551616 Ld) (hm:2<=m) (hm2:m<=1099511627776) (hc1:m+1<=c1) (hc:c1<=9223372036854775807) (hcd:m<=cd) (hcd2:cd<=9223372036854775807)
  (htop:18446744073709551616<=2*Ld.getD (m - 1) 0) (hlt:dv 18446744073709551616 p<18446744073709551616*dv 18446744073709551616 Ld):
  Calls Tryz.prog 229 #[.slice (some ⟨g,k,none⟩) (m+1) c1,.slice (some ad) m cd] w (OutR w ty g cap N m A p C Ld):=by
 have hNl:=hR.len
 have hdl:=hD.len_
 have hg:=hR.lt
 have hNL:k+(m+1)<=N:=by simp at hNl;omega
 obtain⟨j,rfl⟩:∃j,m=j+2:=⟨m - 2,by omega⟩
 have T:=two_of (m:=j) hpd hdd hp hdl htop hlt
 have c1':=hR.cell (k+(j+2)) (by omega)
 have c2':=hR.cell (k+(j+1)) (by omega)
 rw [zhn hA (by omega)] at c1' c2'
 obtain⟨ad',e,hadb,d1⟩:=zdv hD (k:=j+1) (by omega)
 cases e
 obtain⟨ad',e,_,d2⟩:=zdv hD (k:=j) (by omega)
 cases e
 have b1:=hpd.getD (by decide) (j+2)
 have b2:=hpd.getD (by decide) (j+1)
 have b3:=hdd.getD (by decide) (j+1)
 have b4:=hdd.getD (by decide) j
 have GL:=guess_le T rfl b2
 have HG:Calls Tryz.prog 236 #[.slice (some ⟨g,k,none⟩) (j+2+1) c1,.slice (some ad) (j+2) cd] w (SaysU w (zdK (p.getD (j+2) 0) (p.getD (j+1) 0) (Ld.getD (j+1) 0) (Ld.getD j 0))):=by
  by_cases hc:p.getD (j+2) 0<Ld.getD (j+1) 0
  ·exact guess_in g k (j+2) c1 cd ad _ _ _ _ w (by omega) hm2 hc1 ‹_› hcd hcd2 c1' c2' d1 d2 b1 b2 b3 b4 hc
  ·exact guess_eq g k (j+2) c1 cd ad _ _ _ _ w (by omega) hm2 hc1 ‹_› hcd hcd2 c1' c2' d1 d2 b1 b2 b3 b4 hc
 obtain⟨t,hte⟩:∃t,zdK (p.getD (j+2) 0) (p.getD (j+1) 0) (Ld.getD (j+1) 0) (Ld.getD j 0)=t:=⟨_,rfl⟩
 rw [hte] at HG GL
 obtain⟨lo,up,tb⟩:=GL
 have hS:=λn=>zkw ty g cap N k (j+2) c1 cd t ad A p C Ld (w.drewN n) hR hA hp hpd hD hdd hm2 hc1 ‹_› hcd hcd2 tb
 have hpl:=zcL hpd
 rw [hp] at hpl
 have hdlt:=zcL hdd
 rw [hdl] at hdlt
 have HGH:=lh9 HG
 have HSH:=lh9 hS
 have hDp:=T.Dpos
 have hBK:=lh9 (λw' q (hR':zaq w' ty g cap N (A++q++C)) (hq:q.length=j+2+1) (hqd:Dgs 18446744073709551616 q) (hD':zas w' g 1 (some ad) (j+2) (zaA .u64 Ld))=>zlT ty g cap N k (j+2) c1 cd ad A q C Ld w' hR' hA hq hqd hD' hdd hm2 hc1 ‹_› hcd hcd2)
 have HR:=lh9 (λX b'=>zpg (P:=dv 18446744073709551616 p) (D:=dv 18446744073709551616 Ld) (t:=t) (X:=X) (E:=18446744073709551616^(j+2+1)) (b':=b'))
 have HV:=lh9 (λX b'=>zrg (P:=dv 18446744073709551616 p) (D:=dv 18446744073709551616 Ld) (t:=t) (X:=X) (E:=18446744073709551616^(j+2+1)) (b':=b'))
 have HML:=lh9 (Nat.mod_lt (dv 18446744073709551616 p) hDp)
 have hDE:dv 18446744073709551616 Ld<=18446744073709551616^(j+2+1):=by
  have:18446744073709551616^(j+2)<=18446744073709551616^(j+2+1):=Nat.pow_le_pow_right (by decide) (by omega)
  omega
 have HDE:=lh9 hDE
 have HPL:=lh9 hpl
 have hDR:=lh9 (λn=>(Off.refl g w).drewN n)
 have HDg:=lh9 (λw' (h:Off g w w')=>h.reads hD (Nat.le_of_lt hg))
 have HDP:=lh9 hDp
 obtain⟨Q,hQ⟩:∃Q,dv 18446744073709551616 p / dv 18446744073709551616 Ld=Q:=⟨_,rfl⟩
 have HQ:=lh9 hQ
 have HLO:=lh9 (show t=Q\/t=Q+1 by rw [hQ] at lo up;omega)
 clear HG hS hR hD hpd hdd T c1' c2' d1 d2 b1 b2 b3 b4 htop hlt hp hA hte hadb hDp hDE hpl hdlt hQ lo up hdl hNl hNL
 go_enter Tryz.func229,Tryz.ntmps229
 go_wp2_with fail
 refine HGH.out.mono ?_
 rintro e w1 ⟨rfl,n,rfl⟩
 go_wp2_with fail
 refine(HSH.out n).mono ?_
 rintro e w2 ⟨b,q,rfl,hb,hql,hqd,hsum,hR2,hO2⟩
 have hO2:=(hDR.out n).trans hO2
 have hXE:=zcL hqd
 rw [hql] at hXE
 rcases HLO.out with ht|ht
 ·obtain⟨rfl,hX⟩:=HR.out _ _ (by rw [HQ.out];exact ht) HDP.out hXE hsum hb
  have G:Hid (OutR w ty g cap N (j+2) A p C Ld (.returned (.int .u64 (t:Int))) w2):=⟨q,by rw [HQ.out,ht],hql,hqd,hX,hR2,hO2⟩
  clear hR2 hO2 hX hXE hqd hsum hql ht hb
  go_wp2
  go_ret
  exact G.out
 ·obtain⟨rfl,hX⟩:=HV.out _ _ (by rw [HQ.out];exact ht) HDP.out HPL.out hXE hsum hb
  have hBR:=lh9 (znT hX HML.out hXE HDE.out)
  have HB:=lh9 (hBK.out w2 q hR2 hql hqd (HDg.out _ hO2))
  have HT:=lh9 ht
  have t2:0<t:=by omega
  have t3:IntKind.u64.wrap ((t:Int) - 1)=(t:Int) - 1:=by rw [IntKind.wrap_u64];omega
  clear hR2 hX hXE hqd hsum hql ht hb
  go_wp2_with fail
  refine HB.out.mono ?_
  rintro e w3 ⟨v,r,rfl,hrl,hrd,hrv,hR3,hO3⟩
  have G:Hid (OutR w ty g cap N (j+2) A p C Ld (.returned (.int .u64 ((t:Int) - 1))) w3):=⟨r,by rw [HQ.out,HT.out];simp,hrl,hrd,by rw [hrv];exact hBR.out,hR3,hO2.trans hO3⟩
  clear hR3 hO3 hO2 hrl hrd hrv
  go_wp2
  go_ret
  exact G.out
def zex (w:World)(ty:TypeId)(N X:Nat)(e:Ending)(w':World):Prop:=
 ∃(g:Nat) (L:List Nat),e=.returned (.slice (some ⟨g,0,none⟩) N N)/\w.heap.size<=g/\zaq w' ty g N N L/\Dgs 18446744073709551616 L/\dv 18446744073709551616 L=X/\Below w.heap.size w w'
theorem dv_pad (b:Nat)(l:List Nat)(n:Nat):dv b (l++List.replicate n 0)=dv b l:=by rw [zbJ,zeC,Nat.mul_zero,Nat.add_zero]
theorem ziq (x up N:Nat)(A:oA9)(n c:Nat)(w:World)(hA:zad w x A n c)(hn:n<=274877906944)(hup:up<=63)(hN:(dg 18446744073709551616 (2^up*x)).length<=N)(hN2:N<=549755813888):
  Calls Tryz.prog 228 #[.agg #[.slice A n c],.int .i64 up,.int .i64 N] w (zex w 160 N (2^up*x)):=by
 obtain⟨i0,hi0,hz0,hz1,hz2⟩:=info_parts zgx
 have HS:=lh9 (λw' (hb:Below w.heap.size w w')=>zpB x up A n c w' (hA.below hb) (by omega) (by omega))
 obtain⟨y,hy⟩:∃y,2^up*x=y:=⟨_,rfl⟩
 rw [hy] at HS hN⊢
 have HW:=lh9 (λw' A' n' c' (h:zad w' y A' n' c') (hb:n'<=1099511627776)=>zdo y A' n' c' w' h hb)
 have HN:=lh9 hN
 obtain⟨Z,hZ⟩:∃Z,madeCells (Value.cells (.int .u64 0)) N=Z:=⟨_,rfl⟩
 have HZL:Hid (Z=(zaA .u64 (List.replicate N 0)).toArray):=by
  show _=_
  have h:Z.toList=zaA .u64 (List.replicate N 0):=by
   rw [<-hZ]
   exact(toList_madeCells_one _ _).trans (by simp [zaA])
  rw [<-h]
 have hmk:∀W:World,(Instr.makeSlice 35 (.int .i64 (N:Int)) (.int .i64 (N:Int))).run Tryz.prog W=.ok (.slice (some ⟨W.heap.size,0,none⟩) N N) (W.alloc (.cells Z 160)):=λW=>by
  have h:=zaW _ _ i0 _ Tryz.underlying35 hi0 hz0 .i64 .i64 N N (Nat.le_refl _) (by rw [hz2];omega) (by omega) W
  rw [hz1,Nat.mul_one,hZ] at h
  exact h
 clear hZ hA hN hy hup
 go_enter Tryz.func228,Tryz.ntmps228
 go_wp2_with fail
 generalize hW:w.alloc (.cells #[.slice A n c] 37)=W0
 obtain⟨b1,b2,b5⟩:=zav w 37 #[.slice A n c]
 rw [hW] at b1 b2 b5
 clear hW b2
 refine(HS.out _ b1).mono ?_
 rintro e w1 ⟨A1,n1,c1,rfl,hy1,hb,hf1⟩
 have hB:=zab b1 hb
 clear hb b1 b5
 obtain⟨d1,d2,d5⟩:=zav w1 37 #[.slice A1 n1 c1]
 have d0:=hB.size
 have hB:=zab hB d1
 have hy1:=hy1.below d1
 have g1:(w1.alloc (.cells #[.slice A1 n1 c1] 37)).cell? ⟨w1.heap.size,0,none⟩=some (.slice A1 n1 c1):=d2.cell 0
 clear d1 d2 d5 hf1
 go_wp2_with fail
 have hy2:=hy1.below ((Below.refl _ (w1.alloc (.cells #[.slice A1 n1 c1] 37))).alloc (Nat.le_refl _) (.cells Z 160))
 have hz:=Blk.new (w1.alloc (.cells #[.slice A1 n1 c1] 37)) 160 Z
 have hB:=zaj (.cells Z 160) hB
 have hgs:w.heap.size<=(w1.alloc (.cells #[.slice A1 n1 c1] 37)).heap.size:=by have:=hB.size;simp at this⊢;have:=d0;omega
 rw [show(w1.alloc (.cells #[.slice A1 n1 c1] 37)).heap.size=w1.heap.size+1 from by simp] at hz hgs
 obtain⟨gs,hge⟩:∃g,w1.heap.size+1=g:=⟨_,rfl⟩
 rw [hge] at hz hgs⊢
 generalize (w1.alloc (.cells #[.slice A1 n1 c1] 37)).alloc (.cells Z 160)=W2 at*
 clear hge hy1 g1 hmk
 have hln:=hy2.len
 have hnN:n1<=N:=by have:=HN.out;omega
 refine(HW.out _ A1 n1 c1 hy2 (by omega)).mono ?_
 rintro e w3 ⟨A2,c2,rfl,hr2,_,⟨_,hfr⟩,hb⟩
 have hB:=zab hB hb
 have hz:=zaa hb hz
 rw [HZL.out] at hz
 rw [hln] at hr2
 rw [hln]
 have hdl:=hr2.len_
 have hdd:=zcS (b:=18446744073709551616) (by decide) y
 have hdv:=zdz (b:=18446744073709551616) (by decide) y
 obtain⟨D,hD⟩:∃D,dg 18446744073709551616 y=D:=⟨_,rfl⟩
 rw [hD] at hr2 hdl hdd hdv
 have hpos:0<(zaA .u64 D).length->∃ad,A2=some ad/\∀j v,(zaA .u64 D)[j]?=some v->w3.cell? (ad.add j)=some v:=λh=>by
  rw [zaE] at h
  obtain⟨ad,e,_,hc⟩:=hr2.2 (by omega)
  exact⟨ad,e,hc⟩
 have HPOS:=lh9 hpos
 have HRES:Hid (∀w4,Hid (w4.heap[gs]?=some (.cells (splice (zaA .u64 (List.replicate N 0)) 0 (zaA .u64 D)).toArray 160 (0,0)))->Below w.heap.size w w4->zex w 160 N y (.returned (.slice (some ⟨gs,0,none⟩) N N)) w4):=λw4 h4 hB4=>by
  have e:splice (zaA .u64 (List.replicate N 0)) 0 (zaA .u64 D)=zaA .u64 (D++List.replicate (N - n1) 0):=by
   unfold splice
   rw [List.take_zero,List.nil_append,Nat.zero_add,zaE,zrj,hdl,List.drop_replicate,<-zeq]
  rw [e] at h4
  refine⟨gs,D++List.replicate (N - n1) 0,rfl,hgs,⟨_,h4.out,Nat.le_refl _,by unfold maxLen;omega,by simp [zaE];omega,by simp;omega,?_⟩,hdd.append (Dgs.zeros (by decide) _),by rw [dv_pad,hdv],hB4⟩
  show(zaA .u64 (D++List.replicate (N - n1) 0)).take N=_
  rw [List.take_of_length_le (by rw [zaE];simp;omega)]
 have HZ2:=lh9 hz
 have HBB:=lh9 hB
 clear hz hB hpos hdd hdv hD hr2 hfr hb hln hy2 HZL
 have hu:=Tryz.underlying35
 go_wp2_with ((with_reducible show wpList _ _ _ _ _ _);refine wpList_copy_splice (o:=⟨some 21,_,_,_,_,_⟩) rfl (.tmp 18) (.tmp 20) 35 35 rfl 160 hu (by rw [hi0];simp [hz1]) (some ⟨gs,0,none⟩) A2 N N n1 c2 rfl rfl gs 0 (zaA .u64 (List.replicate N 0)) 160 HZ2.out (zaA .u64 D) (by rw [zaE,hdl];exact(Nat.min_eq_left hnN).symm) (λh=>⟨rfl,HPOS.out h⟩) (by rw [zaE,zaE];simp;omega) (zhD _ _) w.heap.size w HBB.out hgs ?_;intro w4 h4 hB4)
 have G:=lh9 (HRES.out w4 h4 hB4)
 clear h4 hB4
 go_wp2
 go_ret
 exact G.out
theorem norm_up {d m:Nat}(hd:(dg 18446744073709551616 d).length=m+1):∃up:Nat,(64 - zgL ((wd d m:Nat):Int)=(up:Int))/\up<=63/\2^up*d<18446744073709551616^(m+1)/\18446744073709551616<=2*(2^up*d / 18446744073709551616^m):=by
 obtain⟨h1,h2,_⟩:=zic hd
 have h3:=zcp d m
 obtain⟨up,e,hu,hlo,hhi⟩:=zna ((wd d m:Nat):Int) (by omega) (by omega)
 refine⟨up,e,hu,?_,?_⟩
 ·obtain⟨t,ht⟩:∃t,wd d m=t:=⟨_,rfl⟩
  rw [ht] at h1 hhi
  have h4:t*2^up<2^(64 - up)*2^up:=by
   rw [<-Nat.pow_add,show 64 - up+up=64 from by omega]
   have:((t*2^up:Nat):Int)<((2^64:Nat):Int):=by
    rw [Int.natCast_mul,Int.natCast_pow]
    exact hhi
   omega
  have h5:t+1<=2^(64 - up):=Nat.lt_of_mul_lt_mul_right h4
  have h6:d<(t+1)*18446744073709551616^m:=by
   have:=Nat.lt_div_mul_add (a:=d) (b:=18446744073709551616^m) (Nat.pow_pos (by decide))
   rw [<-h1] at this
   rw [Nat.add_mul,Nat.one_mul]
   exact this
  have h7:d<2^(64 - up)*18446744073709551616^m:=Nat.lt_of_lt_of_le h6 (Nat.mul_le_mul_right _ h5)
  have h8:2^up*d<2^up*(2^(64 - up)*18446744073709551616^m):=(Nat.mul_lt_mul_left (Nat.two_pow_pos up)).2 h7
  rw [<-Nat.mul_assoc,<-Nat.pow_add,show up+(64 - up)=64 from by omega] at h8
  rw [Nat.pow_succ']
  exact h8
 ·rw [h1] at hlo
  obtain⟨t,ht⟩:∃t,d / 18446744073709551616^m=t:=⟨_,rfl⟩
  rw [ht] at hlo
  have h4:t*2^up<=2^up*d / 18446744073709551616^m:=by
   refine(Nat.le_div_iff_mul_le (Nat.pow_pos (by decide))).2 ?_
   rw [Nat.mul_comm t,Nat.mul_assoc,<-ht]
   exact Nat.mul_le_mul_left _ (Nat.div_mul_le_self _ _)
  have h5:((9223372036854775808:Nat):Int)<=((t*2^up:Nat):Int):=by
   rw [Int.natCast_mul,Int.natCast_pow]
   exact hlo
  omega
theorem norm_len {x n up:Nat}(hx:(dg 18446744073709551616 x).length=n)(hu:up<=63):(dg 18446744073709551616 (2^up*x)).length<=n+1:=by
 have h:=zbM (b:=18446744073709551616) (by decide) x
 rw [hx] at h
 refine zcD (by decide) _ _ ?_
 rw [Nat.pow_succ']
 exact Nat.mul_lt_mul'' (Nat.lt_of_le_of_lt (Nat.pow_le_pow_right (by decide) hu) (by decide)) h
theorem zoF {x d n m k up:Nat}(hx:(dg 18446744073709551616 x).length=n)(hd:(dg 18446744073709551616 d).length=m+1)(hk:m+k=n):2^up*x / 18446744073709551616^k<2^up*d:=by
 refine(Nat.div_lt_iff_lt_mul (Nat.pow_pos (by decide))).2 ?_
 have h:=zbM (b:=18446744073709551616) (by decide) x
 rw [hx,<-hk,Nat.pow_add] at h
 have h0:d≠0:=λe=>by rw [e,zej] at hd;simp at hd
 have h2:=(dg_ge (b:=18446744073709551616) (by decide) d h0).2
 rw [hd,Nat.add_sub_cancel] at h2
 rw [Nat.mul_assoc]
 refine(Nat.mul_lt_mul_left (Nat.two_pow_pos up)).2 ?_
 exact Nat.lt_of_lt_of_le h (Nat.mul_le_mul_right _ h2)
theorem norm_top {D m:Nat}{L:List Nat}(hl:L.length=m+1)(hd:Dgs 18446744073709551616 L)(hv:dv 18446744073709551616 L=D)(h:18446744073709551616<=2*(D / 18446744073709551616^m)):18446744073709551616<=2*L.getD m 0:=by
 rw [zfc (by decide) hd,hv]
 have h1:=zcL hd
 rw [hl,hv,Nat.pow_succ] at h1
 have h2:D / 18446744073709551616^m<18446744073709551616:=(Nat.div_lt_iff_lt_mul (Nat.pow_pos (by decide))).2 (by rw [Nat.mul_comm];exact h1)
 rw [Nat.mod_eq_of_lt h2]
 exact h
theorem zqC (x d up:Nat):2^up*x / (2^up*d)=x / d/\2^up*x%(2^up*d) / 2^up=x%d:=by
 refine⟨Nat.mul_div_mul_left _ _ (Nat.two_pow_pos up),?_⟩
 rw [Nat.mul_mod_mul_left,Nat.mul_div_cancel_left _ (Nat.two_pow_pos up)]
