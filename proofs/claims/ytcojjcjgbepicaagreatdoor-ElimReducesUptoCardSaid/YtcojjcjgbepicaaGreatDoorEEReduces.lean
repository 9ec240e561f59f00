/- What this claim leans on. -/
import Derived.Test.YtcojjcjgbepicaaGreatDoorEEShape
namespace Go.Proofs.YtcojjcjgbepicaaGreatDoor
open Go Go.RowKit
set_option maxHeartbeats 16000000
set_option maxRecDepth 100000
set_option linter.unusedVariables false
set_option linter.unusedSimpArgs false
theorem elimReduces_core (z0:Nat)(A0:oA9)(n0 c0:Nat)(R0:RowV)(w:World)(hz0:z0<=255)(h0:zbb w A0 n0 c0 R0)(hT:zaj w):
  Calls Tryz.prog 6 #[.agg #[.int .u8 (z0:Int),.slice A0 n0 c0]] w λe w'=>e=.returned (.bool true)/\Below w.heap.size w w':=by
 have HMK:=lh9 (λW (hb:Below w.heap.size w W)=>znb (hT.on hb) hz0 (h0.below hb))
 have HZ:=lh9 (zlx (m:=z0%7) h0 (Nat.min_le_left n0 6))
 have HD:=lh9 (zit (z0%7) R0 (min n0 6))
 obtain⟨m,hm0⟩:∃m,z0%7=m:=⟨_,rfl⟩
 obtain⟨N,hN0⟩:∃N,min n0 6=N:=⟨_,rfl⟩
 have bm:m<=6:=by omega
 have bN:N<=6:=by omega
 rw [hm0,hN0] at HMK HZ HD
 obtain⟨X,hX0⟩:∃X,zis m R0 N=X:=⟨_,rfl⟩
 rw [hX0] at HMK HZ HD
 clear hX0 hm0 hN0
 have HW:Hid (zbP 8 X):=(zbP.of_sz HZ.out HD.out).up (by omega)
 have HRD:=lh9 (zde HD.out)
 have HRZ:Hid (zaA 1174 (zcG m X)):=(zgJ HD.out (by omega:N<=64) HW.out).1.up (by omega)
 have HRW:Hid (zbP 8219 (zcG m X)):=(zbP.of_sz HRZ.out HRD.out).up (by omega)
 have HTZ:=lh9 (HZ.out.turn HD.out)
 have HTW:Hid (zbP 8 (ziW N m X)):=(zbP.of_sz HTZ.out (zeo _ _ _)).up (by omega)
 have HSH:=lh9 (red_shap HD.out)
 have HLE:Hid (∀r,r<N->zcU (zeP X (zcG m X) (zaJ m X).ld r (zaJ m X).ld.length)<0):=λr hr=>zoZ HD.out hr
 have HLS:Hid (∀r k,r<N->k<=(zaJ m X).ld.length->zat 7057 (zeP X (zcG m X) (zaJ m X).ld r k)):=λr k hr hk=>(zlI HD.out HRD.out hr HZ.out HRZ.out HSH.out.lt k (Nat.le_trans hk HSH.out.len) hk).up (by have:=HSH.out.len;omega)
 have HRED1:Hid (∀(w':World) (A:oA9) (c:Nat),zaj w'->zaS w' A N c m X->Hid (Calls Tryz.prog 40 #[.agg #[.slice A N c,.int .i64 (m:Int)]] w' (zeT w' N m (zcG m X) (zaJ m X).ld))):=λw' A c ht h=>zfb ht h HZ.out HW.out (by decide) (by decide) (by decide)
 have HRED2:Hid (∀(w':World) (A:oA9) (c:Nat),zaj w'->zaS w' A N c m (zcG m X)->Hid (Calls Tryz.prog 40 #[.agg #[.slice A N c,.int .i64 (m:Int)]] w' (zeT w' N m (zcG m X) (zaJ m X).ld))):=λw' A c ht h=>by
  have h1:=zfb ht h HRZ.out HRW.out (by decide) (by decide) (by decide)
  rw [(zjN HD.out).1,(zjN HD.out).2] at h1
  exact h1
 have HRANK:Hid (∀(w':World) (A:oA9) (c:Nat),zaj w'->zaS w' A m c N (ziW N m X)->Hid (Calls Tryz.prog 31 #[.agg #[.slice A m c,.int .i64 (N:Int)]] w' (λeo w2=>eo=.returned (.int .i64 ((zaJ m X).ld.length:Int))/\Below w'.heap.size w' w2))):=λw' A c ht h=>by
  have h1:=zoQ ht h HTZ.out HTW.out (by decide) (by decide) (by decide)
  rw [red_turn HD.out] at h1
  exact h1
 obtain⟨RM,hRM⟩:∃RM,zcG m X=RM:=⟨_,rfl⟩
 obtain⟨ld,hld⟩:∃ld,(zaJ m X).ld=ld:=⟨_,rfl⟩
 rw [hRM] at HRD HRZ HRED1 HRED2
 rw [hRM,hld] at HSH
 simp only [hRM,hld] at HLE HLS
 rw [hld] at HRED1 HRED2 HRANK
 clear hRM hld HRW HTW HW
 have HT:=lh9 (λw' (hb:Below w.heap.size w w')=>hT.on hb)
 clear hT h0 hz0
 go_enter Tryz.func6,Tryz.ntmps6
 obtain⟨bx1,bx2,-⟩:=zaw w 24 #[.int .u8 (z0:Int),.slice A0 n0 c0]
 have HB:=lh9 bx1
 have HK1:=lh9 bx2
 clear bx1 bx2
 go_wp2_with fail
 generalize w.alloc (.cells #[.int .u8 (z0:Int),.slice A0 n0 c0] 24)=W1 at*
 (with_reducible refine(zlG (HT.out _ HB.out)).mono ?_)
 rintro e W2 ⟨rfl,hb⟩
 have HB:=lh9 (zaa HB.out hb)
 obtain⟨p0,p1⟩:=(zab hb HK1.out).c2
 clear hb HK1
 go_wp2_with fail
 clear p0 p1
 (with_reducible refine(HMK.out _ HB.out).mono ?_)
 rintro e W3 ⟨A3,c3,rfl,hm3,-,hb⟩
 obtain⟨bx1,bx2,-⟩:=zaw W3 32 #[.slice A3 N c3,.int .i64 (m:Int)]
 have HB:=lh9 (zaa HB.out (zaa hb bx1))
 have HM:=lh9 (hm3.keep bx1)
 have HK3:=lh9 bx2
 obtain⟨p0,p1⟩:=HK3.out.c2
 clear hb bx1 bx2 hm3 HMK
 go_wp2_with fail
 generalize W3.alloc (.cells #[.slice A3 N c3,.int .i64 (m:Int)] 32)=W4 at*
 generalize W3.heap.size=q3 at*
 clear p0 p1
 (with_reducible refine(HRED1.out _ A3 c3 (HT.out _ HB.out) HM.out).out.mono ?_)
 rintro e W5 ⟨A5,c5,B5,k5,cB5,rfl,rfl,hm5,hI5,hc5,hc6,hb⟩
 obtain⟨bx1,bx2,-⟩:=zaw W5 32 #[.slice A5 N c5,.int .i64 (m:Int)]
 have hbx:=zaa hb bx1
 have HB:=lh9 (zaa HB.out hbx)
 have HM:=lh9 (HM.out.keep hbx)
 have HK3:=lh9 (zab hbx HK3.out)
 have HR:=lh9 (hm5.keep bx1)
 have HI:=lh9 (hI5.keep bx1)
 have HK4:=lh9 bx2
 clear hb bx1 bx2 hbx hm5 hI5 HRED1
 go_wp2_with fail
 generalize W5.alloc (.cells #[.slice A5 N c5,.int .i64 (m:Int)] 32)=W6 at*
 generalize W5.heap.size=q4 at*
 have HT:=lh9 (λw' (hb:Below W6.heap.size W6 w')=>HT.out w' (zaa HB.out hb))
 have HM:=lh9 (λw' (hb:Below W6.heap.size W6 w')=>HM.out.keep hb)
 have HR:=lh9 (λw' (hb:Below W6.heap.size W6 w')=>HR.out.keep hb)
 have HI:=lh9 (λw' (hb:Below W6.heap.size W6 w')=>HI.out.keep hb)
 have HK3:=lh9 (λw' (hb:Below W6.heap.size W6 w')=>zab hb HK3.out)
 have HK4:=lh9 (λw' (hb:Below W6.heap.size W6 w')=>zab hb HK4.out)
 have HBW:=lh9 (λw' (hb:Below W6.heap.size W6 w')=>zaa HB.out hb)
 have HB:=lh9 (Below.refl W6.heap.size W6).drew
 obtain⟨p0,p1⟩:=(HK3.out _ (Below.refl _ _)).c2
 obtain⟨p2,p3⟩:=(HK4.out _ (Below.refl _ _)).c2
 refine rg (csc p0 (csc p1 (csc p2 (csc p3 csn)))) (λhHeld=>?_)
 clear p0 p1 p2 p3
 generalize W6.drew=D6 at*
 refine tk 0 ?_
 refine tk 2 ?_
 refine rc 1 (λKK hK=>?_)
 go_simp
 (with_reducible refine(zbu A5 N c5 (m:Int) _).mono ?_)
 rintro e X0 ⟨rfl,hb⟩
 refine hK.out _ _ (Cs.below hHeld hb) (λhHeld=>?_)
 clear hK KK
 have HB:=lh9 (zaa HB.out hb)
 clear hb
 refine rc 3 (λKK hK=>?_)
 go_simp
 (with_reducible refine(zbu A3 N c3 (m:Int) _).mono ?_)
 rintro e X1 ⟨rfl,hb⟩
 refine hK.out _ _ (Cs.below hHeld hb) (λhHeld=>?_)
 clear hK KK
 have HB:=lh9 (zaa HB.out hb)
 clear hb
 refine tk 4 ?_
 refine tk 5 ?_
 refine tk 6 ?_
 refine tk 8 ?_
 refine rc 7 (λKK hK=>?_)
 go_simp
 (with_reducible refine(zbK A5 N c5 (m:Int) _).mono ?_)
 rintro e X2 ⟨rfl,hb⟩
 refine hK.out _ _ (Cs.below hHeld hb) (λhHeld=>?_)
 clear hK KK
 have HB:=lh9 (zaa HB.out hb)
 clear hb
 refine rc 9 (λKK hK=>?_)
 go_simp
 (with_reducible refine(zbK A3 N c3 (m:Int) _).mono ?_)
 rintro e X3 ⟨rfl,hb⟩
 refine hK.out _ _ (Cs.below hHeld hb) (λhHeld=>?_)
 clear hK KK
 have HB:=lh9 (zaa HB.out hb)
 clear hb
 refine tk 10 ?_
 refine tk 11 ?_
 refine tk 12 ?_
 refine tk 13 ?_
 refine tk 14 ?_
 refine rc 15 (λKK hK=>?_)
 go_simp
 (with_reducible refine(zku (HT.out _ HB.out) (HR.out _ HB.out) HRZ.out (HI.out _ HB.out) rfl HSH.out (by decide)).mono ?_)
 rintro e X4 ⟨rfl,hb⟩
 refine hK.out _ _ (Cs.below hHeld hb) (λhHeld=>?_)
 clear hK KK
 have HB:=lh9 (zaa HB.out hb)
 clear hb
 refine tk 16 ?_
 refine tk 17 ?_
 refine rdn ?_
 clear hHeld
 go_wp2_with fail
 have hB:=HB.out
 clear HB
 go_loopg [6] (N+1) (λg ix wr=>∃(r:Nat),r<=N/\N<g+r/\ix=.int .i64 r/\Below W6.heap.size W6 wr)
 case atStart=>exact⟨0,Nat.zero_le _,by omega,rfl,hB⟩
 case round=>
  clear hB
  obtain⟨r,hrN,hg,rfl,hB⟩:=hrel
  have HB:=lh9 hB
  clear hB
  obtain⟨p0,p1⟩:=(HK3.out _ HB.out).c2
  by_cases hlt:r<N
  ·have hd1:decide ((r:Int)<(N:Int))=true:=decide_eq_true (by omega)
   go_wp2_with fail
   (with_reducible refine(zbu A3 N c3 (m:Int) _).mono ?_)
   rintro e X5 ⟨rfl,hb⟩
   have HB:=lh9 (zaa HB.out hb)
   clear p0 p1
   obtain⟨p0,p1⟩:=(HK3.out _ HB.out).c2
   clear hb
   go_wp2_with fail
   (with_reducible refine(zhO (HT.out _ HB.out) (HM.out _ HB.out) HZ.out hlt (by decide)).mono ?_)
   rintro e X6 ⟨g7,rfl,-,ho7,hb⟩
   have HB:=lh9 (zaa HB.out hb)
   have hv7:zaC X6 (some ⟨g7,0,none⟩) m m (zeP X RM ld r 0):=zaD ho7
   clear hb ho7 p0 p1
   go_wp2_with fail
   have hB:=HB.out
   clear HB
   go_loopg [7,9] (ld.length+1) (λg xl ix wr=>∃(k:Nat) (V:oA9) (cv:Nat),k<=ld.length/\ld.length<g+k/\ix=.int .i64 k/\xl=.slice V m cv/\zaC wr V m cv (zeP X RM ld r k)/\Below W6.heap.size W6 wr)
   case atStart=>exact⟨0,_,_,Nat.zero_le _,by omega,rfl,rfl,hv7,hB⟩
   case round=>
    clear hB hv7
    obtain⟨k,V,cv,hkl,hg2,rfl,rfl,hv,hB⟩:=hrel
    have HB:=lh9 hB
    have HV:=lh9 hv
    clear hB hv
    by_cases hlk:k<ld.length
    ·have hd2:decide ((k:Int)<(ld.length:Int))=true:=decide_eq_true (by omega)
     have hkN:k<N:=Nat.lt_of_lt_of_le hlk HSH.out.len
     have i0:(0:Int)<=(k:Int):=by omega
     have i1:(k:Int)<(ld.length:Int):=by omega
     obtain⟨p2,p3⟩:=(HK4.out _ HB.out).c2
     go_wp2_with fail
     (with_reducible refine(zhO (HT.out _ HB.out) (HR.out _ HB.out) HRZ.out hkN (by decide)).mono ?_)
     rintro e X7 ⟨g8,rfl,-,ho8,hb⟩
     have HB:=lh9 (zaa HB.out hb)
     have HV:=lh9 (HV.out.keep hb)
     have HY:=lh9 (zaD ho8)
     clear hb ho8 p2 p3
     go_wp2_with fail
     obtain⟨p0,p1⟩:=(HK3.out _ HB.out).c2
     obtain⟨ad,hadB,hc⟩:=(HI.out _ HB.out).num k hlk
     rw [zkv hlk] at hc
     have hlm:ld.getD k 0<m:=HSH.out.lt k hlk
     have HSU:=lh9 (zeE X RM ld r k)
     have HYS:Hid (zat 1174 (RM.getD k [])):=HRZ.out.row (by rw [HRD.out.rows];exact hkN)
     have HXS:=lh9 (HLS.out r k hlt hkl)
     obtain⟨l,hl⟩:∃l,ld.getD k 0=l:=⟨_,rfl⟩
     rw [hl] at hc hlm HSU
     subst hadB
     have hbd:=(Below.refl X7.heap.size X7).drew
     have HB:=lh9 (zaa HB.out hbd)
     have HV:=lh9 (HV.out.keep hbd)
     have HY:=lh9 (HY.out.keep hbd)
     refine rg (csc p0 (csc p1 (csc hc csn))) (λhHeld=>?_)
     clear p0 p1 hc hl hbd
     generalize X7.drew=D9 at*
     refine tk 0 ?_
     refine tk 1 ?_
     refine tk 2 ?_
     refine tk 3 ?_
     refine tk 4 ?_
     refine tk 5 ?_
     refine tk 6 ?_
     refine tk 9 ?_
     refine rc 7 (λKK hK=>?_)
     go_simp
     (with_reducible refine(zkw (HT.out _ HB.out) (HM.out _ HB.out) HZ.out hlt hlm (by decide)).mono ?_)
     rintro e X8 ⟨b8,A8,n8,c8,E8,k8,f8,rfl,hw8,hb⟩
     refine hK.out _ _ (Cs.below hHeld hb) (λhHeld=>?_)
     clear hK KK
     have HB:=lh9 (zaa HB.out hb)
     have HV:=lh9 (HV.out.keep hb)
     have HY:=lh9 (HY.out.keep hb)
     have HW8:=lh9 hw8
     have HZ8:=lh9 (HZ.out.at_ (HM.out _ HB.out).dims hlt hlm)
     clear hb hw8
     refine rc 8 (λKK hK=>?_)
     go_simp
     (with_reducible refine(zhU (atM X r l) b8 A8 n8 c8 E8 k8 f8 _ (HT.out _ HB.out) HW8.out (HZ8.out.fit HW8.out (by decide))).mono ?_)
     rintro e X9 ⟨b9,A9,n9,c9,E9,k9,f9,rfl,hw9,hb⟩
     refine hK.out _ _ (Cs.below hHeld hb) (λhHeld=>?_)
     clear hK KK
     have HB:=lh9 (zaa HB.out hb)
     have HV:=lh9 (HV.out.keep hb)
     have HY:=lh9 (HY.out.keep hb)
     have HW9:=lh9 hw9
     clear hb hw9 HW8
     refine rc 10 (λKK hK=>?_)
     go_simp
     (with_reducible refine(zml (K:=7057) (K':=1174) (L:=1) (HT.out _ HB.out) HV.out HW9.out HY.out HXS.out HZ8.out.neg HYS.out (by omega) (by decide) (by decide)).mono ?_)
     rintro e X10 ⟨g10,rfl,-,ho10,hb⟩
     refine hK.out _ _ (Cs.below hHeld hb) (λhHeld=>?_)
     clear hK KK
     have HB:=lh9 (zaa HB.out hb)
     have HV2:Hid (zaC X10 (some ⟨g10,0,none⟩) m m (zeP X RM ld r (k+1))):=by rw [HSU.out];exact zaD ho10
     clear hb ho10 HV HY HW9 HZ8 HXS HYS HSU
     refine tk 11 ?_
     refine tk 12 ?_
     refine tk 13 ?_
     refine tk 14 ?_
     refine tk 15 ?_
     refine rdn ?_
     clear hHeld
     go_wp2
     go_roundg (ld.length - k)
     case measure=>omega
     case rel=>exact⟨k+1,_,_,by omega,by omega,by go_num,rfl,HV2.out,HB.out⟩
    ·have hd2:decide ((k:Int)<(ld.length:Int))=false:=decide_eq_false (by omega)
     have hke:k=ld.length:=by omega
     subst hke
     have HXS:=lh9 (HLS.out r _ hlt (Nat.le_refl _))
     have HXE:=lh9 (decide_eq_true (HLE.out r hlt))
     go_wp2_with fail
     (with_reducible refine(vec_zero HXE.out (HT.out _ HB.out) HV.out HXS.out (by omega) (by decide)).mono ?_)
     rintro e X11 ⟨rfl,hb⟩
     have HB:=lh9 (zaa HB.out hb)
     clear hb HV HXS HXE
     go_wp2
     go_roundg (N - r)
     case measure=>omega
     case rel=>exact⟨r+1,by omega,by omega,by go_num,HB.out⟩
  ·have hd1:decide ((r:Int)<(N:Int))=false:=decide_eq_false (by omega)
   go_wp2_with fail
   (with_reducible refine(zbu A3 N c3 (m:Int) _).mono ?_)
   rintro e X12 ⟨rfl,hb⟩
   have HB:=lh9 (zaa HB.out hb)
   clear p0 p1
   obtain⟨p2,p3⟩:=(HK4.out _ HB.out).c2
   clear hb
   go_wp2_with fail
   clear p2 p3
   (with_reducible refine(HRED2.out _ A5 c5 (HT.out _ HB.out) (HR.out _ HB.out)).out.mono ?_)
   rintro e W20 ⟨A20,c20,B20,k20,cB20,rfl,rfl,hm20,-,-,-,hb⟩
   obtain⟨bx1,bx2,-⟩:=zaw W20 32 #[.slice A20 N c20,.int .i64 (m:Int)]
   have hbx:=zaa hb bx1
   have HB:=lh9 (zaa HB.out hbx)
   have HM20:=lh9 (hm20.keep bx1)
   have HK20:=lh9 bx2
   obtain⟨p2,p3⟩:=(HK4.out _ HB.out).c2
   obtain⟨p4,p5⟩:=HK20.out.c2
   clear hb bx1 bx2 hbx hm20
   go_wp2_with fail
   generalize W20.alloc (.cells #[.slice A20 N c20,.int .i64 (m:Int)] 32)=W21 at*
   generalize W20.heap.size=q20 at*
   (with_reducible refine(zlL (K:=1174) (K':=1174) (t:=true) (decide_eq_true ⟨rfl,rfl⟩) (HT.out _ HB.out) HM20.out (HR.out _ HB.out) HRZ.out HRZ.out (by decide) (by decide)).mono ?_)
   rintro e X13 ⟨rfl,hb⟩
   have HB:=lh9 (zaa HB.out hb)
   clear p2 p3 p4 p5
   obtain⟨p0,p1⟩:=(HK3.out _ HB.out).c2
   clear hb HM20 HK20
   go_wp2_with fail
   (with_reducible refine(znh (HT.out _ HB.out) (HM.out _ HB.out) HZ.out (by decide)).mono ?_)
   rintro e X14 ⟨A22,c22,rfl,hm22,-,hb⟩
   have HB:=lh9 (zaa HB.out hb)
   have HM22:=lh9 hm22
   clear hb hm22 p0 p1
   go_wp2_with fail
   (with_reducible refine((HRANK.out _ A22 c22 (HT.out _ HB.out) HM22.out).out).mono ?_)
   rintro e X15 ⟨rfl,hb⟩
   have HB:=lh9 (zaa HB.out hb)
   clear hb HM22
   have HB:=lh9 (HBW.out _ HB.out)
   go_wp2
   go_ret
   exact⟨rfl,HB.out⟩
