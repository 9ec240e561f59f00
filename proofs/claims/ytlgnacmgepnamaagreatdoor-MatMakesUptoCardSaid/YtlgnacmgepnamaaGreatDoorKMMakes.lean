/- What this claim leans on. -/
import Derived.Test.YtlgnacmgepnamaaGreatDoorKMAwake
import Derived.Test.YtlgnacmgepnamaaGreatDoorKRLaw
namespace Go.Proofs.YtlgnacmgepnamaaGreatDoor
open Go Go.RowKit
set_option maxHeartbeats 16000000
set_option maxRecDepth 100000
set_option linter.unusedVariables false
set_option linter.unusedSimpArgs false
theorem matMakes_core (z0:Nat)(A0:oA9)(n0 c0:Nat)(R0:zhJ)(a1:Int)(a2:Int)(a3:Int)(a4:Int)(w:World)(hz0:z0<=255)(h0:zaV w A0 n0 c0 R0)(b1:zbg a1)(b2:zbg a2)(b3:zbg a3)(b4:zbg a4)(hT:zal w):
  Calls Tryz.prog 3 #[.agg #[.int .u8 (z0:Int),.slice A0 n0 c0],.int .i64 a1,.int .i64 a2,.int .i64 a3,.int .i64 a4] w λe w'=>e=.returned (.bool true)/\Below w.heap.size w w':=by
 have HRF0:=lh9 (λW (hb:Below w.heap.size w W)=>zpb hz0 (h0.below hb))
 have HMK0:=lh9 (λW (hb:Below w.heap.size w W)=>zmV (hT.on hb) hz0 (h0.below hb))
 have HSX0:=lh9 (zll (m:=z0%7) h0 (Nat.min_le_left n0 6))
 have HDX0:=lh9 (zfO (z0%7) R0 (min n0 6))
 obtain⟨m0,hm0⟩:∃m,z0%7=m:=⟨_,rfl⟩
 obtain⟨N0,hN0⟩:∃N,min n0 6=N:=⟨_,rfl⟩
 have bm0:m0<=6:=by omega
 have bN0:N0<=6:=by omega
 rw [hm0,hN0] at HMK0 HRF0 HSX0 HDX0
 obtain⟨X0,hX0⟩:∃X,zfC m0 R0 N0=X:=⟨_,rfl⟩
 rw [hX0] at HMK0 HRF0 HSX0 HDX0
 have HT:=lh9 (λw' (hb:Below w.heap.size w w')=>hT.on hb)
 have HB:=lh9 (Below.refl w.heap.size w)
 clear hT h0 hz0 hm0 hN0 hX0
 go_enter Tryz.func3,Tryz.ntmps3
 obtain⟨bq0,bq1,-⟩:=zaA w 24 #[.int .u8 (z0:Int),.slice A0 n0 c0]
 have HB:=lh9 (zac HB.out bq0)
 have HK1:=lh9 (bq1)
 clear bq0 bq1
 go_wp2_with fail
 generalize w.alloc (.cells #[.int .u8 (z0:Int),.slice A0 n0 c0] 24)=W2 at*
 (with_reducible refine(zlv (HT.out _ HB.out)).mono ?_)
 rintro e X3 ⟨rfl,hb⟩
 have HB:=lh9 (zac HB.out hb)
 have HK1:=lh9 (zae hb HK1.out)
 clear hb 
 go_wp2_with fail
 have HS4:Hid (zaD (1) (X0)):=HSX0.out
 obtain⟨p6_0,p6_1⟩:=HK1.out.c2
 have GG:=lh9 (λw' (h:Below X3.heap.size X3 w')=>(csc (zad h p6_0) (csc (zad h p6_1) csn)))
 refine rgB (λhHeld=>?_)
 clear p6_0 p6_1
 refine tl 0 GG.out ?_
 refine tl 2 GG.out ?_
 refine zbA (L:=#[true,true,true,true,true,true,true,true])
  (J:=fun a0 l a w' => ∃ (fl1 fl3 fl4 fl5 fl6 fl7 : Bool) (A4 : oA9) (c4 : Nat) (A5 : oA9) (c5 ad4 ad5 : Nat),l = #[true,fl1,true,fl3,fl4,fl5,fl6,fl7] ∧ zcX [27,29,11,12] a0 a ∧ Hid (Below X3.heap.size X3 w') ∧
    Hid (Gd fl1 (a.tmps.getD 27 undef=.agg #[.slice A4 N0 c4,.int .i64 (m0:Int)]/\zaI w' A4 N0 c4 m0 (X0)))/\
    Hid (Gd fl3 (a.tmps.getD 29 undef=.agg #[.slice A5 N0 c5,.int .i64 (m0:Int)]/\zcJ w' A5 N0 c5 m0 (X0)))/\
    Hid (Gd fl4 (a.tmps.getD 11 undef=.pointer (some ⟨ad4,0,none⟩)/\X3.heap.size<=ad4/\Blk w' ad4 28 (bif fl6 then #[.slice A4 N0 c4,.int .i64 (m0:Int)] else #[.slice none 0 0,.int .i64 0])))/\
    Hid (Gd fl5 (a.tmps.getD 12 undef=.pointer (some ⟨ad5,0,none⟩)/\X3.heap.size<=ad5/\Blk w' ad5 32 (bif fl7 then #[.slice A5 N0 c5,.int .i64 (m0:Int)] else #[.slice none 0 0,.int .i64 0])))/\
    Hid (Gd fl4 (Gd fl5 (ad4≠ad5)))/\
    Hid (Gd fl3 (fl1=true))/\
    Hid (Gd fl6 (fl1=true))/\
    Hid (Gd fl6 (fl3=true))/\
    Hid (Gd fl6 (fl4=true))/\
    Hid (Gd fl7 (fl3=true))/\
    Hid (Gd fl7 (fl5=true))/\
    Hid (Gd fl7 (fl6=true)))
  (by rfl) ?_ ?_ ?_
 ·exact⟨false,false,false,false,false,false,none,0,none,0,0,0,by kernel_rfl,zcX.refl _ _,hHeld,Gd.no,Gd.no,Gd.no,Gd.no,Gd.no,Gd.no,Gd.no,Gd.no,Gd.no,Gd.no,Gd.no,Gd.no⟩
 ·intro OPS Ac0 Q0 hO hAs hA
  have RB26:Ac0.tmps.getD 26 undef=.agg #[.int .u8 (z0:Int),.slice A0 n0 c0]:=(hA 26 undef).trans (by kernel_rfl)
  have RB28:Ac0.tmps.getD 28 undef=.agg #[.int .u8 (z0:Int),.slice A0 n0 c0]:=(hA 28 undef).trans (by kernel_rfl)
  have hsz:Ac0.tmps.size=202:=hAs.trans (by kernel_rfl)
  clear hAs hA
  refine⟨?_,?_⟩
  ·rintro l a w' ⟨fl1,fl3,fl4,fl5,fl6,fl7,A4,c4,A5,c5,ad4,ad5,rfl,-⟩ hr
   obtain rfl:fl1=true:=als 1 hr hO
   obtain rfl:fl3=true:=als 3 hr hO
   obtain rfl:fl4=true:=als 4 hr hO
   obtain rfl:fl5=true:=als 5 hr hO
   obtain rfl:fl6=true:=als 6 hr hO
   obtain rfl:fl7=true:=als 7 hr hO
   rfl
  ·rintro l a w' i ⟨fl1,fl3,fl4,fl5,fl6,fl7,A4,c4,A5,c5,ad4,ad5,rfl,HKp,hBi,qf1,qf3,qf4,qf5,qn4_5,qd3_1,qd6_1,qd6_3,qd6_4,qd7_3,qd7_5,qd7_6⟩ hne hi
   have hlt:i<8:=by have:=zdn hi;rw [hO] at this;exact this
   rcases (show i=0\/i=1\/i=2\/i=3\/i=4\/i=5\/i=6\/i=7 by omega) with rfl|rfl|rfl|rfl|rfl|rfl|rfl|rfl
   ·cases (zai hi:true=false)
   ·obtain rfl:fl1=false:=zai hi
    obtain rfl:fl3=false:=Gd.off qd3_1.out
    obtain rfl:fl6=false:=Gd.off qd6_1.out
    obtain rfl:fl7=false:=Gd.off qd7_3.out
    have rd26:=HKp.get 26 (by decide) RB26
    have HBn:=lh9 (zac HB.out hBi.out)
    refine wog hO (λK' hK=>?_)
    go_simp
    (with_reducible refine(HMK0.out _ HBn.out).mono ?_)
    rintro e w2 ⟨nA4,nc4,rfl,nhm4,-,hb⟩
    exact hK.out _ _ ⟨zac hBi.out hb,true,false,fl4,fl5,false,false,nA4,nc4,A5,c5,ad4,ad5,by rfl,HKp.put (by decide) _,zac hBi.out hb,Gd.yes ⟨zaL (HKp.lt (by rw [hsz];decide)) _,nhm4⟩,Gd.no,kq qf4.out λh=>⟨h.1,zae hb h.2⟩,kq qf5.out λh=>⟨h.1,zae hb h.2⟩,qn4_5,Gd.no,Gd.no,Gd.no,Gd.no,Gd.no,Gd.no,Gd.no⟩
   ·cases (zai hi:true=false)
   ·obtain rfl:fl3=false:=zai hi
    obtain rfl:fl1=true:=rdp 1 1 hi hO
    obtain rfl:fl6=false:=Gd.off qd6_3.out
    obtain rfl:fl7=false:=Gd.off qd7_3.out
    have rd28:=HKp.get 28 (by decide) RB28
    have HBn:=lh9 (zac HB.out hBi.out)
    refine wog hO (λK' hK=>?_)
    go_simp
    (with_reducible refine(HRF0.out _ HBn.out).mono ?_)
    rintro e w2 ⟨nA5,nc5,rfl,nhm5,hb⟩
    exact hK.out _ _ ⟨zac hBi.out hb,true,true,fl4,fl5,false,false,A4,c4,nA5,nc5,ad4,ad5,by rfl,HKp.put (by decide) _,zac hBi.out hb,kq qf1.out λh=>zaI.keep (h) hb,Gd.yes ⟨zaL (HKp.lt (by rw [hsz];decide)) _,nhm5⟩,kq qf4.out λh=>⟨h.1,zae hb h.2⟩,kq qf5.out λh=>⟨h.1,zae hb h.2⟩,qn4_5,λ_=>rfl,Gd.no,Gd.no,Gd.no,Gd.no,Gd.no,Gd.no⟩
   ·obtain rfl:fl4=false:=zai hi
    obtain rfl:fl6=false:=Gd.off qd6_4.out
    obtain rfl:fl7=false:=Gd.off qd7_6.out
    refine wog hO (λK' hK=>?_)
    go_simp
    have hb:=zbp w' (.cells #[.slice none 0 0,.int .i64 0] 28)
    exact hK.out _ _ ⟨zac hBi.out hb,fl1,fl3,true,fl5,false,false,A4,c4,A5,c5,w'.heap.size,ad5,by rfl,HKp.put (by decide) _,zac hBi.out hb,kq qf1.out λh=>zaI.keep (h) hb,kq qf3.out λh=>zcJ.keep (h) hb,Gd.yes ⟨zaL (HKp.lt (by rw [hsz];decide)) _,hBi.out.size,Blk.new w' _ _⟩,kq qf5.out λh=>⟨h.1,zae hb h.2⟩,Gd.yes (qf5.out.mono λh=>by have:=Blk.lt h.2.2;omega),qd3_1,Gd.no,Gd.no,Gd.no,Gd.no,Gd.no,Gd.no⟩
   ·obtain rfl:fl5=false:=zai hi
    obtain rfl:fl7=false:=Gd.off qd7_5.out
    refine wog hO (λK' hK=>?_)
    go_simp
    have hb:=zbp w' (.cells #[.slice none 0 0,.int .i64 0] 32)
    exact hK.out _ _ ⟨zac hBi.out hb,fl1,fl3,fl4,true,fl6,false,A4,c4,A5,c5,ad4,w'.heap.size,by rfl,HKp.put (by decide) _,zac hBi.out hb,kq qf1.out λh=>zaI.keep (h) hb,kq qf3.out λh=>zcJ.keep (h) hb,kq qf4.out λh=>⟨h.1,zae hb h.2⟩,Gd.yes ⟨zaL (HKp.lt (by rw [hsz];decide)) _,hBi.out.size,Blk.new w' _ _⟩,qf4.out.mono λh=>Gd.yes (by have:=Blk.lt h.2.2;omega),qd3_1,qd6_1,qd6_3,qd6_4,Gd.no,Gd.no,Gd.no⟩
   ·obtain rfl:fl6=false:=zai hi
    obtain rfl:fl1=true:=rdp 1 1 hi hO
    obtain rfl:fl3=true:=rdp 3 2 hi hO
    obtain rfl:fl4=true:=rdp 4 0 hi hO
    obtain rfl:fl5=true:=rdp 5 8 hi hO
    obtain rfl:fl7=false:=Gd.off qd7_6.out
    have rd11:=qf4.out.get.1
    have rd27:=qf1.out.get.1
    obtain⟨_,hg,hk⟩:=qf4.out.get
    have hk:Blk w' ad4 28 #[.slice none 0 0,.int .i64 0]:=hk
    obtain⟨sc0,sf0,sc1,sf1⟩:=st2 hk (.slice A4 N0 c4)
    have hj1:=sn2 hk (.slice A4 N0 c4) (.int .i64 (m0:Int))
    have hBn:=bl2 (.slice A4 N0 c4) (.int .i64 (m0:Int)) hg hBi.out
    refine wog hO (λK' hK=>?_)
    go_simp
    exact hK.out _ _ ⟨hBn,true,true,true,true,true,false,A4,c4,A5,c5,ad4,ad5,by rfl,HKp,hBn,qf1.out.mono λh=>⟨h.1,zaI.offz (h.2) hk _ _⟩,qf3.out.mono λh=>⟨h.1,zcJ.offz (h.2) hk _ _⟩,qf4.out.mono λh=>⟨h.1,h.2.1,hj1⟩,λhf9=>(λh=>⟨h.1,h.2.1,Blk.far (p:=⟨ad4,1,none⟩) (Blk.far (p:=⟨ad4,0,none⟩) (h.2.2) (Ne.symm (qn4_5.out rfl hf9)) (.slice A4 N0 c4)) (Ne.symm (qn4_5.out rfl hf9)) (.int .i64 (m0:Int))⟩) (qf5.out hf9),qn4_5,λ_=>rfl,λ_=>rfl,λ_=>rfl,λ_=>rfl,Gd.no,Gd.no,Gd.no⟩
   ·obtain rfl:fl7=false:=zai hi
    obtain rfl:fl1=true:=rdp 1 4 hi hO
    obtain rfl:fl3=true:=rdp 3 1 hi hO
    obtain rfl:fl4=true:=rdp 4 7 hi hO
    obtain rfl:fl5=true:=rdp 5 0 hi hO
    obtain rfl:fl6=true:=rdp 6 2 hi hO
    have rd12:=qf5.out.get.1
    have rd29:=qf3.out.get.1
    obtain⟨_,hg,hk⟩:=qf5.out.get
    have hk:Blk w' ad5 32 #[.slice none 0 0,.int .i64 0]:=hk
    obtain⟨sc0,sf0,sc1,sf1⟩:=st2 hk (.slice A5 N0 c5)
    have hj1:=sn2 hk (.slice A5 N0 c5) (.int .i64 (m0:Int))
    have hBn:=bl2 (.slice A5 N0 c5) (.int .i64 (m0:Int)) hg hBi.out
    refine wog hO (λK' hK=>?_)
    go_simp
    exact hK.out _ _ ⟨hBn,true,true,true,true,true,true,A4,c4,A5,c5,ad4,ad5,by rfl,HKp,hBn,qf1.out.mono λh=>⟨h.1,zaI.offz (h.2) hk _ _⟩,qf3.out.mono λh=>⟨h.1,zcJ.offz (h.2) hk _ _⟩,λhf9=>(λh=>⟨h.1,h.2.1,Blk.far (p:=⟨ad5,1,none⟩) (Blk.far (p:=⟨ad5,0,none⟩) (h.2.2) (qn4_5.out hf9 rfl) (.slice A5 N0 c5)) (qn4_5.out hf9 rfl) (.int .i64 (m0:Int))⟩) (qf4.out hf9),qf5.out.mono λh=>⟨h.1,h.2.1,hj1⟩,qn4_5,λ_=>rfl,λ_=>rfl,λ_=>rfl,λ_=>rfl,λ_=>rfl,λ_=>rfl,λ_=>rfl⟩
 rintro a wm7 ⟨fl1,fl3,fl4,fl5,fl6,fl7,A4,c4,A5,c5,ad4,ad5,hl,HKp,hBi,qf1,qf3,qf4,qf5,qn4_5,qd3_1,qd6_1,qd6_3,qd6_4,qd7_3,qd7_5,qd7_6⟩
 have xx1:fl1=true:=gdl 1 hl
 subst xx1
 have xx3:fl3=true:=gdl 3 hl
 subst xx3
 have xx4:fl4=true:=gdl 4 hl
 subst xx4
 have xx5:fl5=true:=gdl 5 hl
 subst xx5
 have xx6:fl6=true:=gdl 6 hl
 subst xx6
 have xx7:fl7=true:=gdl 7 hl
 subst xx7
 obtain⟨rv1,hw1_0⟩:=qf1.out.get
 obtain⟨rv3,hw3_0⟩:=qf3.out.get
 obtain⟨rv4,hg4,hk4⟩:=qf4.out.get
 obtain⟨rv5,hg5,hk5⟩:=qf5.out.get
 obtain rfl:=HKp.eq [(27,.agg #[.slice A4 N0 c4,.int .i64 (m0:Int)]),(29,.agg #[.slice A5 N0 c5,.int .i64 (m0:Int)]),(11,.pointer (some ⟨ad4,0,none⟩)),(12,.pointer (some ⟨ad5,0,none⟩))] rfl (by
  intro p hp
  simp only [List.mem_cons,List.not_mem_nil,or_false] at hp
  rcases hp with rfl|rfl|rfl|rfl
  ·exact rv1
  ·exact rv3
  ·exact rv4
  ·exact rv5)
 have hBv:=hBi.out
 clear hl hBi HKp qf1 qf3 qf4 qf5 qn4_5 qd3_1 qd6_1 qd6_3 qd6_4 qd7_3 qd7_5 qd7_6 rv1 rv3 rv4 rv5
 have hk4:Blk wm7 ad4 28 #[.slice A4 N0 c4,.int .i64 (m0:Int)]:=hk4
 have hk5:Blk wm7 ad5 32 #[.slice A5 N0 c5,.int .i64 (m0:Int)]:=hk5
 rw [show due #[true,true,true,true,true,true,true,true]=0 from rfl]
 simp only [zcO,List.foldl,Act.put,List.setIfInBounds_toArray,List.set_cons_zero,List.set_cons_succ]
 refine wpAnyH_done (by kernel_rfl) ?_ _
 refine NoPanic.normal ?_
 have HB:=lh9 (zac HB.out hBv)
 have HK1:=lh9 (zae hBv HK1.out)
 have HM4:=lh9 (hw1_0)
 have HR5:=lh9 (hw3_0)
 obtain⟨adx8,hga⟩:∃x,x=ad4:=⟨_,rfl⟩
 subst hga
 have HK8:=lh9 (hk4)
 obtain⟨adx9,hga⟩:∃x,x=ad5:=⟨_,rfl⟩
 subst hga
 have HK9:=lh9 (hk5)
 clear hBv GG hk4 hg4 hk5 hg5 hw1_0 hw3_0
 clear HK1
 obtain⟨ok,hq⟩:∃b,zcy a1 a2=b:=⟨_,rfl⟩
 have H_ok:=lh9 hq
 clear hq
 obtain⟨fine,hq⟩:∃b,zcy a1 a1=b:=⟨_,rfl⟩
 have H_fine:=lh9 hq
 clear hq
 obtain⟨r1,hq⟩:∃k,a1.toNat=k:=⟨_,rfl⟩
 have HR1:=lh9 hq
 clear hq
 obtain⟨r2,hq⟩:∃k,a2.toNat=k:=⟨_,rfl⟩
 have HR2:=lh9 hq
 clear hq
 go_wp2_with fail
 (with_reducible refine(zlH HR1.out HR2.out H_ok.out (HT.out _ HB.out)).mono ?_)
 rintro e X11 ⟨A10,n10,c10,z10,rfl,hc10,hz10,hb⟩
 have HB:=lh9 (zac HB.out hb)
 have HM4:=lh9 (HM4.out.keep hb)
 have HR5:=lh9 (HR5.out.keep hb)
 have HK8:=lh9 (zae hb HK8.out)
 have HK9:=lh9 (zae hb HK9.out)
 have HI10:=lh9 (hc10)
 clear hb hc10
 have HZ10:=lh9 hz10
 clear hz10
 obtain⟨bq0,bq1,-⟩:=zaA X11 28 #[.slice A10 n10 c10,.int .i64 z10]
 have HB:=lh9 (zac HB.out bq0)
 have HM4:=lh9 (HM4.out.keep bq0)
 have HR5:=lh9 (HR5.out.keep bq0)
 have HK8:=lh9 (zae bq0 HK8.out)
 have HK9:=lh9 (zae bq0 HK9.out)
 have HI10:=lh9 (HI10.out.keep bq0)
 have HK12:=lh9 (bq1)
 clear bq0 bq1
 go_wp2_with fail
 generalize X11.alloc (.cells #[.slice A10 n10 c10,.int .i64 z10] 28)=W14 at*
 generalize X11.heap.size=q14 at*
 (with_reducible refine(zkE HR1.out HR2.out H_ok.out).mono ?_)
 rintro e X15 ⟨A13,n13,c13,z13,rfl,hc13,hz13,hb⟩
 have HB:=lh9 (zac HB.out hb)
 have HM4:=lh9 (HM4.out.keep hb)
 have HR5:=lh9 (HR5.out.keep hb)
 have HK8:=lh9 (zae hb HK8.out)
 have HK9:=lh9 (zae hb HK9.out)
 have HI10:=lh9 (HI10.out.keep hb)
 have HK12:=lh9 (zae hb HK12.out)
 have HI13:=lh9 (hc13)
 clear hb hc13
 have HZ13:=lh9 hz13
 clear hz13
 obtain⟨bq0,bq1,-⟩:=zaA X15 32 #[.slice A13 n13 c13,.int .i64 z13]
 have HB:=lh9 (zac HB.out bq0)
 have HM4:=lh9 (HM4.out.keep bq0)
 have HR5:=lh9 (HR5.out.keep bq0)
 have HK8:=lh9 (zae bq0 HK8.out)
 have HK9:=lh9 (zae bq0 HK9.out)
 have HI10:=lh9 (HI10.out.keep bq0)
 have HK12:=lh9 (zae bq0 HK12.out)
 have HI13:=lh9 (HI13.out.keep bq0)
 have HK16:=lh9 (bq1)
 clear bq0 bq1
 go_wp2_with fail
 generalize X15.alloc (.cells #[.slice A13 n13 c13,.int .i64 z13] 32)=W18 at*
 generalize X15.heap.size=q18 at*
 (with_reducible refine(zlI HR1.out H_fine.out (HT.out _ HB.out)).mono ?_)
 rintro e X19 ⟨A17,n17,c17,z17,rfl,hc17,hz17,hb⟩
 have HB:=lh9 (zac HB.out hb)
 have HM4:=lh9 (HM4.out.keep hb)
 have HR5:=lh9 (HR5.out.keep hb)
 have HK8:=lh9 (zae hb HK8.out)
 have HK9:=lh9 (zae hb HK9.out)
 have HI10:=lh9 (HI10.out.keep hb)
 have HK12:=lh9 (zae hb HK12.out)
 have HI13:=lh9 (HI13.out.keep hb)
 have HK16:=lh9 (zae hb HK16.out)
 have HI17:=lh9 (hc17)
 clear hb hc17
 clear hz17
 obtain⟨bq0,bq1,-⟩:=zaA X19 28 #[.slice A17 n17 c17,.int .i64 z17]
 have HB:=lh9 (zac HB.out bq0)
 have HM4:=lh9 (HM4.out.keep bq0)
 have HR5:=lh9 (HR5.out.keep bq0)
 have HK8:=lh9 (zae bq0 HK8.out)
 have HK9:=lh9 (zae bq0 HK9.out)
 have HI10:=lh9 (HI10.out.keep bq0)
 have HK12:=lh9 (zae bq0 HK12.out)
 have HI13:=lh9 (HI13.out.keep bq0)
 have HK16:=lh9 (zae bq0 HK16.out)
 have HI17:=lh9 (HI17.out.keep bq0)
 have HK20:=lh9 (bq1)
 clear bq0 bq1
 go_upto_region 7 with fail
 generalize X19.alloc (.cells #[.slice A17 n17 c17,.int .i64 z17] 28)=W21 at*
 generalize X19.heap.size=q21 at*
 go_upto_region 7 with fail
 go_cut [47,48,49,50,51,52,53,54,55,56,57,58,59,60,61,62,63,64,65,66,67,68,69,70,71] (λs47 s48 s49 s50 s51 s52 s53 s54 s55 s56 s57 s58 s59 s60 s61 s62 s63 s64 s65 s66 s67 s68 s69 s70 s71 wx=>s71=.bool false/\Below W21.heap.size W21 wx)
 case first=>
  as_aux_lemma=>
   have HW:=lh9 (Below.refl W21.heap.size W21)
   have hb1:=bne_b ok
   have hb2:=zkq ok
   have hb3:=bne_b fine
   have hb4:=zkq fine
   have HZS:Hid (zaD 1 (zcn r1 r2 λ_ _=>0)):=zaD.tab λ_ _ _ _=>SzQ.zero
   have HL0:Hid (∀W,zal W->Calls Tryz.prog 15 #[.agg #[.slice none 0 0,.int .i64 0],.agg #[.slice none 0 0,.int .i64 0]] W (λe w'=>e=.returned (.bool true)/\Below W.heap.size W w')):=λW h=>zdb h (zaI.nil W) (zcJ.nil W 0 (by decide)) (zaD.nil 1)
   by_cases h0:0<=a1
   ·have d1:decide (0<=a1)=true:=decide_eq_true h0
    have d2:decide (a1<=64)=fine:=by have h1:=H_fine.out;unfold zcy at h1;rw [d1] at h1;rw [<-h1];cases decide (a1<=64)<;>rfl
    have d1':decide (a1>=0)=true:=decide_eq_true h0
    cases ok
    ·clear h0
     obtain⟨rfl,rfl,rfl,rfl⟩:=HZ10.out rfl
     obtain⟨rfl,rfl,rfl,rfl⟩:=HZ13.out rfl
     obtain⟨p22_0,p22_1⟩:=HK12.out.c2
     obtain⟨p23_0,p23_1⟩:=HK16.out.c2
     go_wp2_with fail
     clear p22_0 p22_1 p23_0 p23_1
     (with_reducible refine(HL0.out _ (HT.out _ HB.out)).mono ?_)
     rintro e X24 ⟨rfl,hb⟩
     have HB:=lh9 (zac HB.out hb)
     have HM4:=lh9 (HM4.out.keep hb)
     have HR5:=lh9 (HR5.out.keep hb)
     have HK8:=lh9 (zae hb HK8.out)
     have HK9:=lh9 (zae hb HK9.out)
     have HW:=lh9 (zac HW.out hb)
     clear hb 
     obtain⟨p25_0,p25_1⟩:=HK8.out.c2
     obtain⟨p26_0,p26_1⟩:=HK9.out.c2
     go_wp2_with fail
     clear p25_0 p25_1 p26_0 p26_1
     (with_reducible refine(zdb (HT.out _ HB.out) HM4.out HR5.out HSX0.out).mono ?_)
     rintro e X27 ⟨rfl,hb⟩
     have HW:=lh9 (zac HW.out hb)
     clear hb 
     go_wp2
     go_meet
     exact⟨rfl,HW.out⟩
    ·obtain⟨rfl,rfl,hmm⟩:=HI10.out rfl
     obtain⟨rfl,rfl,hrr⟩:=HI13.out rfl
     have HMm:=lh9 hmm
     have HRr:=lh9 hrr
     clear hmm hrr HI10 HI13 h0
     obtain⟨p22_0,p22_1⟩:=HK12.out.c2
     obtain⟨p23_0,p23_1⟩:=HK16.out.c2
     go_wp2_with fail
     clear p22_0 p22_1 p23_0 p23_1
     (with_reducible refine(zdb (HT.out _ HB.out) HMm.out HRr.out HZS.out).mono ?_)
     rintro e X24 ⟨rfl,hb⟩
     have HB:=lh9 (zac HB.out hb)
     have HM4:=lh9 (HM4.out.keep hb)
     have HR5:=lh9 (HR5.out.keep hb)
     have HK8:=lh9 (zae hb HK8.out)
     have HK9:=lh9 (zae hb HK9.out)
     have HW:=lh9 (zac HW.out hb)
     clear hb 
     obtain⟨p25_0,p25_1⟩:=HK8.out.c2
     obtain⟨p26_0,p26_1⟩:=HK9.out.c2
     go_wp2_with fail
     clear p25_0 p25_1 p26_0 p26_1
     (with_reducible refine(zdb (HT.out _ HB.out) HM4.out HR5.out HSX0.out).mono ?_)
     rintro e X27 ⟨rfl,hb⟩
     have HW:=lh9 (zac HW.out hb)
     clear hb 
     go_wp2
     go_meet
     exact⟨rfl,HW.out⟩
   ·have d1:decide (0<=a1)=false:=decide_eq_false h0
    have d1':decide (a1>=0)=false:=decide_eq_false h0
    obtain rfl:false=ok:=by rw [<-H_ok.out];unfold zcy;rw [d1];rfl
    obtain rfl:false=fine:=by rw [<-H_fine.out];unfold zcy;rw [d1];rfl
    clear h0
    obtain⟨rfl,rfl,rfl,rfl⟩:=HZ10.out rfl
    obtain⟨rfl,rfl,rfl,rfl⟩:=HZ13.out rfl
    obtain⟨p22_0,p22_1⟩:=HK12.out.c2
    obtain⟨p23_0,p23_1⟩:=HK16.out.c2
    go_wp2_with fail
    clear p22_0 p22_1 p23_0 p23_1
    (with_reducible refine(HL0.out _ (HT.out _ HB.out)).mono ?_)
    rintro e X24 ⟨rfl,hb⟩
    have HB:=lh9 (zac HB.out hb)
    have HM4:=lh9 (HM4.out.keep hb)
    have HR5:=lh9 (HR5.out.keep hb)
    have HK8:=lh9 (zae hb HK8.out)
    have HK9:=lh9 (zae hb HK9.out)
    have HW:=lh9 (zac HW.out hb)
    clear hb 
    obtain⟨p25_0,p25_1⟩:=HK8.out.c2
    obtain⟨p26_0,p26_1⟩:=HK9.out.c2
    go_wp2_with fail
    clear p25_0 p25_1 p26_0 p26_1
    (with_reducible refine(zdb (HT.out _ HB.out) HM4.out HR5.out HSX0.out).mono ?_)
    rintro e X27 ⟨rfl,hb⟩
    have HW:=lh9 (zac HW.out hb)
    clear hb 
    go_wp2
    go_meet
    exact⟨rfl,HW.out⟩
 case rest=>
  obtain⟨rfl,hb⟩:=hcut
  obtain⟨wk,hwq⟩:∃x,x=wc:=⟨_,rfl⟩
  subst hwq
  clear HI10 HK12 HI13 HK16
  have HB:=lh9 (zac HB.out hb)
  have HM4:=lh9 (HM4.out.keep hb)
  have HR5:=lh9 (HR5.out.keep hb)
  have HK8:=lh9 (zae hb HK8.out)
  have HK9:=lh9 (zae hb HK9.out)
  have HI17:=lh9 (HI17.out.keep hb)
  have HK20:=lh9 (zae hb HK20.out)
  clear hb 
  generalize wk=V122 at*
  clear H_ok HR2
  go_upto_region 9 with fail
  go_cut [72,73,74,75,76,77,78,79,80,81,82,83,84,85,86,87,88,89,90,91,92,93,94,95,96,97,98] (λs72 s73 s74 s75 s76 s77 s78 s79 s80 s81 s82 s83 s84 s85 s86 s87 s88 s89 s90 s91 s92 s93 s94 s95 s96 s97 s98 wx=>s98=.bool false/\Below V122.heap.size V122 wx)
  case first=>
   as_aux_lemma=>
    have HW:=lh9 (Below.refl V122.heap.size V122)
    cases fine
    ·go_wp2
     go_meet
     exact⟨rfl,HW.out⟩
    ·obtain⟨h1,h2,h3,h4⟩:=zfs H_fine.out
     obtain⟨rfl,rfl,hmm⟩:=HI17.out rfl
     have HMm:=lh9 hmm
     clear hmm HI17 h2 h4
     rw [HR1.out] at h1 h3
     clear HR1
     obtain rfl:(r1:Int)=a1:=h1.symm
     have HSO:Hid (zaD 1 (zfT r1)):=zaD.tab λr c _ _=>znl r c
     have nn:((r1:Int) !=(r1:Int))=false:=by simp
     obtain⟨p123_0,p123_1⟩:=HK20.out.c2
     go_wp2_with fail
     clear p123_0 p123_1
     (with_reducible refine(zcM A17 r1 c17 (r1:Int) _).mono ?_)
     rintro e X124 ⟨rfl,hb⟩
     have HB:=lh9 (zac HB.out hb)
     have HK20:=lh9 (zae hb HK20.out)
     have HW:=lh9 (zac HW.out hb)
     have HMm:=lh9 (HMm.out.keep hb)
     clear hb 
     obtain⟨p125_0,p125_1⟩:=HK20.out.c2
     go_wp2_with fail
     clear p125_0 p125_1
     (with_reducible refine(zlG A17 r1 c17 (r1:Int) _).mono ?_)
     rintro e X126 ⟨rfl,hb⟩
     have HB:=lh9 (zac HB.out hb)
     have HK20:=lh9 (zae hb HK20.out)
     have HW:=lh9 (zac HW.out hb)
     have HMm:=lh9 (HMm.out.keep hb)
     clear hb 
     by_cases h0:r1=0
     ·have d3:decide ((0:Int)<(r1:Int))=false:=decide_eq_false (by omega)
      have d4:decide ((r1:Int)>0)=false:=decide_eq_false (by omega)
      have d6:decide (0<r1)=false:=decide_eq_false (by omega)
      clear h0
      go_wp2
      go_meet
      exact⟨rfl,HW.out⟩
     ·obtain⟨k,hk⟩:∃k,k+1=r1:=⟨r1 - 1,by omega⟩
      have HK1:Hid (k<r1):=by show k<r1;omega
      have d3:decide ((0:Int)<(r1:Int))=true:=decide_eq_true (by omega)
      have d4:decide ((r1:Int)>0)=true:=decide_eq_true (by omega)
      have d6:decide (0<r1)=true:=decide_eq_true (by omega)
      have d5:IntKind.i64.wrap ((r1:Int) - 1)=(k:Int):=by rw [show(r1:Int) - 1=(k:Int) by omega];exact IntWalk.i64_in _ (by omega)
      clear hk h0
      have HAT:Hid (atM (zfT r1) k k=Rat.divInt 1 1):=one_diag HK1.out
      obtain⟨p127_0,p127_1⟩:=HK20.out.c2
      have HS128:Hid (SzQ (1) (atM (zfT r1) k k)):=HSO.out.at_ (zde _ _ _) HK1.out HK1.out
      go_wp2_with fail
      clear p127_0 p127_1
      (with_reducible refine(zko (HT.out _ HB.out) HMm.out HSO.out HK1.out HK1.out (by omega)).mono ?_)
      rintro e X129 ⟨b128,A128,n128,c128,E128,k128,f128,rfl,hw128,hb⟩
      have HB:=lh9 (zac HB.out hb)
      have HW:=lh9 (zac HW.out hb)
      have HQ128:=lh9 (hw128)
      clear hb hw128
      go_wp2_with fail
      (with_reducible refine(zkn (λ_ _ h hb=>h.on hb) zbJ qc10 1 1 _ 1 b128 A128 n128 c128 E128 k128 f128 _ (by decide) HS128.out HQ128.out (HT.out _ HB.out) (by decide) (by decide) (by decide) (by decide) (by decide) HAT.out).mono ?_)
      rintro e X130 ⟨rfl,hb⟩
      have HW:=lh9 (zac HW.out hb)
      clear hb 
      go_wp2
      go_meet
      exact⟨rfl,HW.out⟩
  case rest=>
   obtain⟨rfl,hb⟩:=hcut
   obtain⟨wk,hwq⟩:∃x,x=wc:=⟨_,rfl⟩
   subst hwq
   clear HI17 HK20
   have HB:=lh9 (zac HB.out hb)
   have HM4:=lh9 (HM4.out.keep hb)
   have HR5:=lh9 (HR5.out.keep hb)
   have HK8:=lh9 (zae hb HK8.out)
   have HK9:=lh9 (zae hb HK9.out)
   clear hb 
   generalize wk=V223 at*
   clear H_fine
   obtain⟨has,hq⟩:∃b,inB a3 N0=b:=⟨_,rfl⟩
   have H_has:=lh9 hq
   clear hq
   obtain⟨there,hq⟩:∃b,inB a4 m0=b:=⟨_,rfl⟩
   have H_there:=lh9 hq
   clear hq
   go_upto_region 11 with fail
   have HLK:=lh9 (λw' (h:Below V223.heap.size V223 w')=>zdb (HT.out _ (zac HB.out h)) (HM4.out.keep h) (HR5.out.keep h) HSX0.out)
   have HKXX:=lh9 (λw' (h:Below V223.heap.size V223 w')=>zae h HK8.out)
   have HKPP:=lh9 (λw' (h:Below V223.heap.size V223 w')=>zae h HK9.out)
   have HBB:=lh9 (λw' (h:Below V223.heap.size V223 w')=>zac HB.out h)
   have HW1:=lh9 (Below.refl V223.heap.size V223)
   obtain⟨p224_0,p224_1⟩:=HK8.out.c2
   go_wp2_with fail
   clear p224_0 p224_1
   (with_reducible refine(zlJ H_has.out (HT.out _ HB.out) HM4.out HSX0.out).mono ?_)
   rintro e X226 ⟨A225,n225,c225,rfl,hc225,hb⟩
   have HB:=lh9 (zac HB.out hb)
   have HM4:=lh9 (HM4.out.keep hb)
   have HR5:=lh9 (HR5.out.keep hb)
   have HK8:=lh9 (zae hb HK8.out)
   have HK9:=lh9 (zae hb HK9.out)
   have HW1:=lh9 (zac HW1.out hb)
   have HI225:=lh9 (hc225)
   clear hb hc225
   obtain⟨p227_0,p227_1⟩:=HK8.out.c2
   go_wp2_with fail
   clear p227_0 p227_1
   (with_reducible refine(zlF H_there.out (HT.out _ HB.out) HM4.out HSX0.out).mono ?_)
   rintro e X229 ⟨A228,n228,c228,rfl,hc228,hb⟩
   have HB:=lh9 (zac HB.out hb)
   have HM4:=lh9 (HM4.out.keep hb)
   have HR5:=lh9 (HR5.out.keep hb)
   have HK8:=lh9 (zae hb HK8.out)
   have HK9:=lh9 (zae hb HK9.out)
   have HW1:=lh9 (zac HW1.out hb)
   have HI225:=lh9 (HI225.out.keep hb)
   have HI228:=lh9 (hc228)
   clear hb hc228
   go_upto_region 13 with fail
   go_upto_region 13 with fail
   go_cut [111,112,113,114,115,116,117,118,119,120,121,122,123,124,125,126,127,128,129,130,131,132,133,134,135,136,137,138,139,140,141,142,143,144,145,146,147,148,149,150,151] (λs111 s112 s113 s114 s115 s116 s117 s118 s119 s120 s121 s122 s123 s124 s125 s126 s127 s128 s129 s130 s131 s132 s133 s134 s135 s136 s137 s138 s139 s140 s141 s142 s143 s144 s145 s146 s147 s148 s149 s150 s151 wx=>s151=.bool false/\Below X229.heap.size X229 wx)
   case first=>
    as_aux_lemma=>
     have HW:=lh9 (Below.refl X229.heap.size X229)
     have hb1:=bne_b has
     have hb2:=zkq has
     have hb3:=bne_b there
     have hb4:=zkq there
     have HA:Hid ((decide (0<=a3)=true/\decide (a3>=0)=true/\decide (a3<(N0:Int))=has)\/(decide (0<=a3)=false/\decide (a3>=0)=false/\false=has)):=zoe H_has.out
     have HE:Hid ((decide (0<=a4)=true/\decide (a4>=0)=true/\decide (a4<(m0:Int))=there)\/(decide (0<=a4)=false/\decide (a4>=0)=false/\false=there)):=zoe H_there.out
     have HY0:=lh9 HI225.out.2
     have HZ0:=lh9 HI228.out.2
     obtain⟨p230_0,p230_1⟩:=HK9.out.c2
     rcases HA.out with⟨d1,d2,d3⟩|⟨d1,d2,rfl⟩<;>rcases HE.out with⟨e1,e2,e3⟩|⟨e1,e2,rfl⟩<;>clear HA HE
     ·cases has<;>cases there
      ·obtain rfl:=HY0.out rfl
       obtain rfl:=HZ0.out rfl
       go_wp2
       go_meet
       exact⟨rfl,HW.out⟩
      ·obtain rfl:=HY0.out rfl
       go_wp2
       go_meet
       exact⟨rfl,HW.out⟩
      ·obtain rfl:=HZ0.out rfl
       go_wp2
       go_meet
       exact⟨rfl,HW.out⟩
      ·go_wp2
       go_meet
       exact⟨rfl,HW.out⟩
     ·cases has
      ·obtain rfl:=HY0.out rfl
       obtain rfl:=HZ0.out rfl
       go_wp2
       go_meet
       exact⟨rfl,HW.out⟩
      ·obtain rfl:=HZ0.out rfl
       go_wp2
       go_meet
       exact⟨rfl,HW.out⟩
     ·cases there
      ·obtain rfl:=HY0.out rfl
       obtain rfl:=HZ0.out rfl
       go_wp2
       go_meet
       exact⟨rfl,HW.out⟩
      ·obtain rfl:=HY0.out rfl
       go_wp2
       go_meet
       exact⟨rfl,HW.out⟩
     ·obtain rfl:=HY0.out rfl
      obtain rfl:=HZ0.out rfl
      go_wp2
      go_meet
      exact⟨rfl,HW.out⟩
   case rest=>
    obtain⟨rfl,hb⟩:=hcut
    obtain⟨wk,hwq⟩:∃x,x=wc:=⟨_,rfl⟩
    subst hwq
    have HB:=lh9 (zac HB.out hb)
    have HM4:=lh9 (HM4.out.keep hb)
    have HR5:=lh9 (HR5.out.keep hb)
    have HK8:=lh9 (zae hb HK8.out)
    have HK9:=lh9 (zae hb HK9.out)
    have HW1:=lh9 (zac HW1.out hb)
    have HI225:=lh9 (HI225.out.keep hb)
    have HI228:=lh9 (HI228.out.keep hb)
    clear hb 
    generalize wk=V330 at*
    go_upto_region 15 with fail
    go_cut [152,153,154,155,156,157,158,159,160,161,162,163,164,165,166,167,168,169,170,171,172,173,174,175,176,177,178,179,180,181,182,183,184,185,186,187,188] (λs152 s153 s154 s155 s156 s157 s158 s159 s160 s161 s162 s163 s164 s165 s166 s167 s168 s169 s170 s171 s172 s173 s174 s175 s176 s177 s178 s179 s180 s181 s182 s183 s184 s185 s186 s187 s188 wx=>s188=.bool false/\Below V330.heap.size V330 wx)
    case first=>
     as_aux_lemma=>
      have HW:=lh9 (Below.refl V330.heap.size V330)
      have HHAS:=lh9 (λb (h:(inB a3 N0&&inB a4 m0)=b) w'=>h▸refm_has A5 N0 c5 m0 a3 a4 w')
      cases has<;>cases there
      ·obtain⟨p331_0,p331_1⟩:=HK9.out.c2
       go_wp2_with fail
       clear p331_0 p331_1
       (with_reducible refine(HHAS.out false (by simp [H_has.out,H_there.out]) _).mono ?_)
       rintro e X332 ⟨rfl,hb⟩
       have HB:=lh9 (zac HB.out hb)
       have HK8:=lh9 (zae hb HK8.out)
       have HW:=lh9 (zac HW.out hb)
       clear hb 
       obtain⟨p333_0,p333_1⟩:=HK8.out.c2
       have HS334:Hid (SzQ (1) ((0:Rat))):=SzQ.zero
       go_wp2_with fail
       clear p333_0 p333_1
       (with_reducible refine(zgN (Or.inl H_has.out)).mono ?_)
       rintro e X335 ⟨b334,A334,n334,c334,E334,k334,f334,rfl,hw334,hb⟩
       have HB:=lh9 (zac HB.out hb)
       have HW:=lh9 (zac HW.out hb)
       have HQ334:=lh9 (hw334)
       clear hb hw334
       go_wp2_with fail
       (with_reducible refine(znp (t:=true) (by decide) (HT.out _ HB.out) HQ334.out HS334.out (by omega)).mono ?_)
       rintro e X336 ⟨rfl,hb⟩
       have HW:=lh9 (zac HW.out hb)
       clear hb 
       go_wp2
       go_meet
       exact⟨rfl,HW.out⟩
      ·obtain⟨h3,h4⟩:=zdz H_there.out
       obtain⟨l,hl⟩:∃l,a4.toNat=l:=⟨_,rfl⟩
       rw [hl] at h3 h4 HI228
       obtain⟨gz,rfl,rfl,rfl,hgz,hoz⟩:=HI228.out.1 rfl
       have HOZ:=lh9 (zbl hoz)
       have HSZ:=lh9 (HSX0.out.col HDX0.out h4)
       subst h3
       clear hgz hoz hl HI228
       obtain⟨p331_0,p331_1⟩:=HK9.out.c2
       go_wp2_with fail
       clear p331_0 p331_1
       (with_reducible refine(zmb HR5.out h4).mono ?_)
       rintro e X333 ⟨A332,c332,rfl,hv332,hb⟩
       have HB:=lh9 (zac HB.out hb)
       have HK8:=lh9 (zae hb HK8.out)
       have HK9:=lh9 (zae hb HK9.out)
       have HW:=lh9 (zac HW.out hb)
       have HOZ:=lh9 (HOZ.out.keep hb)
       have HR332:=lh9 (hv332)
       clear hb hv332
       go_wp2_with fail
       (with_reducible refine(zdH (HT.out _ HB.out) HOZ.out HR332.out HSZ.out (by omega) (by decide)).mono ?_)
       rintro e X334 ⟨rfl,hb⟩
       have HB:=lh9 (zac HB.out hb)
       have HK8:=lh9 (zae hb HK8.out)
       have HK9:=lh9 (zae hb HK9.out)
       have HW:=lh9 (zac HW.out hb)
       clear hb 
       obtain⟨p335_0,p335_1⟩:=HK9.out.c2
       go_wp2_with fail
       clear p335_0 p335_1
       (with_reducible refine(HHAS.out false (by simp [H_has.out,H_there.out]) _).mono ?_)
       rintro e X336 ⟨rfl,hb⟩
       have HB:=lh9 (zac HB.out hb)
       have HK8:=lh9 (zae hb HK8.out)
       have HW:=lh9 (zac HW.out hb)
       clear hb 
       obtain⟨p337_0,p337_1⟩:=HK8.out.c2
       have HS338:Hid (SzQ (1) ((0:Rat))):=SzQ.zero
       go_wp2_with fail
       clear p337_0 p337_1
       (with_reducible refine(zgN (Or.inl H_has.out)).mono ?_)
       rintro e X339 ⟨b338,A338,n338,c338,E338,k338,f338,rfl,hw338,hb⟩
       have HB:=lh9 (zac HB.out hb)
       have HW:=lh9 (zac HW.out hb)
       have HQ338:=lh9 (hw338)
       clear hb hw338
       go_wp2_with fail
       (with_reducible refine(znp (t:=true) (by decide) (HT.out _ HB.out) HQ338.out HS338.out (by omega)).mono ?_)
       rintro e X340 ⟨rfl,hb⟩
       have HW:=lh9 (zac HW.out hb)
       clear hb 
       go_wp2
       go_meet
       exact⟨rfl,HW.out⟩
      ·obtain⟨h1,h2⟩:=zdz H_has.out
       obtain⟨k,hk⟩:∃k,a3.toNat=k:=⟨_,rfl⟩
       rw [hk] at h1 h2 HI225
       obtain⟨gx,rfl,rfl,rfl,hgx,hox⟩:=HI225.out.1 rfl
       have HOX:=lh9 (zbl hox)
       obtain⟨ad,Bk,dk,hA9,-,hck,hrk⟩:=HR5.out.row (Below.refl _ _) h2
       have HRK:=lh9 hrk
       have HSK:=lh9 (HSX0.out.row (i:=k) (by rw [HDX0.out.rows];exact h2))
       have i1:(0:Int)<=(k:Int):=by omega
       have i2:(k:Int)<(N0:Int):=by omega
       subst h1
       clear hgx hox hrk hk HI225
       obtain⟨p331_0,p331_1⟩:=HK9.out.c2
       subst hA9
       go_wp2_with fail
       clear p331_0 p331_1
       (with_reducible refine(zdH (HT.out _ HB.out) HOX.out HRK.out HSK.out (by omega) (by decide)).mono ?_)
       rintro e X332 ⟨rfl,hb⟩
       have HB:=lh9 (zac HB.out hb)
       have HK8:=lh9 (zae hb HK8.out)
       have HK9:=lh9 (zae hb HK9.out)
       have HW:=lh9 (zac HW.out hb)
       clear hb 
       obtain⟨p333_0,p333_1⟩:=HK9.out.c2
       go_wp2_with fail
       clear p333_0 p333_1
       (with_reducible refine(HHAS.out false (by simp [H_has.out,H_there.out]) _).mono ?_)
       rintro e X334 ⟨rfl,hb⟩
       have HB:=lh9 (zac HB.out hb)
       have HK8:=lh9 (zae hb HK8.out)
       have HW:=lh9 (zac HW.out hb)
       clear hb 
       obtain⟨p335_0,p335_1⟩:=HK8.out.c2
       have HS336:Hid (SzQ (1) ((0:Rat))):=SzQ.zero
       go_wp2_with fail
       clear p335_0 p335_1
       (with_reducible refine(zgN (Or.inr H_there.out)).mono ?_)
       rintro e X337 ⟨b336,A336,n336,c336,E336,k336,f336,rfl,hw336,hb⟩
       have HB:=lh9 (zac HB.out hb)
       have HW:=lh9 (zac HW.out hb)
       have HQ336:=lh9 (hw336)
       clear hb hw336
       go_wp2_with fail
       (with_reducible refine(znp (t:=true) (by decide) (HT.out _ HB.out) HQ336.out HS336.out (by omega)).mono ?_)
       rintro e X338 ⟨rfl,hb⟩
       have HW:=lh9 (zac HW.out hb)
       clear hb 
       go_wp2
       go_meet
       exact⟨rfl,HW.out⟩
      ·obtain⟨h1,h2⟩:=zdz H_has.out
       obtain⟨k,hk⟩:∃k,a3.toNat=k:=⟨_,rfl⟩
       rw [hk] at h1 h2 HI225
       obtain⟨gx,rfl,rfl,rfl,hgx,hox⟩:=HI225.out.1 rfl
       have HOX:=lh9 (zbl hox)
       obtain⟨ad,Bk,dk,hA9,-,hck,hrk⟩:=HR5.out.row (Below.refl _ _) h2
       have HRK:=lh9 hrk
       have HSK:=lh9 (HSX0.out.row (i:=k) (by rw [HDX0.out.rows];exact h2))
       have i1:(0:Int)<=(k:Int):=by omega
       have i2:(k:Int)<(N0:Int):=by omega
       subst h1
       clear hgx hox hrk hk HI225
       obtain⟨p331_0,p331_1⟩:=HK9.out.c2
       subst hA9
       go_wp2_with fail
       clear p331_0 p331_1
       (with_reducible refine(zdH (HT.out _ HB.out) HOX.out HRK.out HSK.out (by omega) (by decide)).mono ?_)
       rintro e X332 ⟨rfl,hb⟩
       have HB:=lh9 (zac HB.out hb)
       have HR5:=lh9 (HR5.out.keep hb)
       have HK9:=lh9 (zae hb HK9.out)
       have HI228:=lh9 (HI228.out.keep hb)
       have HW:=lh9 (zac HW.out hb)
       clear hb 
       obtain⟨h3,h4⟩:=zdz H_there.out
       obtain⟨l,hl⟩:∃l,a4.toNat=l:=⟨_,rfl⟩
       rw [hl] at h3 h4 HI228
       obtain⟨gz,rfl,rfl,rfl,hgz,hoz⟩:=HI228.out.1 rfl
       have HOZ:=lh9 (zbl hoz)
       have HSZ:=lh9 (HSX0.out.col HDX0.out h4)
       subst h3
       clear hgz hoz hl HI228
       obtain⟨p333_0,p333_1⟩:=HK9.out.c2
       go_wp2_with fail
       clear p333_0 p333_1
       (with_reducible refine(zmb HR5.out h4).mono ?_)
       rintro e X335 ⟨A334,c334,rfl,hv334,hb⟩
       have HB:=lh9 (zac HB.out hb)
       have HK9:=lh9 (zae hb HK9.out)
       have HW:=lh9 (zac HW.out hb)
       have HOZ:=lh9 (HOZ.out.keep hb)
       have HR334:=lh9 (hv334)
       clear hb hv334
       go_wp2_with fail
       (with_reducible refine(zdH (HT.out _ HB.out) HOZ.out HR334.out HSZ.out (by omega) (by decide)).mono ?_)
       rintro e X336 ⟨rfl,hb⟩
       have HK9:=lh9 (zae hb HK9.out)
       have HW:=lh9 (zac HW.out hb)
       clear hb 
       obtain⟨p337_0,p337_1⟩:=HK9.out.c2
       go_wp2_with fail
       clear p337_0 p337_1
       (with_reducible refine(HHAS.out true (by simp [H_has.out,H_there.out]) _).mono ?_)
       rintro e X338 ⟨rfl,hb⟩
       have HW:=lh9 (zac HW.out hb)
       clear hb 
       go_wp2
       go_meet
       exact⟨rfl,HW.out⟩
    case rest=>
     obtain⟨rfl,hb⟩:=hcut
     obtain⟨wk,hwq⟩:∃x,x=wc:=⟨_,rfl⟩
     subst hwq
     clear HI228
     have HM4:=lh9 (HM4.out.keep hb)
     have HR5:=lh9 (HR5.out.keep hb)
     have HK8:=lh9 (zae hb HK8.out)
     have HK9:=lh9 (zae hb HK9.out)
     have HW1:=lh9 (zac HW1.out hb)
     have HI225:=lh9 (HI225.out.keep hb)
     clear hb 
     generalize wk=V431 at*
     have hx9:n225=0\/∃gx ys,A225=some ⟨gx,0,none⟩/\V223.heap.size<=gx/\zbZ V431 gx n225 ys:=by
      cases has
      ·exact .inl (HI225.out.2 rfl)
      ·obtain⟨gx,h1,h2,h3,h4,h5⟩:=HI225.out.1 rfl
       subst h2
       exact .inr ⟨gx,_,h1,h4,h5⟩
     have hn9:n225<=6:=by
      cases has
      ·rw [HI225.out.2 rfl];omega
      ·obtain⟨gx,h1,h2,-⟩:=HI225.out.1 rfl
       omega
     have hB:=HW1.out
     clear HW1 HI225 HM4 HR5 H_has H_there HK8 HK9
     go_wp2_with fail
     go_loopg [23] (n225+1) (λg ix wr=>∃(k:Nat),k<=n225/\n225<g+k/\ix=.int .i64 k/\(n225=0\/∃gx ys,A225=some ⟨gx,0,none⟩/\V223.heap.size<=gx/\zbZ wr gx n225 ys)/\Below V223.heap.size V223 wr)
     case atStart=>exact⟨0,Nat.zero_le _,by omega,rfl,hx9,hB⟩
     case round=>
      clear hx9 hB
      obtain⟨k,hkn,hg,rfl,hx9,hB⟩:=hrel
      by_cases hlt:k<n225
      ·obtain h9|⟨gx,ys,rfl,hgx,hin⟩:=hx9
       ·omega
       have hd1:decide ((k:Int)<(n225:Int))=true:=decide_eq_true (by omega)
       have hd1':decide (k<n225)=true:=decide_eq_true hlt
       have i1:(0:Int)<=(k:Int):=by omega
       have i2:(k:Int)<(n225:Int):=by omega
       have HIN:=lh9 hin
       have HB1:=lh9 hB
       clear hin hB
       go_wp2_with fail
       (with_reducible refine(zhy 77 _ (HT.out _ (HBB.out _ HB1.out)) (by decide) (by decide)).mono ?_)
       rintro e w3 ⟨b3,A3,n3,c3,E3,k3,f3,rfl,hw3,hb⟩
       have hr3:=HIN.out.keep hb
       have hr4:=zbm.set_ zaq hr3 hlt hw3
       obtain⟨q0,q1,q2,sc0,sf0,sc1,sf1,sc2,sf2⟩:=hr3.ready hlt (.bool b3) (.slice A3 n3 c3)
       have HR4:=lh9 hr4
       have HB4:=lh9 (zcb (k*3) (k*3+1) (k*3+2) (.bool b3) (.slice A3 n3 c3) (.slice E3 k3 f3) hgx (zac HB1.out hb))
       clear hr3 hr4 hb hw3 HIN HB1
       go_wp2
       go_roundg (n225 - k)
       case measure=>omega
       case rel=>exact⟨k+1,by omega,by omega,by go_num,.inr ⟨gx,_,rfl,hgx,HR4.out⟩,HB4.out⟩
      ·have hd1:decide ((k:Int)<(n225:Int))=false:=decide_eq_false (by omega)
       have hd1':decide (k<n225)=false:=decide_eq_false hlt
       have HBE:=lh9 hB
       obtain⟨p0,p1⟩:=(HKXX.out _ hB).c2
       obtain⟨p2,p3⟩:=(HKPP.out _ hB).c2
       clear hx9 hB
       go_wp2_with fail
       (with_reducible refine(HLK.out _ HBE.out).mono ?_)
       rintro e w5 ⟨rfl,hb⟩
       have HBF:=lh9 (zac (HBB.out _ HBE.out) hb)
       clear hb p0 p1 p2 p3
       go_wp2
       go_ret
       exact⟨rfl,HBF.out⟩
