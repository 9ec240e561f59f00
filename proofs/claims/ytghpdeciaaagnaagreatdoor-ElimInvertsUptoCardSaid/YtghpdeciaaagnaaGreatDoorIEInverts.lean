/- What this claim leans on. -/
import Derived.Test.YtghpdeciaaagnaaGreatDoorIEInv
namespace Go.Proofs.YtghpdeciaaagnaaGreatDoor
open Go Go.RowKit
set_option maxHeartbeats 16000000
set_option maxRecDepth 100000
set_option linter.unusedVariables false
set_option linter.unusedSimpArgs false
theorem elimInverts_core (z0:Nat)(A0:oA9)(n0 c0:Nat)(R0:zja)(z1:Nat)(A1:oA9)(n1 c1:Nat)(R1:zja)(w:World)(hz0:z0<=255)(h0:zbf w A0 n0 c0 R0)(hz1:z1<=255)(h1:zbf w A1 n1 c1 R1)(hT:zai w):
  Calls Tryz.prog 5 #[.agg #[.int .u8 (z0:Int),.slice A0 n0 c0],.agg #[.int .u8 (z1:Int),.slice A1 n1 c1]] w λe w'=>e=.returned (.bool true)/\Below w.heap.size w w':=by
 obtain⟨m,hm⟩:∃m,z0%6=m:=⟨_,rfl⟩
 have bm:m<=5:=by omega
 have e7:m%7=m:=Nat.mod_eq_of_lt (by omega)
 have hzm:(z0:Int)%6=(m:Int):=by omega
 have hzt:(z0:Int).tmod 6=(m:Int):=by rw [Int.tmod_eq_emod_of_nonneg (by omega)];exact hzm
 have HMK0:=lh9 (λW (hb:Below w.heap.size w W)=>zjv (z:=m) (hT.on hb) (by omega) (h0.below hb))
 have HSX0:=lh9 (zjp (m:=m) h0 (Nat.min_le_left n0 6))
 have HDX0:=lh9 (zgK m R0 (min n0 6))
 obtain⟨N0,hN0⟩:∃N,min n0 6=N:=⟨_,rfl⟩
 have bN0:N0<=6:=by omega
 rw [e7,hN0] at HMK0
 rw [hN0] at HSX0 HDX0
 obtain⟨X0,hX0⟩:∃X,zij m R0 N0=X:=⟨_,rfl⟩
 rw [hX0] at HMK0 HSX0 HDX0
 have HMK1:=lh9 (λW (hb:Below w.heap.size w W)=>zjv (z:=m) (hT.on hb) (by omega) (h1.below hb))
 have HSX1:=lh9 (zjp (m:=m) h1 (Nat.min_le_left n1 6))
 have HDX1:=lh9 (zgK m R1 (min n1 6))
 obtain⟨N1,hN1⟩:∃N,min n1 6=N:=⟨_,rfl⟩
 have bN1:N1<=6:=by omega
 rw [e7,hN1] at HMK1
 rw [hN1] at HSX1 HDX1
 obtain⟨X1,hX1⟩:∃X,zij m R1 N1=X:=⟨_,rfl⟩
 rw [hX1] at HMK1 HSX1 HDX1
 have HT:=lh9 (λw' (hb:Below w.heap.size w w')=>hT.on hb)
 have HB:=lh9 (Below.refl w.heap.size w)
 clear hT h0 h1 hz1 hm hzm e7 hX0 hX1 hN0 hN1
 go_enter Tryz.func5,Tryz.ntmps5
 obtain⟨bq0,bq1,bq2,-⟩:=zbI w 24 24 #[.int .u8 (z0:Int),.slice A0 n0 c0] #[.int .u8 (z1:Int),.slice A1 n1 c1]
 have HB:=lh9 (zab HB.out bq0)
 have HK1:=lh9 (bq1)
 have HK2:=lh9 (bq2)
 clear bq0 bq1 bq2
 go_wp2_with fail
 generalize (w.alloc (.cells #[.int .u8 (z0:Int),.slice A0 n0 c0] 24)).alloc (.cells #[.int .u8 (z1:Int),.slice A1 n1 c1] 24)=W3 at*
 (with_reducible refine(zmZ (HT.out _ HB.out)).mono ?_)
 rintro e X4 ⟨rfl,hb⟩
 have HB:=lh9 (zab HB.out hb)
 have HK1:=lh9 (zaa hb HK1.out)
 have HK2:=lh9 (zaa hb HK2.out)
 clear hb 
 obtain⟨p0,p1⟩:=HK1.out.c2
 obtain⟨p2,p3⟩:=HK2.out.c2
 have sf0:=HK1.out.frozen 0
 have hkb:=Blk.far (p:=⟨w.heap.size,0,none⟩) HK2.out (by show w.heap.size+1≠w.heap.size;omega) (.int .u8 (m:Int))
 have sc1:=hkb.c2.1
 have sf1:=hkb.frozen 0
 have HK1:=lh9 (Blk.far (p:=⟨w.heap.size+1,0,none⟩) (HK1.out.set_ 0 (.int .u8 (m:Int))) (by show w.heap.size≠w.heap.size+1;omega) (.int .u8 (m:Int)))
 have HK2:=lh9 (hkb.set_ 0 (.int .u8 (m:Int)))
 have HB:=lh9 (zae (p:=⟨w.heap.size+1,0,none⟩) (.int .u8 (m:Int)) (show w.heap.size<=w.heap.size+1 by omega) (zae (p:=⟨w.heap.size,0,none⟩) (.int .u8 (m:Int)) (show w.heap.size<=w.heap.size by omega) HB.out))
 clear hkb
 go_upto_region 4 with fail
 clear p0 p1 p2 p3 sf0 sc1 sf1 hzt
 generalize (X4.setCell ⟨w.heap.size,0,none⟩ (.int .u8 (m:Int))).setCell ⟨w.heap.size+1,0,none⟩ (.int .u8 (m:Int))=W40 at*
 have HS5:Hid (zax (1) (X0)):=HSX0.out
 have HS6:Hid (zax (1) (X1)):=HSX1.out
 obtain⟨p7_0,p7_1⟩:=HK1.out.c2
 obtain⟨p8_0,p8_1⟩:=HK2.out.c2
 have GG:=lh9 (λw' (h:Below W40.heap.size W40 w')=>(csc (zac h p7_0) (csc (zac h p7_1) (csc (zac h p8_0) (csc (zac h p8_1) csn)))))
 refine rgB (λhHeld=>?_)
 clear p7_0 p7_1 p8_0 p8_1
 refine tl 0 GG.out ?_
 refine tl 2 GG.out ?_
 refine zcl (L:=#[true,true,true,true,true,true,true,true])
  (J:=fun a0 l a w' => ∃ (fl1 fl3 fl4 fl5 fl6 fl7 : Bool) (A5 : oA9) (c5 : Nat) (A6 : oA9) (c6 ad4 ad5 : Nat),l = #[true,fl1,true,fl3,fl4,fl5,fl6,fl7] ∧ zdJ [38,40,5,6] a0 a ∧ Hid (Below W40.heap.size W40 w') ∧
    Hid (Gd fl1 (a.tmps.getD 38 undef=.agg #[.slice A5 N0 c5,.int .i64 (m:Int)]/\zaR w' A5 N0 c5 m (X0)))/\
    Hid (Gd fl3 (a.tmps.getD 40 undef=.agg #[.slice A6 N1 c6,.int .i64 (m:Int)]/\zaR w' A6 N1 c6 m (X1)))/\
    Hid (Gd fl4 (a.tmps.getD 5 undef=.pointer (some ⟨ad4,0,none⟩)/\W40.heap.size<=ad4/\Blk w' ad4 28 (bif fl6 then #[.slice A5 N0 c5,.int .i64 (m:Int)] else #[.slice none 0 0,.int .i64 0])))/\
    Hid (Gd fl5 (a.tmps.getD 6 undef=.pointer (some ⟨ad5,0,none⟩)/\W40.heap.size<=ad5/\Blk w' ad5 28 (bif fl7 then #[.slice A6 N1 c6,.int .i64 (m:Int)] else #[.slice none 0 0,.int .i64 0])))/\
    Hid (Gd fl4 (Gd fl5 (ad4≠ad5)))/\
    Hid (Gd fl3 (fl1=true))/\
    Hid (Gd fl6 (fl1=true))/\
    Hid (Gd fl6 (fl3=true))/\
    Hid (Gd fl6 (fl4=true))/\
    Hid (Gd fl7 (fl3=true))/\
    Hid (Gd fl7 (fl5=true))/\
    Hid (Gd fl7 (fl6=true)))
  (by rfl) ?_ ?_ ?_
 ·exact⟨false,false,false,false,false,false,none,0,none,0,0,0,by kernel_rfl,zdJ.refl _ _,hHeld,Gd.no,Gd.no,Gd.no,Gd.no,Gd.no,Gd.no,Gd.no,Gd.no,Gd.no,Gd.no,Gd.no,Gd.no⟩
 ·intro OPS Ac0 Q0 hO hAs hA
  have RB37:Ac0.tmps.getD 37 undef=.agg #[.int .u8 (m:Int),.slice A0 n0 c0]:=(hA 37 undef).trans (by kernel_rfl)
  have RB39:Ac0.tmps.getD 39 undef=.agg #[.int .u8 (m:Int),.slice A1 n1 c1]:=(hA 39 undef).trans (by kernel_rfl)
  have hsz:Ac0.tmps.size=162:=hAs.trans (by kernel_rfl)
  clear hAs hA
  refine⟨?_,?_⟩
  ·rintro l a w' ⟨fl1,fl3,fl4,fl5,fl6,fl7,A5,c5,A6,c6,ad4,ad5,rfl,-⟩ hr
   obtain rfl:fl1=true:=als 1 hr hO
   obtain rfl:fl3=true:=als 3 hr hO
   obtain rfl:fl4=true:=als 4 hr hO
   obtain rfl:fl5=true:=als 5 hr hO
   obtain rfl:fl6=true:=als 6 hr hO
   obtain rfl:fl7=true:=als 7 hr hO
   rfl
  ·rintro l a w' i ⟨fl1,fl3,fl4,fl5,fl6,fl7,A5,c5,A6,c6,ad4,ad5,rfl,HKp,hBi,qf1,qf3,qf4,qf5,qn4_5,qd3_1,qd6_1,qd6_3,qd6_4,qd7_3,qd7_5,qd7_6⟩ hne hi
   have hlt:i<8:=by have:=zdZ hi;rw [hO] at this;exact this
   rcases (show i=0\/i=1\/i=2\/i=3\/i=4\/i=5\/i=6\/i=7 by omega) with rfl|rfl|rfl|rfl|rfl|rfl|rfl|rfl
   ·cases (zak hi:true=false)
   ·obtain rfl:fl1=false:=zak hi
    obtain rfl:fl3=false:=Gd.off qd3_1.out
    obtain rfl:fl6=false:=Gd.off qd6_1.out
    obtain rfl:fl7=false:=Gd.off qd7_3.out
    have rd37:=HKp.get 37 (by decide) RB37
    have HBn:=lh9 (zab HB.out hBi.out)
    refine wog hO (λK' hK=>?_)
    go_simp
    (with_reducible refine(HMK0.out _ HBn.out).mono ?_)
    rintro e w2 ⟨nA5,nc5,rfl,nhm5,-,hb⟩
    exact hK.out _ _ ⟨zab hBi.out hb,true,false,fl4,fl5,false,false,nA5,nc5,A6,c6,ad4,ad5,by rfl,HKp.put (by decide) _,zab hBi.out hb,Gd.yes ⟨zaZ (HKp.lt (by rw [hsz];decide)) _,nhm5⟩,Gd.no,kq qf4.out λh=>⟨h.1,zaa hb h.2⟩,kq qf5.out λh=>⟨h.1,zaa hb h.2⟩,qn4_5,Gd.no,Gd.no,Gd.no,Gd.no,Gd.no,Gd.no,Gd.no⟩
   ·cases (zak hi:true=false)
   ·obtain rfl:fl3=false:=zak hi
    obtain rfl:fl1=true:=rdp 1 1 hi hO
    obtain rfl:fl6=false:=Gd.off qd6_3.out
    obtain rfl:fl7=false:=Gd.off qd7_3.out
    have rd39:=HKp.get 39 (by decide) RB39
    have HBn:=lh9 (zab HB.out hBi.out)
    refine wog hO (λK' hK=>?_)
    go_simp
    (with_reducible refine(HMK1.out _ HBn.out).mono ?_)
    rintro e w2 ⟨nA6,nc6,rfl,nhm6,-,hb⟩
    exact hK.out _ _ ⟨zab hBi.out hb,true,true,fl4,fl5,false,false,A5,c5,nA6,nc6,ad4,ad5,by rfl,HKp.put (by decide) _,zab hBi.out hb,kq qf1.out λh=>zaR.keep (h) hb,Gd.yes ⟨zaZ (HKp.lt (by rw [hsz];decide)) _,nhm6⟩,kq qf4.out λh=>⟨h.1,zaa hb h.2⟩,kq qf5.out λh=>⟨h.1,zaa hb h.2⟩,qn4_5,λ_=>rfl,Gd.no,Gd.no,Gd.no,Gd.no,Gd.no,Gd.no⟩
   ·obtain rfl:fl4=false:=zak hi
    obtain rfl:fl6=false:=Gd.off qd6_4.out
    obtain rfl:fl7=false:=Gd.off qd7_6.out
    refine wog hO (λK' hK=>?_)
    go_simp
    have hb:=zcd w' (.cells #[.slice none 0 0,.int .i64 0] 28)
    exact hK.out _ _ ⟨zab hBi.out hb,fl1,fl3,true,fl5,false,false,A5,c5,A6,c6,w'.heap.size,ad5,by rfl,HKp.put (by decide) _,zab hBi.out hb,kq qf1.out λh=>zaR.keep (h) hb,kq qf3.out λh=>zaR.keep (h) hb,Gd.yes ⟨zaZ (HKp.lt (by rw [hsz];decide)) _,hBi.out.size,Blk.new w' _ _⟩,kq qf5.out λh=>⟨h.1,zaa hb h.2⟩,Gd.yes (qf5.out.mono λh=>by have:=Blk.lt h.2.2;omega),qd3_1,Gd.no,Gd.no,Gd.no,Gd.no,Gd.no,Gd.no⟩
   ·obtain rfl:fl5=false:=zak hi
    obtain rfl:fl7=false:=Gd.off qd7_5.out
    refine wog hO (λK' hK=>?_)
    go_simp
    have hb:=zcd w' (.cells #[.slice none 0 0,.int .i64 0] 28)
    exact hK.out _ _ ⟨zab hBi.out hb,fl1,fl3,fl4,true,fl6,false,A5,c5,A6,c6,ad4,w'.heap.size,by rfl,HKp.put (by decide) _,zab hBi.out hb,kq qf1.out λh=>zaR.keep (h) hb,kq qf3.out λh=>zaR.keep (h) hb,kq qf4.out λh=>⟨h.1,zaa hb h.2⟩,Gd.yes ⟨zaZ (HKp.lt (by rw [hsz];decide)) _,hBi.out.size,Blk.new w' _ _⟩,qf4.out.mono λh=>Gd.yes (by have:=Blk.lt h.2.2;omega),qd3_1,qd6_1,qd6_3,qd6_4,Gd.no,Gd.no,Gd.no⟩
   ·obtain rfl:fl6=false:=zak hi
    obtain rfl:fl1=true:=rdp 1 1 hi hO
    obtain rfl:fl3=true:=rdp 3 2 hi hO
    obtain rfl:fl4=true:=rdp 4 0 hi hO
    obtain rfl:fl5=true:=rdp 5 8 hi hO
    obtain rfl:fl7=false:=Gd.off qd7_6.out
    have rd5:=qf4.out.get.1
    have rd38:=qf1.out.get.1
    obtain⟨_,hg,hk⟩:=qf4.out.get
    have hk:Blk w' ad4 28 #[.slice none 0 0,.int .i64 0]:=hk
    obtain⟨sc0,sf0,sc1,sf1⟩:=st2 hk (.slice A5 N0 c5)
    have hj1:=sn2 hk (.slice A5 N0 c5) (.int .i64 (m:Int))
    have hBn:=bl2 (.slice A5 N0 c5) (.int .i64 (m:Int)) hg hBi.out
    refine wog hO (λK' hK=>?_)
    go_simp
    exact hK.out _ _ ⟨hBn,true,true,true,true,true,false,A5,c5,A6,c6,ad4,ad5,by rfl,HKp,hBn,qf1.out.mono λh=>⟨h.1,zaR.offz (h.2) hk _ _⟩,qf3.out.mono λh=>⟨h.1,zaR.offz (h.2) hk _ _⟩,qf4.out.mono λh=>⟨h.1,h.2.1,hj1⟩,λhf9=>(λh=>⟨h.1,h.2.1,Blk.far (p:=⟨ad4,1,none⟩) (Blk.far (p:=⟨ad4,0,none⟩) (h.2.2) (Ne.symm (qn4_5.out rfl hf9)) (.slice A5 N0 c5)) (Ne.symm (qn4_5.out rfl hf9)) (.int .i64 (m:Int))⟩) (qf5.out hf9),qn4_5,λ_=>rfl,λ_=>rfl,λ_=>rfl,λ_=>rfl,Gd.no,Gd.no,Gd.no⟩
   ·obtain rfl:fl7=false:=zak hi
    obtain rfl:fl1=true:=rdp 1 4 hi hO
    obtain rfl:fl3=true:=rdp 3 1 hi hO
    obtain rfl:fl4=true:=rdp 4 7 hi hO
    obtain rfl:fl5=true:=rdp 5 0 hi hO
    obtain rfl:fl6=true:=rdp 6 2 hi hO
    have rd6:=qf5.out.get.1
    have rd40:=qf3.out.get.1
    obtain⟨_,hg,hk⟩:=qf5.out.get
    have hk:Blk w' ad5 28 #[.slice none 0 0,.int .i64 0]:=hk
    obtain⟨sc0,sf0,sc1,sf1⟩:=st2 hk (.slice A6 N1 c6)
    have hj1:=sn2 hk (.slice A6 N1 c6) (.int .i64 (m:Int))
    have hBn:=bl2 (.slice A6 N1 c6) (.int .i64 (m:Int)) hg hBi.out
    refine wog hO (λK' hK=>?_)
    go_simp
    exact hK.out _ _ ⟨hBn,true,true,true,true,true,true,A5,c5,A6,c6,ad4,ad5,by rfl,HKp,hBn,qf1.out.mono λh=>⟨h.1,zaR.offz (h.2) hk _ _⟩,qf3.out.mono λh=>⟨h.1,zaR.offz (h.2) hk _ _⟩,λhf9=>(λh=>⟨h.1,h.2.1,Blk.far (p:=⟨ad5,1,none⟩) (Blk.far (p:=⟨ad5,0,none⟩) (h.2.2) (qn4_5.out hf9 rfl) (.slice A6 N1 c6)) (qn4_5.out hf9 rfl) (.int .i64 (m:Int))⟩) (qf4.out hf9),qf5.out.mono λh=>⟨h.1,h.2.1,hj1⟩,qn4_5,λ_=>rfl,λ_=>rfl,λ_=>rfl,λ_=>rfl,λ_=>rfl,λ_=>rfl,λ_=>rfl⟩
 rintro a wm9 ⟨fl1,fl3,fl4,fl5,fl6,fl7,A5,c5,A6,c6,ad4,ad5,hl,HKp,hBi,qf1,qf3,qf4,qf5,qn4_5,qd3_1,qd6_1,qd6_3,qd6_4,qd7_3,qd7_5,qd7_6⟩
 have xx1:fl1=true:=gdl 1 hl
 subst xx1
 have xx3:fl3=true:=gdl 3 hl
 subst xx3
 have xx4:fl4=true:=gdl 4 hl
 subst xx4
 have xx5:fl5=true:=gdl 5 hl
 subst xx5
 have xx6:fl6=true:=gdl 6 hl
 subst xx6
 have xx7:fl7=true:=gdl 7 hl
 subst xx7
 obtain⟨rv1,hw1_0⟩:=qf1.out.get
 obtain⟨rv3,hw3_0⟩:=qf3.out.get
 obtain⟨rv4,hg4,hk4⟩:=qf4.out.get
 obtain⟨rv5,hg5,hk5⟩:=qf5.out.get
 obtain rfl:=HKp.eq [(38,.agg #[.slice A5 N0 c5,.int .i64 (m:Int)]),(40,.agg #[.slice A6 N1 c6,.int .i64 (m:Int)]),(5,.pointer (some ⟨ad4,0,none⟩)),(6,.pointer (some ⟨ad5,0,none⟩))] rfl (by
  intro p hp
  simp only [List.mem_cons,List.not_mem_nil,or_false] at hp
  rcases hp with rfl|rfl|rfl|rfl
  ·exact rv1
  ·exact rv3
  ·exact rv4
  ·exact rv5)
 have hBv:=hBi.out
 clear hl hBi HKp qf1 qf3 qf4 qf5 qn4_5 qd3_1 qd6_1 qd6_3 qd6_4 qd7_3 qd7_5 qd7_6 rv1 rv3 rv4 rv5
 have hk4:Blk wm9 ad4 28 #[.slice A5 N0 c5,.int .i64 (m:Int)]:=hk4
 have hk5:Blk wm9 ad5 28 #[.slice A6 N1 c6,.int .i64 (m:Int)]:=hk5
 rw [show due #[true,true,true,true,true,true,true,true]=0 from rfl]
 simp only [zdp,List.foldl,Act.put,List.setIfInBounds_toArray,List.set_cons_zero,List.set_cons_succ]
 refine wpAnyH_done (by kernel_rfl) ?_ _
 refine NoPanic.normal ?_
 have HB:=lh9 (zab HB.out hBv)
 have HK1:=lh9 (zaa hBv HK1.out)
 have HK2:=lh9 (zaa hBv HK2.out)
 have HM5:=lh9 (hw1_0)
 have HM6:=lh9 (hw3_0)
 obtain⟨adx10,hga⟩:∃x,x=ad4:=⟨_,rfl⟩
 subst hga
 have HK10:=lh9 (hk4)
 obtain⟨adx11,hga⟩:∃x,x=ad5:=⟨_,rfl⟩
 subst hga
 have HK11:=lh9 (hk5)
 clear hBv GG hk4 hg4 hk5 hg5 hw1_0 hw3_0
 clear HK1 HK2
 go_wp2_with fail
 obtain⟨p12_0,p12_1⟩:=HK10.out.c2
 have hbd:=(Below.refl wm9.heap.size wm9).drew
 have HB:=lh9 (zab HB.out hbd)
 have HM5:=lh9 (HM5.out.keep hbd)
 have HM6:=lh9 (HM6.out.keep hbd)
 have HK10:=lh9 (zaa hbd HK10.out)
 have HK11:=lh9 (zaa hbd HK11.out)
 refine rg (csc p12_0 (csc p12_1 csn)) (λhHeld=>?_)
 clear hbd p12_0 p12_1
 generalize wm9.drew=D13 at*
 refine tk 0 ?_
 refine tk 2 ?_
 refine rc 1 (λKK hK=>?_)
 go_simp
 (with_reducible refine(zbd A5 N0 c5 (m:Int) _).mono ?_)
 rintro e X14 ⟨rfl,hb⟩
 refine hK.out _ _ (Cs.below hHeld hb) (λhHeld=>?_)
 clear hK KK
 have HB:=lh9 (zab HB.out hb)
 have HM5:=lh9 (HM5.out.keep hb)
 have HM6:=lh9 (HM6.out.keep hb)
 have HK10:=lh9 (zaa hb HK10.out)
 have HK11:=lh9 (zaa hb HK11.out)
 clear hb 
 refine rc 3 (λKK hK=>?_)
 go_simp
 (with_reducible refine(zbr A5 N0 c5 (m:Int) _).mono ?_)
 rintro e X15 ⟨rfl,hb⟩
 refine hK.out _ _ (Cs.below hHeld hb) (λhHeld=>?_)
 clear hK KK
 have HB:=lh9 (zab HB.out hb)
 have HM5:=lh9 (HM5.out.keep hb)
 have HM6:=lh9 (HM6.out.keep hb)
 have HK10:=lh9 (zaa hb HK10.out)
 have HK11:=lh9 (zaa hb HK11.out)
 clear hb 
 refine tk 4 ?_
 refine rdn ?_
 clear hHeld
 by_cases hq:m=N0
 ·subst hq
  have HWX:=lh9 ((zbS.of_sz HSX0.out HDX0.out).up (show 1+(m+1)*1<=8 by omega))
  have HWY:=lh9 ((zbS.of_sz HSX1.out HDX1.out).up (show 1+(m+1)*1<=8 by omega))
  have HWT:=lh9 ((zbS.of_sz (HSX0.out.turn HDX0.out) (zlm m m X0)).up (show 1+(m+1)*1<=8 by omega))
  have HWS:=lh9 (zik HDX0.out (by omega) HSX0.out)
  have HSD:Hid (SzQ 1100 (zcZ m X0)):=(zhf HDX0.out (by omega) HWX.out).up (by omega)
  have HDT:=lh9 (det_turn HDX0.out)
  obtain⟨d,hd⟩:∃d,zcZ m X0=d:=⟨_,rfl⟩
  have HDD:=lh9 hd
  rw [hd] at HSD HDT
  clear hd
  by_cases hz:d=0
  ·have HFL:=lh9 (zlh HDX0.out (t:=false) (by rw [HDD.out,decide_eq_true hz];rfl))
   have HZF:=lh9 (decide_eq_true hz)
   clear hz
   obtain⟨p16_0,p16_1⟩:=HK10.out.c2
   go_wp2_with fail
   clear p16_0 p16_1
   have hde:=zde (K:=8) (HT.out _ HB.out) HM5.out rfl HS5.out HWX.out (by decide) (by decide) (by decide)
   rw [HDD.out] at hde
   have HS17:Hid (SzQ (1100) (d)):=HSD.out
   (with_reducible refine(hde).mono ?_)
   rintro e X18 ⟨b17,A17,n17,c17,E17,k17,f17,rfl,hw17,hb⟩
   have HB:=lh9 (zab HB.out hb)
   have HM5:=lh9 (HM5.out.keep hb)
   have HM6:=lh9 (HM6.out.keep hb)
   have HK10:=lh9 (zaa hb HK10.out)
   have HK11:=lh9 (zaa hb HK11.out)
   have HQ17:=lh9 (hw17)
   clear hb hw17
   clear hde
   obtain⟨bq0,bq1,-⟩:=zav X18 41 #[.bool b17,.slice A17 n17 c17,.slice E17 k17 f17]
   have HB:=lh9 (zab HB.out bq0)
   have HM5:=lh9 (HM5.out.keep bq0)
   have HM6:=lh9 (HM6.out.keep bq0)
   have HK10:=lh9 (zaa bq0 HK10.out)
   have HK11:=lh9 (zaa bq0 HK11.out)
   have HQ17:=lh9 (HQ17.out.below bq0)
   have HK19:=lh9 (bq1)
   clear bq0 bq1
   obtain⟨p20_0,p20_1⟩:=HK10.out.c2
   go_wp2_with fail
   clear p20_0 p20_1
   generalize X18.alloc (.cells #[.bool b17,.slice A17 n17 c17,.slice E17 k17 f17] 41)=W21 at*
   generalize X18.heap.size=q21 at*
   (with_reducible refine(zmK false HFL.out (HT.out _ HB.out) HM5.out HS5.out HWS.out (by decide) (by decide) (by decide) (by decide)).mono ?_)
   rintro e X22 ⟨rfl,hb⟩
   have HB:=lh9 (zab HB.out hb)
   have HM5:=lh9 (HM5.out.keep hb)
   have HM6:=lh9 (HM6.out.keep hb)
   have HK10:=lh9 (zaa hb HK10.out)
   have HK11:=lh9 (zaa hb HK11.out)
   have HQ17:=lh9 (HQ17.out.below hb)
   have HK19:=lh9 (zaa hb HK19.out)
   clear hb HFL
   obtain⟨bq0,bq1,-⟩:=zav X22 28 #[.slice none 0 0,.int .i64 0]
   have HB:=lh9 (zab HB.out bq0)
   have HM5:=lh9 (HM5.out.keep bq0)
   have HM6:=lh9 (HM6.out.keep bq0)
   have HK10:=lh9 (zaa bq0 HK10.out)
   have HK11:=lh9 (zaa bq0 HK11.out)
   have HQ17:=lh9 (HQ17.out.below bq0)
   have HK19:=lh9 (zaa bq0 HK19.out)
   clear bq0 bq1
   obtain⟨p24_0,p24_1,p24_2⟩:=HK19.out.c3
   go_wp2_with fail
   clear p24_0 p24_1 p24_2
   generalize X22.alloc (.cells #[.slice none 0 0,.int .i64 0] 28)=W25 at*
   generalize X22.heap.size=q25 at*
   (with_reducible refine(zoL (t:=true) HZF.out (HT.out _ HB.out) HQ17.out HS17.out).mono ?_)
   rintro e X26 ⟨rfl,hb⟩
   have HB:=lh9 (zab HB.out hb)
   have HM5:=lh9 (HM5.out.keep hb)
   have HM6:=lh9 (HM6.out.keep hb)
   have HK10:=lh9 (zaa hb HK10.out)
   have HK11:=lh9 (zaa hb HK11.out)
   have HQ17:=lh9 (HQ17.out.below hb)
   have HK19:=lh9 (zaa hb HK19.out)
   clear hb 
   obtain⟨p27_0,p27_1⟩:=HK10.out.c2
   have HS28:Hid (zax (1) (zcW m m X0)):=HS5.out.turn HDX0.out
   go_wp2_with fail
   clear p27_0 p27_1
   (with_reducible refine(zjB (HT.out _ HB.out) HM5.out HS5.out).mono ?_)
   rintro e X29 ⟨A28,c28,rfl,hm28,-,hb⟩
   have HB:=lh9 (zab HB.out hb)
   have HM5:=lh9 (HM5.out.keep hb)
   have HM6:=lh9 (HM6.out.keep hb)
   have HK10:=lh9 (zaa hb HK10.out)
   have HK11:=lh9 (zaa hb HK11.out)
   have HQ17:=lh9 (HQ17.out.below hb)
   have HK19:=lh9 (zaa hb HK19.out)
   have HM28:=lh9 (hm28)
   clear hb hm28
   have hdt:=zde (K:=8) (HT.out _ HB.out) HM28.out rfl HS28.out HWT.out (by decide) (by decide) (by decide)
   rw [HDT.out] at hdt
   go_wp2_with fail
   have HS30:Hid (SzQ (1100) (d)):=HSD.out
   (with_reducible refine(hdt).mono ?_)
   rintro e X31 ⟨b30,A30,n30,c30,E30,k30,f30,rfl,hw30,hb⟩
   have HB:=lh9 (zab HB.out hb)
   have HM5:=lh9 (HM5.out.keep hb)
   have HM6:=lh9 (HM6.out.keep hb)
   have HK10:=lh9 (zaa hb HK10.out)
   have HK11:=lh9 (zaa hb HK11.out)
   have HQ17:=lh9 (HQ17.out.below hb)
   have HK19:=lh9 (zaa hb HK19.out)
   have HM28:=lh9 (HM28.out.keep hb)
   have HQ30:=lh9 (hw30)
   clear hb hw30
   clear hdt
   clear HM28
   obtain⟨bq0,bq1,-⟩:=zav X31 41 #[.bool b30,.slice A30 n30 c30,.slice E30 k30 f30]
   have HB:=lh9 (zab HB.out bq0)
   have HM5:=lh9 (HM5.out.keep bq0)
   have HM6:=lh9 (HM6.out.keep bq0)
   have HK10:=lh9 (zaa bq0 HK10.out)
   have HK11:=lh9 (zaa bq0 HK11.out)
   have HQ17:=lh9 (HQ17.out.below bq0)
   have HK19:=lh9 (zaa bq0 HK19.out)
   have HQ30:=lh9 (HQ30.out.below bq0)
   have HK32:=lh9 (bq1)
   clear bq0 bq1
   go_upto_region 19 with fail
   generalize X31.alloc (.cells #[.bool b30,.slice A30 n30 c30,.slice E30 k30 f30] 41)=W33 at*
   generalize X31.heap.size=q33 at*
   obtain⟨p34_0,p34_1,p34_2⟩:=HK32.out.c3
   obtain⟨p35_0,p35_1,p35_2⟩:=HK19.out.c3
   obtain⟨p36_0,p36_1⟩:=HK11.out.c2
   obtain⟨p37_0,p37_1⟩:=HK10.out.c2
   have hbd:=(Below.refl W33.heap.size W33).drew
   have HB:=lh9 (zab HB.out hbd)
   have HM5:=lh9 (HM5.out.keep hbd)
   have HM6:=lh9 (HM6.out.keep hbd)
   have HK10:=lh9 (zaa hbd HK10.out)
   have HK11:=lh9 (zaa hbd HK11.out)
   have HQ17:=lh9 (HQ17.out.below hbd)
   have HK19:=lh9 (zaa hbd HK19.out)
   have HQ30:=lh9 (HQ30.out.below hbd)
   have HK32:=lh9 (zaa hbd HK32.out)
   refine rg (csc p34_0 (csc p34_1 (csc p34_2 (csc p35_0 (csc p35_1 (csc p35_2 (csc p36_0 (csc p36_1 (csc p37_0 (csc p37_1 csn)))))))))) (λhHeld=>?_)
   clear hbd p34_0 p34_1 p34_2 p35_0 p35_1 p35_2 p36_0 p36_1 p37_0 p37_1
   generalize W33.drew=D38 at*
   refine tk 0 ?_
   refine tk 1 ?_
   refine tk 2 ?_
   refine tk 3 ?_
   refine tk 4 ?_
   refine rc 5 (λKK hK=>?_)
   go_simp
   (with_reducible refine(zfM (t:=true) (decide_eq_true rfl) (HT.out _ HB.out) HQ30.out HQ17.out HS30.out HS17.out).mono ?_)
   rintro e X39 ⟨rfl,hb⟩
   refine hK.out _ _ (Cs.below hHeld hb) (λhHeld=>?_)
   clear hK KK
   have HB:=lh9 (zab HB.out hb)
   have HM5:=lh9 (HM5.out.keep hb)
   have HM6:=lh9 (HM6.out.keep hb)
   have HK10:=lh9 (zaa hb HK10.out)
   have HK11:=lh9 (zaa hb HK11.out)
   have HQ17:=lh9 (HQ17.out.below hb)
   have HK19:=lh9 (zaa hb HK19.out)
   have HQ30:=lh9 (HQ30.out.below hb)
   have HK32:=lh9 (zaa hb HK32.out)
   clear hb 
   refine tk 6 ?_
   refine tk 7 ?_
   refine tk 8 ?_
   refine tk 9 ?_
   refine tk 11 ?_
   refine rc 10 (λKK hK=>?_)
   go_simp
   (with_reducible refine(zbd A6 N1 c6 (m:Int) _).mono ?_)
   rintro e X40 ⟨rfl,hb⟩
   refine hK.out _ _ (Cs.below hHeld hb) (λhHeld=>?_)
   clear hK KK
   have HB:=lh9 (zab HB.out hb)
   have HM5:=lh9 (HM5.out.keep hb)
   have HM6:=lh9 (HM6.out.keep hb)
   have HK10:=lh9 (zaa hb HK10.out)
   have HK11:=lh9 (zaa hb HK11.out)
   have HQ17:=lh9 (HQ17.out.below hb)
   have HK19:=lh9 (zaa hb HK19.out)
   have HQ30:=lh9 (HQ30.out.below hb)
   have HK32:=lh9 (zaa hb HK32.out)
   clear hb 
   refine rc 12 (λKK hK=>?_)
   go_simp
   (with_reducible refine(zbr A6 N1 c6 (m:Int) _).mono ?_)
   rintro e X41 ⟨rfl,hb⟩
   refine hK.out _ _ (Cs.below hHeld hb) (λhHeld=>?_)
   clear hK KK
   have HB:=lh9 (zab HB.out hb)
   have HM5:=lh9 (HM5.out.keep hb)
   have HM6:=lh9 (HM6.out.keep hb)
   have HK10:=lh9 (zaa hb HK10.out)
   have HK11:=lh9 (zaa hb HK11.out)
   have HQ17:=lh9 (HQ17.out.below hb)
   have HK19:=lh9 (zaa hb HK19.out)
   have HQ30:=lh9 (HQ30.out.below hb)
   have HK32:=lh9 (zaa hb HK32.out)
   clear hb 
   by_cases hq1:m=N1
   ·subst hq1
    refine tk 13 ?_
    refine tk 14 ?_
    refine tk 15 ?_
    refine tk 16 ?_
    refine tk 18 ?_
    refine rc 17 (λKK hK=>?_)
    go_simp
    (with_reducible refine(zbd A6 m c6 (m:Int) _).mono ?_)
    rintro e X42 ⟨rfl,hb⟩
    refine hK.out _ _ (Cs.below hHeld hb) (λhHeld=>?_)
    clear hK KK
    have HB:=lh9 (zab HB.out hb)
    have HM5:=lh9 (HM5.out.keep hb)
    have HM6:=lh9 (HM6.out.keep hb)
    have HK10:=lh9 (zaa hb HK10.out)
    have HK11:=lh9 (zaa hb HK11.out)
    have HQ17:=lh9 (HQ17.out.below hb)
    have HK19:=lh9 (zaa hb HK19.out)
    clear hb 
    refine rc 19 (λKK hK=>?_)
    go_simp
    (with_reducible refine(zbd A5 m c5 (m:Int) _).mono ?_)
    rintro e X43 ⟨rfl,hb⟩
    refine hK.out _ _ (Cs.below hHeld hb) (λhHeld=>?_)
    clear hK KK
    have HB:=lh9 (zab HB.out hb)
    have HM5:=lh9 (HM5.out.keep hb)
    have HM6:=lh9 (HM6.out.keep hb)
    have HK10:=lh9 (zaa hb HK10.out)
    have HK11:=lh9 (zaa hb HK11.out)
    have HQ17:=lh9 (HQ17.out.below hb)
    have HK19:=lh9 (zaa hb HK19.out)
    clear hb 
    refine tk 20 ?_
    refine tk 21 ?_
    refine rdn ?_
    clear hHeld
    have HSE:Hid (SzQ 1100 (zcZ m X1)):=(zhf HDX1.out (by omega) HWY.out).up (by omega)
    obtain⟨p44_0,p44_1⟩:=HK11.out.c2
    go_wp2_with fail
    clear p44_0 p44_1
    have HS45:Hid (SzQ (1100) (zcZ m X1)):=HSE.out
    (with_reducible refine(zde (K:=8) (HT.out _ HB.out) HM6.out rfl HS6.out HWY.out (by decide) (by decide) (by decide)).mono ?_)
    rintro e X46 ⟨b45,A45,n45,c45,E45,k45,f45,rfl,hw45,hb⟩
    have HB:=lh9 (zab HB.out hb)
    have HM5:=lh9 (HM5.out.keep hb)
    have HM6:=lh9 (HM6.out.keep hb)
    have HK10:=lh9 (zaa hb HK10.out)
    have HK11:=lh9 (zaa hb HK11.out)
    have HQ17:=lh9 (HQ17.out.below hb)
    have HK19:=lh9 (zaa hb HK19.out)
    have HQ45:=lh9 (hw45)
    clear hb hw45
    obtain⟨bq0,bq1,-⟩:=zav X46 41 #[.bool b45,.slice A45 n45 c45,.slice E45 k45 f45]
    have HB:=lh9 (zab HB.out bq0)
    have HM5:=lh9 (HM5.out.keep bq0)
    have HM6:=lh9 (HM6.out.keep bq0)
    have HK10:=lh9 (zaa bq0 HK10.out)
    have HK11:=lh9 (zaa bq0 HK11.out)
    have HQ17:=lh9 (HQ17.out.below bq0)
    have HK19:=lh9 (zaa bq0 HK19.out)
    have HQ45:=lh9 (HQ45.out.below bq0)
    have HK47:=lh9 (bq1)
    clear bq0 bq1
    obtain⟨p48_0,p48_1⟩:=HK10.out.c2
    obtain⟨p49_0,p49_1⟩:=HK11.out.c2
    go_wp2_with fail
    clear p48_0 p48_1 p49_0 p49_1
    generalize X46.alloc (.cells #[.bool b45,.slice A45 n45 c45,.slice E45 k45 f45] 41)=W50 at*
    generalize X46.heap.size=q50 at*
    have HS51:Hid (zax (19) (zfs m m m X0 X1)):=zax.up (zax.mul HS5.out HS6.out HDX0.out HDX1.out) (by omega)
    (with_reducible refine(ziI (HT.out _ HB.out) HM5.out HM6.out HS5.out HS6.out).mono ?_)
    rintro e X52 ⟨A51,c51,rfl,hm51,-,hb⟩
    have HB:=lh9 (zab HB.out hb)
    have HQ17:=lh9 (HQ17.out.below hb)
    have HK19:=lh9 (zaa hb HK19.out)
    have HQ45:=lh9 (HQ45.out.below hb)
    have HK47:=lh9 (zaa hb HK47.out)
    have HM51:=lh9 (hm51)
    clear hb hm51
    obtain⟨bq0,bq1,-⟩:=zav X52 28 #[.slice A51 m c51,.int .i64 (m:Int)]
    have HB:=lh9 (zab HB.out bq0)
    have HQ17:=lh9 (HQ17.out.below bq0)
    have HK19:=lh9 (zaa bq0 HK19.out)
    have HQ45:=lh9 (HQ45.out.below bq0)
    have HK47:=lh9 (zaa bq0 HK47.out)
    have HM51:=lh9 (HM51.out.keep bq0)
    obtain⟨p54_0,p54_1⟩:=bq1.c2
    clear bq0 bq1
    go_wp2_with fail
    clear p54_0 p54_1
    generalize X52.alloc (.cells #[.slice A51 m c51,.int .i64 (m:Int)] 28)=W55 at*
    generalize X52.heap.size=q55 at*
    have hwm:=(zbS.of_sz HS51.out (zcV m m m X0 X1)).up (show 1+(m+1)*19<=115 by omega)
    have hsm:SzQ 20000 (zcZ m (zfs m m m X0 X1)):=(zhf (zcV _ _ _ _ _) (by omega) hwm).up (by omega)
    have hde:=zde (K:=115) (HT.out _ HB.out) HM51.out rfl HS51.out hwm (by decide) (by decide) (by decide)
    rw [zmG HDX0.out HDX1.out,HDD.out] at hde hsm
    have HS56:Hid (SzQ (20000) (d*zcZ m X1)):=hsm
    (with_reducible refine(hde).mono ?_)
    rintro e X57 ⟨b56,A56,n56,c56,E56,k56,f56,rfl,hw56,hb⟩
    have HB:=lh9 (zab HB.out hb)
    have HQ17:=lh9 (HQ17.out.below hb)
    have HK19:=lh9 (zaa hb HK19.out)
    have HQ45:=lh9 (HQ45.out.below hb)
    have HK47:=lh9 (zaa hb HK47.out)
    have HQ56:=lh9 (hw56)
    clear hb hw56
    clear hde hsm hwm
    obtain⟨bq0,bq1,-⟩:=zav X57 41 #[.bool b56,.slice A56 n56 c56,.slice E56 k56 f56]
    have HB:=lh9 (zab HB.out bq0)
    have HQ17:=lh9 (HQ17.out.below bq0)
    have HK19:=lh9 (zaa bq0 HK19.out)
    have HQ45:=lh9 (HQ45.out.below bq0)
    have HK47:=lh9 (zaa bq0 HK47.out)
    have HQ56:=lh9 (HQ56.out.below bq0)
    have HK58:=lh9 (bq1)
    clear bq0 bq1
    go_upto_region 24 with fail
    generalize X57.alloc (.cells #[.bool b56,.slice A56 n56 c56,.slice E56 k56 f56] 41)=W59 at*
    generalize X57.heap.size=q59 at*
    obtain⟨p60_0,p60_1,p60_2⟩:=HK58.out.c3
    obtain⟨p61_0,p61_1,p61_2⟩:=HK19.out.c3
    obtain⟨p62_0,p62_1,p62_2⟩:=HK47.out.c3
    have hbd:=(Below.refl W59.heap.size W59).drew
    have HB:=lh9 (zab HB.out hbd)
    have HQ17:=lh9 (HQ17.out.below hbd)
    have HQ45:=lh9 (HQ45.out.below hbd)
    have HQ56:=lh9 (HQ56.out.below hbd)
    refine rg (csc p60_0 (csc p60_1 (csc p60_2 (csc p61_0 (csc p61_1 (csc p61_2 (csc p62_0 (csc p62_1 (csc p62_2 csn))))))))) (λhHeld=>?_)
    clear hbd p60_0 p60_1 p60_2 p61_0 p61_1 p61_2 p62_0 p62_1 p62_2
    generalize W59.drew=D63 at*
    refine tk 0 ?_
    refine tk 1 ?_
    refine tk 2 ?_
    refine tk 3 ?_
    refine tk 4 ?_
    have HS64:Hid (SzQ (2200) (d*zcZ m X1)):=(SzQ.mul HS17.out HS45.out).up (by decide)
    refine rc 5 (λKK hK=>?_)
    go_simp
    (with_reducible refine(zeH (HT.out _ HB.out) HQ17.out HQ45.out HS17.out HS45.out).mono ?_)
    rintro e X65 ⟨b64,A64,n64,c64,E64,k64,f64,rfl,hw64,hb⟩
    refine hK.out _ _ (Cs.below hHeld hb) (λhHeld=>?_)
    clear hK KK
    have HB:=lh9 (zab HB.out hb)
    have HQ56:=lh9 (HQ56.out.below hb)
    have HQ64:=lh9 (hw64)
    clear hb hw64
    refine rc 6 (λKK hK=>?_)
    go_simp
    (with_reducible refine(zfM (t:=true) (decide_eq_true rfl) (HT.out _ HB.out) HQ56.out HQ64.out HS56.out HS64.out).mono ?_)
    rintro e X66 ⟨rfl,hb⟩
    refine hK.out _ _ (Cs.below hHeld hb) (λhHeld=>?_)
    clear hK KK
    have HB:=lh9 (zab HB.out hb)
    clear hb 
    refine tk 7 ?_
    refine tk 8 ?_
    refine rdn ?_
    clear hHeld
    go_wp2
    go_ret
    exact⟨rfl,HB.out⟩
   ·have d5:((N1:Int) !=(m:Int))=true:=by rw [bne_iff_ne];omega
    clear hq1
    refine tk 13 ?_
    refine tk 14 ?_
    refine tk 15 ?_
    refine tu 16 ?_
    refine tu 17 ?_
    refine tu 18 ?_
    refine tu 19 ?_
    refine tu 20 ?_
    refine tk 21 ?_
    refine rdn ?_
    clear hHeld
    obtain⟨p42_0,p42_1,p42_2⟩:=HK32.out.c3
    obtain⟨p43_0,p43_1,p43_2⟩:=HK19.out.c3
    go_wp2_with fail
    clear p42_0 p42_1 p42_2 p43_0 p43_1 p43_2
    (with_reducible refine(zfM (t:=true) (decide_eq_true rfl) (HT.out _ HB.out) HQ30.out HQ17.out HS30.out HS17.out).mono ?_)
    rintro e X44 ⟨rfl,hb⟩
    have HB:=lh9 (zab HB.out hb)
    clear hb 
    go_wp2
    go_ret
    exact⟨rfl,HB.out⟩
  ·have HFL:=lh9 (zlh HDX0.out (t:=true) (by rw [HDD.out,decide_eq_false hz];rfl))
   have HZF:=lh9 (decide_eq_false hz)
   have HNZ:Hid (zaF m (atM X0)≠0):=by rw [<-zeZ HDX0.out,HDD.out];exact hz
   clear hz
   obtain⟨p16_0,p16_1⟩:=HK10.out.c2
   go_wp2_with fail
   clear p16_0 p16_1
   have hde:=zde (K:=8) (HT.out _ HB.out) HM5.out rfl HS5.out HWX.out (by decide) (by decide) (by decide)
   rw [HDD.out] at hde
   have HS17:Hid (SzQ (1100) (d)):=HSD.out
   (with_reducible refine(hde).mono ?_)
   rintro e X18 ⟨b17,A17,n17,c17,E17,k17,f17,rfl,hw17,hb⟩
   have HB:=lh9 (zab HB.out hb)
   have HM5:=lh9 (HM5.out.keep hb)
   have HM6:=lh9 (HM6.out.keep hb)
   have HK10:=lh9 (zaa hb HK10.out)
   have HK11:=lh9 (zaa hb HK11.out)
   have HQ17:=lh9 (hw17)
   clear hb hw17
   clear hde
   obtain⟨bq0,bq1,-⟩:=zav X18 41 #[.bool b17,.slice A17 n17 c17,.slice E17 k17 f17]
   have HB:=lh9 (zab HB.out bq0)
   have HM5:=lh9 (HM5.out.keep bq0)
   have HM6:=lh9 (HM6.out.keep bq0)
   have HK10:=lh9 (zaa bq0 HK10.out)
   have HK11:=lh9 (zaa bq0 HK11.out)
   have HQ17:=lh9 (HQ17.out.below bq0)
   have HK19:=lh9 (bq1)
   clear bq0 bq1
   obtain⟨p20_0,p20_1⟩:=HK10.out.c2
   go_wp2_with fail
   clear p20_0 p20_1
   generalize X18.alloc (.cells #[.bool b17,.slice A17 n17 c17,.slice E17 k17 f17] 41)=W21 at*
   generalize X18.heap.size=q21 at*
   have HS22:Hid (zax (1954) (zfr m X0)):=invM_sz HDX0.out (by omega) HSX0.out
   (with_reducible refine(zmK true HFL.out (HT.out _ HB.out) HM5.out HS5.out HWS.out (by decide) (by decide) (by decide) (by decide)).mono ?_)
   rintro e X23 ⟨A22,c22,rfl,hm22,-,hb⟩
   have HB:=lh9 (zab HB.out hb)
   have HM5:=lh9 (HM5.out.keep hb)
   have HM6:=lh9 (HM6.out.keep hb)
   have HK10:=lh9 (zaa hb HK10.out)
   have HK11:=lh9 (zaa hb HK11.out)
   have HQ17:=lh9 (HQ17.out.below hb)
   have HK19:=lh9 (zaa hb HK19.out)
   have HM22:=lh9 (hm22)
   clear hb hm22
   obtain⟨bq0,bq1,-⟩:=zav X23 28 #[.slice A22 m c22,.int .i64 (m:Int)]
   have HB:=lh9 (zab HB.out bq0)
   have HM5:=lh9 (HM5.out.keep bq0)
   have HM6:=lh9 (HM6.out.keep bq0)
   have HK10:=lh9 (zaa bq0 HK10.out)
   have HK11:=lh9 (zaa bq0 HK11.out)
   have HQ17:=lh9 (HQ17.out.below bq0)
   have HK19:=lh9 (zaa bq0 HK19.out)
   have HM22:=lh9 (HM22.out.keep bq0)
   have HK24:=lh9 (bq1)
   clear bq0 bq1
   obtain⟨p25_0,p25_1,p25_2⟩:=HK19.out.c3
   go_wp2_with fail
   clear p25_0 p25_1 p25_2
   generalize X23.alloc (.cells #[.slice A22 m c22,.int .i64 (m:Int)] 28)=W26 at*
   generalize X23.heap.size=q26 at*
   (with_reducible refine(zoL (t:=false) HZF.out (HT.out _ HB.out) HQ17.out HS17.out).mono ?_)
   rintro e X27 ⟨rfl,hb⟩
   have HB:=lh9 (zab HB.out hb)
   have HM5:=lh9 (HM5.out.keep hb)
   have HM6:=lh9 (HM6.out.keep hb)
   have HK10:=lh9 (zaa hb HK10.out)
   have HK11:=lh9 (zaa hb HK11.out)
   have HQ17:=lh9 (HQ17.out.below hb)
   have HK19:=lh9 (zaa hb HK19.out)
   have HM22:=lh9 (HM22.out.keep hb)
   have HK24:=lh9 (zaa hb HK24.out)
   clear hb 
   obtain⟨p28_0,p28_1⟩:=HK10.out.c2
   go_wp2_with fail
   clear p28_0 p28_1
   (with_reducible refine(zbd A5 m c5 (m:Int) _).mono ?_)
   rintro e X29 ⟨rfl,hb⟩
   have HB:=lh9 (zab HB.out hb)
   have HM5:=lh9 (HM5.out.keep hb)
   have HM6:=lh9 (HM6.out.keep hb)
   have HK10:=lh9 (zaa hb HK10.out)
   have HK11:=lh9 (zaa hb HK11.out)
   have HQ17:=lh9 (HQ17.out.below hb)
   have HK19:=lh9 (zaa hb HK19.out)
   have HM22:=lh9 (HM22.out.keep hb)
   have HK24:=lh9 (zaa hb HK24.out)
   clear hb 
   go_wp2_with fail
   have HS30:Hid (zax (1) (oneM m)):=zax.tab λr c _ _=>one_sz r c
   (with_reducible refine(mat_one (HT.out _ HB.out) (by omega)).mono ?_)
   rintro e X31 ⟨A30,c30,rfl,hm30,-,hb⟩
   have HB:=lh9 (zab HB.out hb)
   have HM5:=lh9 (HM5.out.keep hb)
   have HM6:=lh9 (HM6.out.keep hb)
   have HK10:=lh9 (zaa hb HK10.out)
   have HK11:=lh9 (zaa hb HK11.out)
   have HQ17:=lh9 (HQ17.out.below hb)
   have HK19:=lh9 (zaa hb HK19.out)
   have HM22:=lh9 (HM22.out.keep hb)
   have HK24:=lh9 (zaa hb HK24.out)
   have HM30:=lh9 (hm30)
   clear hb hm30
   obtain⟨bq0,bq1,-⟩:=zav X31 28 #[.slice A30 m c30,.int .i64 (m:Int)]
   have HB:=lh9 (zab HB.out bq0)
   have HM5:=lh9 (HM5.out.keep bq0)
   have HM6:=lh9 (HM6.out.keep bq0)
   have HK10:=lh9 (zaa bq0 HK10.out)
   have HK11:=lh9 (zaa bq0 HK11.out)
   have HQ17:=lh9 (HQ17.out.below bq0)
   have HK19:=lh9 (zaa bq0 HK19.out)
   have HM22:=lh9 (HM22.out.keep bq0)
   have HK24:=lh9 (zaa bq0 HK24.out)
   have HM30:=lh9 (HM30.out.keep bq0)
   have HK32:=lh9 (bq1)
   clear bq0 bq1
   obtain⟨p33_0,p33_1⟩:=HK10.out.c2
   obtain⟨p34_0,p34_1⟩:=HK24.out.c2
   go_wp2_with fail
   clear p33_0 p33_1 p34_0 p34_1
   generalize X31.alloc (.cells #[.slice A30 m c30,.int .i64 (m:Int)] 28)=W35 at*
   generalize X31.heap.size=q35 at*
   have HS36:Hid (zax (1) (zfs m m m X0 (zfr m X0))):=by rw [zjt HDX0.out HNZ.out];exact HS30.out
   (with_reducible refine(ziI (HT.out _ HB.out) HM5.out HM22.out HS5.out HS22.out (by omega) (by omega) (by omega)).mono ?_)
   rintro e X37 ⟨A36,c36,rfl,hm36,-,hb⟩
   have HB:=lh9 (zab HB.out hb)
   have HM5:=lh9 (HM5.out.keep hb)
   have HM6:=lh9 (HM6.out.keep hb)
   have HK10:=lh9 (zaa hb HK10.out)
   have HK11:=lh9 (zaa hb HK11.out)
   have HQ17:=lh9 (HQ17.out.below hb)
   have HK19:=lh9 (zaa hb HK19.out)
   have HM22:=lh9 (HM22.out.keep hb)
   have HK24:=lh9 (zaa hb HK24.out)
   have HM30:=lh9 (HM30.out.keep hb)
   have HK32:=lh9 (zaa hb HK32.out)
   have HM36:=lh9 (hm36)
   clear hb hm36
   obtain⟨bq0,bq1,-⟩:=zav X37 28 #[.slice A36 m c36,.int .i64 (m:Int)]
   have HB:=lh9 (zab HB.out bq0)
   have HM5:=lh9 (HM5.out.keep bq0)
   have HM6:=lh9 (HM6.out.keep bq0)
   have HK10:=lh9 (zaa bq0 HK10.out)
   have HK11:=lh9 (zaa bq0 HK11.out)
   have HQ17:=lh9 (HQ17.out.below bq0)
   have HK19:=lh9 (zaa bq0 HK19.out)
   have HM22:=lh9 (HM22.out.keep bq0)
   have HK24:=lh9 (zaa bq0 HK24.out)
   have HM30:=lh9 (HM30.out.keep bq0)
   have HK32:=lh9 (zaa bq0 HK32.out)
   have HM36:=lh9 (HM36.out.keep bq0)
   have HK38:=lh9 (bq1)
   clear bq0 bq1
   obtain⟨p39_0,p39_1⟩:=HK10.out.c2
   obtain⟨p40_0,p40_1⟩:=HK24.out.c2
   go_wp2_with fail
   clear p39_0 p39_1 p40_0 p40_1
   generalize X37.alloc (.cells #[.slice A36 m c36,.int .i64 (m:Int)] 28)=W41 at*
   generalize X37.heap.size=q41 at*
   have HS42:Hid (zax (1) (zfs m m m (zfr m X0) X0)):=by rw [zkP HDX0.out HNZ.out];exact HS30.out
   (with_reducible refine(ziI (HT.out _ HB.out) HM22.out HM5.out HS22.out HS5.out (by omega) (by omega) (by omega)).mono ?_)
   rintro e X43 ⟨A42,c42,rfl,hm42,-,hb⟩
   have HB:=lh9 (zab HB.out hb)
   have HM5:=lh9 (HM5.out.keep hb)
   have HM6:=lh9 (HM6.out.keep hb)
   have HK10:=lh9 (zaa hb HK10.out)
   have HK11:=lh9 (zaa hb HK11.out)
   have HQ17:=lh9 (HQ17.out.below hb)
   have HK19:=lh9 (zaa hb HK19.out)
   have HM22:=lh9 (HM22.out.keep hb)
   have HK24:=lh9 (zaa hb HK24.out)
   have HM30:=lh9 (HM30.out.keep hb)
   have HK32:=lh9 (zaa hb HK32.out)
   have HM36:=lh9 (HM36.out.keep hb)
   have HK38:=lh9 (zaa hb HK38.out)
   have HM42:=lh9 (hm42)
   clear hb hm42
   obtain⟨bq0,bq1,-⟩:=zav X43 28 #[.slice A42 m c42,.int .i64 (m:Int)]
   have HB:=lh9 (zab HB.out bq0)
   have HM5:=lh9 (HM5.out.keep bq0)
   have HM6:=lh9 (HM6.out.keep bq0)
   have HK10:=lh9 (zaa bq0 HK10.out)
   have HK11:=lh9 (zaa bq0 HK11.out)
   have HQ17:=lh9 (HQ17.out.below bq0)
   have HK19:=lh9 (zaa bq0 HK19.out)
   have HM22:=lh9 (HM22.out.keep bq0)
   have HK24:=lh9 (zaa bq0 HK24.out)
   have HM30:=lh9 (HM30.out.keep bq0)
   have HK32:=lh9 (zaa bq0 HK32.out)
   have HM36:=lh9 (HM36.out.keep bq0)
   have HK38:=lh9 (zaa bq0 HK38.out)
   have HM42:=lh9 (HM42.out.keep bq0)
   have HK44:=lh9 (bq1)
   clear bq0 bq1
   obtain⟨p45_0,p45_1⟩:=HK38.out.c2
   obtain⟨p46_0,p46_1⟩:=HK32.out.c2
   go_wp2_with fail
   clear p45_0 p45_1 p46_0 p46_1
   generalize X43.alloc (.cells #[.slice A42 m c42,.int .i64 (m:Int)] 28)=W47 at*
   generalize X43.heap.size=q47 at*
   (with_reducible refine(zjA (t:=true) (decide_eq_true ⟨rfl,zjt HDX0.out HNZ.out⟩) (HT.out _ HB.out) HM36.out HM30.out HS36.out HS30.out).mono ?_)
   rintro e X48 ⟨rfl,hb⟩
   have HB:=lh9 (zab HB.out hb)
   have HM5:=lh9 (HM5.out.keep hb)
   have HM6:=lh9 (HM6.out.keep hb)
   have HK10:=lh9 (zaa hb HK10.out)
   have HK11:=lh9 (zaa hb HK11.out)
   have HQ17:=lh9 (HQ17.out.below hb)
   have HK19:=lh9 (zaa hb HK19.out)
   have HM22:=lh9 (HM22.out.keep hb)
   have HK24:=lh9 (zaa hb HK24.out)
   have HM30:=lh9 (HM30.out.keep hb)
   have HK32:=lh9 (zaa hb HK32.out)
   have HM36:=lh9 (HM36.out.keep hb)
   have HK38:=lh9 (zaa hb HK38.out)
   have HM42:=lh9 (HM42.out.keep hb)
   have HK44:=lh9 (zaa hb HK44.out)
   clear hb 
   obtain⟨p49_0,p49_1⟩:=HK44.out.c2
   obtain⟨p50_0,p50_1⟩:=HK32.out.c2
   go_wp2_with fail
   clear p49_0 p49_1 p50_0 p50_1
   (with_reducible refine(zjA (t:=true) (decide_eq_true ⟨rfl,zkP HDX0.out HNZ.out⟩) (HT.out _ HB.out) HM42.out HM30.out HS42.out HS30.out).mono ?_)
   rintro e X51 ⟨rfl,hb⟩
   have HB:=lh9 (zab HB.out hb)
   have HM5:=lh9 (HM5.out.keep hb)
   have HM6:=lh9 (HM6.out.keep hb)
   have HK10:=lh9 (zaa hb HK10.out)
   have HK11:=lh9 (zaa hb HK11.out)
   have HQ17:=lh9 (HQ17.out.below hb)
   have HK19:=lh9 (zaa hb HK19.out)
   have HM22:=lh9 (HM22.out.keep hb)
   have HK24:=lh9 (zaa hb HK24.out)
   have HM30:=lh9 (HM30.out.keep hb)
   have HK32:=lh9 (zaa hb HK32.out)
   have HM36:=lh9 (HM36.out.keep hb)
   have HK38:=lh9 (zaa hb HK38.out)
   have HM42:=lh9 (HM42.out.keep hb)
   have HK44:=lh9 (zaa hb HK44.out)
   clear hb 
   clear HM22 HM30 HM36 HM42 HK32 HK38 HK44 HK24
   obtain⟨p52_0,p52_1⟩:=HK10.out.c2
   have HS53:Hid (zax (1) (zcW m m X0)):=HS5.out.turn HDX0.out
   go_wp2_with fail
   clear p52_0 p52_1
   (with_reducible refine(zjB (HT.out _ HB.out) HM5.out HS5.out).mono ?_)
   rintro e X54 ⟨A53,c53,rfl,hm53,-,hb⟩
   have HB:=lh9 (zab HB.out hb)
   have HM5:=lh9 (HM5.out.keep hb)
   have HM6:=lh9 (HM6.out.keep hb)
   have HK10:=lh9 (zaa hb HK10.out)
   have HK11:=lh9 (zaa hb HK11.out)
   have HQ17:=lh9 (HQ17.out.below hb)
   have HK19:=lh9 (zaa hb HK19.out)
   have HM53:=lh9 (hm53)
   clear hb hm53
   have hdt:=zde (K:=8) (HT.out _ HB.out) HM53.out rfl HS53.out HWT.out (by decide) (by decide) (by decide)
   rw [HDT.out] at hdt
   go_wp2_with fail
   have HS55:Hid (SzQ (1100) (d)):=HSD.out
   (with_reducible refine(hdt).mono ?_)
   rintro e X56 ⟨b55,A55,n55,c55,E55,k55,f55,rfl,hw55,hb⟩
   have HB:=lh9 (zab HB.out hb)
   have HM5:=lh9 (HM5.out.keep hb)
   have HM6:=lh9 (HM6.out.keep hb)
   have HK10:=lh9 (zaa hb HK10.out)
   have HK11:=lh9 (zaa hb HK11.out)
   have HQ17:=lh9 (HQ17.out.below hb)
   have HK19:=lh9 (zaa hb HK19.out)
   have HM53:=lh9 (HM53.out.keep hb)
   have HQ55:=lh9 (hw55)
   clear hb hw55
   clear hdt
   clear HM53
   obtain⟨bq0,bq1,-⟩:=zav X56 41 #[.bool b55,.slice A55 n55 c55,.slice E55 k55 f55]
   have HB:=lh9 (zab HB.out bq0)
   have HM5:=lh9 (HM5.out.keep bq0)
   have HM6:=lh9 (HM6.out.keep bq0)
   have HK10:=lh9 (zaa bq0 HK10.out)
   have HK11:=lh9 (zaa bq0 HK11.out)
   have HQ17:=lh9 (HQ17.out.below bq0)
   have HK19:=lh9 (zaa bq0 HK19.out)
   have HQ55:=lh9 (HQ55.out.below bq0)
   have HK57:=lh9 (bq1)
   clear bq0 bq1
   go_upto_region 19 with fail
   generalize X56.alloc (.cells #[.bool b55,.slice A55 n55 c55,.slice E55 k55 f55] 41)=W58 at*
   generalize X56.heap.size=q58 at*
   obtain⟨p59_0,p59_1,p59_2⟩:=HK57.out.c3
   obtain⟨p60_0,p60_1,p60_2⟩:=HK19.out.c3
   obtain⟨p61_0,p61_1⟩:=HK11.out.c2
   obtain⟨p62_0,p62_1⟩:=HK10.out.c2
   have hbd:=(Below.refl W58.heap.size W58).drew
   have HB:=lh9 (zab HB.out hbd)
   have HM5:=lh9 (HM5.out.keep hbd)
   have HM6:=lh9 (HM6.out.keep hbd)
   have HK10:=lh9 (zaa hbd HK10.out)
   have HK11:=lh9 (zaa hbd HK11.out)
   have HQ17:=lh9 (HQ17.out.below hbd)
   have HK19:=lh9 (zaa hbd HK19.out)
   have HQ55:=lh9 (HQ55.out.below hbd)
   have HK57:=lh9 (zaa hbd HK57.out)
   refine rg (csc p59_0 (csc p59_1 (csc p59_2 (csc p60_0 (csc p60_1 (csc p60_2 (csc p61_0 (csc p61_1 (csc p62_0 (csc p62_1 csn)))))))))) (λhHeld=>?_)
   clear hbd p59_0 p59_1 p59_2 p60_0 p60_1 p60_2 p61_0 p61_1 p62_0 p62_1
   generalize W58.drew=D63 at*
   refine tk 0 ?_
   refine tk 1 ?_
   refine tk 2 ?_
   refine tk 3 ?_
   refine tk 4 ?_
   refine rc 5 (λKK hK=>?_)
   go_simp
   (with_reducible refine(zfM (t:=true) (decide_eq_true rfl) (HT.out _ HB.out) HQ55.out HQ17.out HS55.out HS17.out).mono ?_)
   rintro e X64 ⟨rfl,hb⟩
   refine hK.out _ _ (Cs.below hHeld hb) (λhHeld=>?_)
   clear hK KK
   have HB:=lh9 (zab HB.out hb)
   have HM5:=lh9 (HM5.out.keep hb)
   have HM6:=lh9 (HM6.out.keep hb)
   have HK10:=lh9 (zaa hb HK10.out)
   have HK11:=lh9 (zaa hb HK11.out)
   have HQ17:=lh9 (HQ17.out.below hb)
   have HK19:=lh9 (zaa hb HK19.out)
   have HQ55:=lh9 (HQ55.out.below hb)
   have HK57:=lh9 (zaa hb HK57.out)
   clear hb 
   refine tk 6 ?_
   refine tk 7 ?_
   refine tk 8 ?_
   refine tk 9 ?_
   refine tk 11 ?_
   refine rc 10 (λKK hK=>?_)
   go_simp
   (with_reducible refine(zbd A6 N1 c6 (m:Int) _).mono ?_)
   rintro e X65 ⟨rfl,hb⟩
   refine hK.out _ _ (Cs.below hHeld hb) (λhHeld=>?_)
   clear hK KK
   have HB:=lh9 (zab HB.out hb)
   have HM5:=lh9 (HM5.out.keep hb)
   have HM6:=lh9 (HM6.out.keep hb)
   have HK10:=lh9 (zaa hb HK10.out)
   have HK11:=lh9 (zaa hb HK11.out)
   have HQ17:=lh9 (HQ17.out.below hb)
   have HK19:=lh9 (zaa hb HK19.out)
   have HQ55:=lh9 (HQ55.out.below hb)
   have HK57:=lh9 (zaa hb HK57.out)
   clear hb 
   refine rc 12 (λKK hK=>?_)
   go_simp
   (with_reducible refine(zbr A6 N1 c6 (m:Int) _).mono ?_)
   rintro e X66 ⟨rfl,hb⟩
   refine hK.out _ _ (Cs.below hHeld hb) (λhHeld=>?_)
   clear hK KK
   have HB:=lh9 (zab HB.out hb)
   have HM5:=lh9 (HM5.out.keep hb)
   have HM6:=lh9 (HM6.out.keep hb)
   have HK10:=lh9 (zaa hb HK10.out)
   have HK11:=lh9 (zaa hb HK11.out)
   have HQ17:=lh9 (HQ17.out.below hb)
   have HK19:=lh9 (zaa hb HK19.out)
   have HQ55:=lh9 (HQ55.out.below hb)
   have HK57:=lh9 (zaa hb HK57.out)
   clear hb 
   by_cases hq1:m=N1
   ·subst hq1
    refine tk 13 ?_
    refine tk 14 ?_
    refine tk 15 ?_
    refine tk 16 ?_
    refine tk 18 ?_
    refine rc 17 (λKK hK=>?_)
    go_simp
    (with_reducible refine(zbd A6 m c6 (m:Int) _).mono ?_)
    rintro e X67 ⟨rfl,hb⟩
    refine hK.out _ _ (Cs.below hHeld hb) (λhHeld=>?_)
    clear hK KK
    have HB:=lh9 (zab HB.out hb)
    have HM5:=lh9 (HM5.out.keep hb)
    have HM6:=lh9 (HM6.out.keep hb)
    have HK10:=lh9 (zaa hb HK10.out)
    have HK11:=lh9 (zaa hb HK11.out)
    have HQ17:=lh9 (HQ17.out.below hb)
    have HK19:=lh9 (zaa hb HK19.out)
    clear hb 
    refine rc 19 (λKK hK=>?_)
    go_simp
    (with_reducible refine(zbd A5 m c5 (m:Int) _).mono ?_)
    rintro e X68 ⟨rfl,hb⟩
    refine hK.out _ _ (Cs.below hHeld hb) (λhHeld=>?_)
    clear hK KK
    have HB:=lh9 (zab HB.out hb)
    have HM5:=lh9 (HM5.out.keep hb)
    have HM6:=lh9 (HM6.out.keep hb)
    have HK10:=lh9 (zaa hb HK10.out)
    have HK11:=lh9 (zaa hb HK11.out)
    have HQ17:=lh9 (HQ17.out.below hb)
    have HK19:=lh9 (zaa hb HK19.out)
    clear hb 
    refine tk 20 ?_
    refine tk 21 ?_
    refine rdn ?_
    clear hHeld
    have HSE:Hid (SzQ 1100 (zcZ m X1)):=(zhf HDX1.out (by omega) HWY.out).up (by omega)
    obtain⟨p69_0,p69_1⟩:=HK11.out.c2
    go_wp2_with fail
    clear p69_0 p69_1
    have HS70:Hid (SzQ (1100) (zcZ m X1)):=HSE.out
    (with_reducible refine(zde (K:=8) (HT.out _ HB.out) HM6.out rfl HS6.out HWY.out (by decide) (by decide) (by decide)).mono ?_)
    rintro e X71 ⟨b70,A70,n70,c70,E70,k70,f70,rfl,hw70,hb⟩
    have HB:=lh9 (zab HB.out hb)
    have HM5:=lh9 (HM5.out.keep hb)
    have HM6:=lh9 (HM6.out.keep hb)
    have HK10:=lh9 (zaa hb HK10.out)
    have HK11:=lh9 (zaa hb HK11.out)
    have HQ17:=lh9 (HQ17.out.below hb)
    have HK19:=lh9 (zaa hb HK19.out)
    have HQ70:=lh9 (hw70)
    clear hb hw70
    obtain⟨bq0,bq1,-⟩:=zav X71 41 #[.bool b70,.slice A70 n70 c70,.slice E70 k70 f70]
    have HB:=lh9 (zab HB.out bq0)
    have HM5:=lh9 (HM5.out.keep bq0)
    have HM6:=lh9 (HM6.out.keep bq0)
    have HK10:=lh9 (zaa bq0 HK10.out)
    have HK11:=lh9 (zaa bq0 HK11.out)
    have HQ17:=lh9 (HQ17.out.below bq0)
    have HK19:=lh9 (zaa bq0 HK19.out)
    have HQ70:=lh9 (HQ70.out.below bq0)
    have HK72:=lh9 (bq1)
    clear bq0 bq1
    obtain⟨p73_0,p73_1⟩:=HK10.out.c2
    obtain⟨p74_0,p74_1⟩:=HK11.out.c2
    go_wp2_with fail
    clear p73_0 p73_1 p74_0 p74_1
    generalize X71.alloc (.cells #[.bool b70,.slice A70 n70 c70,.slice E70 k70 f70] 41)=W75 at*
    generalize X71.heap.size=q75 at*
    have HS76:Hid (zax (19) (zfs m m m X0 X1)):=zax.up (zax.mul HS5.out HS6.out HDX0.out HDX1.out) (by omega)
    (with_reducible refine(ziI (HT.out _ HB.out) HM5.out HM6.out HS5.out HS6.out).mono ?_)
    rintro e X77 ⟨A76,c76,rfl,hm76,-,hb⟩
    have HB:=lh9 (zab HB.out hb)
    have HQ17:=lh9 (HQ17.out.below hb)
    have HK19:=lh9 (zaa hb HK19.out)
    have HQ70:=lh9 (HQ70.out.below hb)
    have HK72:=lh9 (zaa hb HK72.out)
    have HM76:=lh9 (hm76)
    clear hb hm76
    obtain⟨bq0,bq1,-⟩:=zav X77 28 #[.slice A76 m c76,.int .i64 (m:Int)]
    have HB:=lh9 (zab HB.out bq0)
    have HQ17:=lh9 (HQ17.out.below bq0)
    have HK19:=lh9 (zaa bq0 HK19.out)
    have HQ70:=lh9 (HQ70.out.below bq0)
    have HK72:=lh9 (zaa bq0 HK72.out)
    have HM76:=lh9 (HM76.out.keep bq0)
    obtain⟨p79_0,p79_1⟩:=bq1.c2
    clear bq0 bq1
    go_wp2_with fail
    clear p79_0 p79_1
    generalize X77.alloc (.cells #[.slice A76 m c76,.int .i64 (m:Int)] 28)=W80 at*
    generalize X77.heap.size=q80 at*
    have hwm:=(zbS.of_sz HS76.out (zcV m m m X0 X1)).up (show 1+(m+1)*19<=115 by omega)
    have hsm:SzQ 20000 (zcZ m (zfs m m m X0 X1)):=(zhf (zcV _ _ _ _ _) (by omega) hwm).up (by omega)
    have hde:=zde (K:=115) (HT.out _ HB.out) HM76.out rfl HS76.out hwm (by decide) (by decide) (by decide)
    rw [zmG HDX0.out HDX1.out,HDD.out] at hde hsm
    have HS81:Hid (SzQ (20000) (d*zcZ m X1)):=hsm
    (with_reducible refine(hde).mono ?_)
    rintro e X82 ⟨b81,A81,n81,c81,E81,k81,f81,rfl,hw81,hb⟩
    have HB:=lh9 (zab HB.out hb)
    have HQ17:=lh9 (HQ17.out.below hb)
    have HK19:=lh9 (zaa hb HK19.out)
    have HQ70:=lh9 (HQ70.out.below hb)
    have HK72:=lh9 (zaa hb HK72.out)
    have HQ81:=lh9 (hw81)
    clear hb hw81
    clear hde hsm hwm
    obtain⟨bq0,bq1,-⟩:=zav X82 41 #[.bool b81,.slice A81 n81 c81,.slice E81 k81 f81]
    have HB:=lh9 (zab HB.out bq0)
    have HQ17:=lh9 (HQ17.out.below bq0)
    have HK19:=lh9 (zaa bq0 HK19.out)
    have HQ70:=lh9 (HQ70.out.below bq0)
    have HK72:=lh9 (zaa bq0 HK72.out)
    have HQ81:=lh9 (HQ81.out.below bq0)
    have HK83:=lh9 (bq1)
    clear bq0 bq1
    go_upto_region 24 with fail
    generalize X82.alloc (.cells #[.bool b81,.slice A81 n81 c81,.slice E81 k81 f81] 41)=W84 at*
    generalize X82.heap.size=q84 at*
    obtain⟨p85_0,p85_1,p85_2⟩:=HK83.out.c3
    obtain⟨p86_0,p86_1,p86_2⟩:=HK19.out.c3
    obtain⟨p87_0,p87_1,p87_2⟩:=HK72.out.c3
    have hbd:=(Below.refl W84.heap.size W84).drew
    have HB:=lh9 (zab HB.out hbd)
    have HQ17:=lh9 (HQ17.out.below hbd)
    have HQ70:=lh9 (HQ70.out.below hbd)
    have HQ81:=lh9 (HQ81.out.below hbd)
    refine rg (csc p85_0 (csc p85_1 (csc p85_2 (csc p86_0 (csc p86_1 (csc p86_2 (csc p87_0 (csc p87_1 (csc p87_2 csn))))))))) (λhHeld=>?_)
    clear hbd p85_0 p85_1 p85_2 p86_0 p86_1 p86_2 p87_0 p87_1 p87_2
    generalize W84.drew=D88 at*
    refine tk 0 ?_
    refine tk 1 ?_
    refine tk 2 ?_
    refine tk 3 ?_
    refine tk 4 ?_
    have HS89:Hid (SzQ (2200) (d*zcZ m X1)):=(SzQ.mul HS17.out HS70.out).up (by decide)
    refine rc 5 (λKK hK=>?_)
    go_simp
    (with_reducible refine(zeH (HT.out _ HB.out) HQ17.out HQ70.out HS17.out HS70.out).mono ?_)
    rintro e X90 ⟨b89,A89,n89,c89,E89,k89,f89,rfl,hw89,hb⟩
    refine hK.out _ _ (Cs.below hHeld hb) (λhHeld=>?_)
    clear hK KK
    have HB:=lh9 (zab HB.out hb)
    have HQ81:=lh9 (HQ81.out.below hb)
    have HQ89:=lh9 (hw89)
    clear hb hw89
    refine rc 6 (λKK hK=>?_)
    go_simp
    (with_reducible refine(zfM (t:=true) (decide_eq_true rfl) (HT.out _ HB.out) HQ81.out HQ89.out HS81.out HS89.out).mono ?_)
    rintro e X91 ⟨rfl,hb⟩
    refine hK.out _ _ (Cs.below hHeld hb) (λhHeld=>?_)
    clear hK KK
    have HB:=lh9 (zab HB.out hb)
    clear hb 
    refine tk 7 ?_
    refine tk 8 ?_
    refine rdn ?_
    clear hHeld
    go_wp2
    go_ret
    exact⟨rfl,HB.out⟩
   ·have d5:((N1:Int) !=(m:Int))=true:=by rw [bne_iff_ne];omega
    clear hq1
    refine tk 13 ?_
    refine tk 14 ?_
    refine tk 15 ?_
    refine tu 16 ?_
    refine tu 17 ?_
    refine tu 18 ?_
    refine tu 19 ?_
    refine tu 20 ?_
    refine tk 21 ?_
    refine rdn ?_
    clear hHeld
    obtain⟨p67_0,p67_1,p67_2⟩:=HK57.out.c3
    obtain⟨p68_0,p68_1,p68_2⟩:=HK19.out.c3
    go_wp2_with fail
    clear p67_0 p67_1 p67_2 p68_0 p68_1 p68_2
    (with_reducible refine(zfM (t:=true) (decide_eq_true rfl) (HT.out _ HB.out) HQ55.out HQ17.out HS55.out HS17.out).mono ?_)
    rintro e X69 ⟨rfl,hb⟩
    have HB:=lh9 (zab HB.out hb)
    clear hb 
    go_wp2
    go_ret
    exact⟨rfl,HB.out⟩
 ·have HQ:Hid (N0≠m):=λe=>hq e.symm
  have d1:((N0:Int) !=(m:Int))=true:=by rw [bne_iff_ne];omega
  clear hq
  obtain⟨p16_0,p16_1⟩:=HK10.out.c2
  go_wp2_with fail
  clear p16_0 p16_1
  (with_reducible refine(zmL HQ.out).mono ?_)
  rintro e X17 ⟨rfl,hb⟩
  have HB:=lh9 (zab HB.out hb)
  clear hb 
  have HB:=lh9 (zab HB.out (zav X17 28 #[.slice none 0 0,.int .i64 0]).1)
  go_wp2
  go_ret
  exact⟨rfl,HB.out⟩
