/- What this claim leans on. -/
import Derived.Test.YtedbgdlbgohiiaaGreatDoorBMAwake
namespace Go.Proofs.YtedbgdlbgohiiaaGreatDoor
open Go Go.RowKit
set_option maxHeartbeats 16000000
set_option maxRecDepth 100000
set_option linter.unusedVariables false
set_option linter.unusedSimpArgs false
def zdc (b : Bool) (X Y : List (List Rat)) (i c : Nat) : Bool:=b && (List.range c).all fun j => decide (atM X i j = atM Y i j)
def zdb (b : Bool) (X Y : List (List Rat)) (m r : Nat) : Bool:=b && (List.range r).all fun i => (List.range m).all fun j => decide (atM X i j = atM Y i j)
theorem zhD (b : Bool) (X Y : List (List Rat)) (m r : Nat) : zdb b X Y m (r + 1) = zdc (zdb b X Y m r) X Y r m:=by
 unfold zdb zdc
 rw [List.range_succ,List.all_append,Bool.and_assoc]
 simp
theorem zlP (b : Bool) (X Y : List (List Rat)) (i c : Nat) : zdc b X Y i (c + 1) = (zdc b X Y i c && decide (atM X i c = atM Y i c)):=by
 unfold zdc
 rw [List.range_succ,List.all_append,Bool.and_assoc]
 simp
theorem znE {b : Bool} {X Y : List (List Rat)} {i c d : Nat} (h : zdc b X Y i c = false) (hcd : c ≤ d) : zdc b X Y i d = false:=by
 unfold zdc at *
 rw [Bool.and_eq_false_iff] at *
 rcases h with h | h
 ·exact Or.inl h
 ·refine Or.inr ?_
  rw [List.all_eq_false] at *
  obtain ⟨j,hj,hn⟩:=h
  exact ⟨j,List.mem_range.2 (Nat.lt_of_lt_of_le (List.mem_range.1 hj) hcd),hn⟩
theorem znF {b : Bool} {X Y : List (List Rat)} {i c : Nat} (h : zdc b X Y i c = true) : b = true:=by
 unfold zdc at h
 rw [Bool.and_eq_true] at h
 exact h.1
theorem znD {b : Bool} {X Y : List (List Rat)} {m r : Nat} (h : zdb b X Y m r = true) : b = true:=by
 unfold zdb at h
 rw [Bool.and_eq_true] at h
 exact h.1
theorem znC {X Y : List (List Rat)} {n n' m m' : Nat} (hX : zbP X n m) (hY : zbP Y n' m') : zdb (decide (n = n') && decide (m = m')) X Y m n = decide (m = m' ∧ X = Y):=by
 by_cases h : m = m' ∧ X = Y
 ·obtain ⟨rfl,rfl⟩:=h
  have hn : n = n':=by rw [← hX.rows,← hY.rows]
  subst hn
  unfold zdb
  simp
 ·rw [decide_eq_false h]
  refine Decidable.byContradiction fun h2 => h ?_
  have h3 : zdb (decide (n = n') && decide (m = m')) X Y m n = true:=by
   cases q : zdb (decide (n = n') && decide (m = m')) X Y m n
   ·exact absurd q h2
   ·rfl
  unfold zdb at h3
  simp only [Bool.and_eq_true,decide_eq_true_eq,List.all_eq_true,List.mem_range] at h3
  obtain ⟨⟨rfl,rfl⟩,h4⟩:=h3
  exact ⟨rfl,zbP.ext hX hY fun r c hr hc => h4 r hr c hc⟩
theorem matSame_core (z0 : Nat) (A0 : oA9) (n0 c0 : Nat) (R0 : zgz) (z1 : Nat) (A1 : oA9) (n1 c1 : Nat) (R1 : zgz) (w : World) (hz0 : z0 ≤ 255) (h0 : zaR w A0 n0 c0 R0) (hz1 : z1 ≤ 255) (h1 : zaR w A1 n1 c1 R1) (hT : zaj w) :
  Calls Tryz.prog 8 #[.agg #[.int .u8 (z0 : Int),.slice A0 n0 c0],.agg #[.int .u8 (z1 : Int),.slice A1 n1 c1]] w fun e w' => e = .returned (.bool true) ∧ Below w.heap.size w w':=by
 have HMK0:=lh9 (fun W (hb : Below w.heap.size w W) => zeY (hT.on hb) hz0 (h0.below hb))
 have HSX0:=lh9 (zfy (m:=z0 % 7) h0 (Nat.min_le_left n0 6))
 have HDX0:=lh9 (zdQ (z0 % 7) R0 (min n0 6))
 obtain ⟨m0,hm0⟩ : ∃ m,z0 % 7 = m:=⟨_,rfl⟩
 obtain ⟨N0,hN0⟩ : ∃ N,min n0 6 = N:=⟨_,rfl⟩
 have bm0 : m0 ≤ 6:=by omega
 have bN0 : N0 ≤ 6:=by omega
 rw [hm0,hN0] at HMK0 HSX0 HDX0
 obtain ⟨X0,hX0⟩ : ∃ X,zfx m0 R0 N0 = X:=⟨_,rfl⟩
 rw [hX0] at HMK0 HSX0 HDX0
 have HMK1:=lh9 (fun W (hb : Below w.heap.size w W) => zeY (hT.on hb) hz1 (h1.below hb))
 have HSX1:=lh9 (zfy (m:=z1 % 7) h1 (Nat.min_le_left n1 6))
 have HDX1:=lh9 (zdQ (z1 % 7) R1 (min n1 6))
 obtain ⟨m1,hm1⟩ : ∃ m,z1 % 7 = m:=⟨_,rfl⟩
 obtain ⟨N1,hN1⟩ : ∃ N,min n1 6 = N:=⟨_,rfl⟩
 have bm1 : m1 ≤ 6:=by omega
 have bN1 : N1 ≤ 6:=by omega
 rw [hm1,hN1] at HMK1 HSX1 HDX1
 obtain ⟨X1,hX1⟩ : ∃ X,zfx m1 R1 N1 = X:=⟨_,rfl⟩
 rw [hX1] at HMK1 HSX1 HDX1
 have HT:=lh9 (fun w' (hb : Below w.heap.size w w') => hT.on hb)
 have HB:=lh9 (Below.refl w.heap.size w)
 clear hT h0 hz0 h1 hz1 hm0 hN0 hX0 hm1 hN1 hX1
 go_enter Tryz.func8,Tryz.ntmps8
 obtain ⟨bq0,bq1,bq2,-⟩:=zbo w 24 24 #[.int .u8 (z0 : Int),.slice A0 n0 c0] #[.int .u8 (z1 : Int),.slice A1 n1 c1]
 have HB:=lh9 (zaa HB.out bq0)
 have HK1:=lh9 (bq1)
 have HK2:=lh9 (bq2)
 clear bq0 bq1 bq2
 go_wp2_with fail
 generalize (w.alloc (.cells #[.int .u8 (z0 : Int),.slice A0 n0 c0] 24)).alloc (.cells #[.int .u8 (z1 : Int),.slice A1 n1 c1] 24) = W3 at *
 (with_reducible refine (zgn (HT.out _ HB.out)).mono ?_)
 rintro e X4 ⟨rfl,hb⟩
 have HB:=lh9 (zaa HB.out hb)
 have HK1:=lh9 (zac hb HK1.out)
 have HK2:=lh9 (zac hb HK2.out)
 clear hb 
 go_wp2_with fail
 have HS5 : Hid (zau (1) (X0)):=HSX0.out
 have HS6 : Hid (zau (1) (X1)):=HSX1.out
 obtain ⟨p7_0,p7_1⟩:=HK1.out.c2
 obtain ⟨p8_0,p8_1⟩:=HK2.out.c2
 have GG:=lh9 (fun w' (h : Below X4.heap.size X4 w') => (csc (zab h p7_0) (csc (zab h p7_1) (csc (zab h p8_0) (csc (zab h p8_1) csn)))))
 refine rgB (fun hHeld => ?_)
 clear p7_0 p7_1 p8_0 p8_1
 refine tl 0 GG.out ?_
 refine tl 2 GG.out ?_
 refine zaT (L:=#[true,true,true,true,true,true,true,true])
  (J:=fun a0 l a w' => ∃ (fl1 fl3 fl4 fl5 fl6 fl7 : Bool) (A5 : oA9) (c5 : Nat) (A6 : oA9) (c6 ad4 ad5 : Nat),l = #[true,fl1,true,fl3,fl4,fl5,fl6,fl7] ∧ zbS [16,18,5,6] a0 a ∧ Hid (Below X4.heap.size X4 w') ∧
    Hid (Gd fl1 (a.tmps.getD 16 undef = .agg #[.slice A5 N0 c5,.int .i64 (m0 : Int)] ∧ zat w' A5 N0 c5 m0 (X0))) ∧
    Hid (Gd fl3 (a.tmps.getD 18 undef = .agg #[.slice A6 N1 c6,.int .i64 (m1 : Int)] ∧ zat w' A6 N1 c6 m1 (X1))) ∧
    Hid (Gd fl4 (a.tmps.getD 5 undef = .pointer (some ⟨ad4,0,none⟩) ∧ X4.heap.size ≤ ad4 ∧ Blk w' ad4 28 (bif fl6 then #[.slice A5 N0 c5,.int .i64 (m0 : Int)] else #[.slice none 0 0,.int .i64 0]))) ∧
    Hid (Gd fl5 (a.tmps.getD 6 undef = .pointer (some ⟨ad5,0,none⟩) ∧ X4.heap.size ≤ ad5 ∧ Blk w' ad5 28 (bif fl7 then #[.slice A6 N1 c6,.int .i64 (m1 : Int)] else #[.slice none 0 0,.int .i64 0]))) ∧
    Hid (Gd fl4 (Gd fl5 (ad4 ≠ ad5))) ∧
    Hid (Gd fl3 (fl1 = true)) ∧
    Hid (Gd fl6 (fl1 = true)) ∧
    Hid (Gd fl6 (fl3 = true)) ∧
    Hid (Gd fl6 (fl4 = true)) ∧
    Hid (Gd fl7 (fl3 = true)) ∧
    Hid (Gd fl7 (fl5 = true)) ∧
    Hid (Gd fl7 (fl6 = true)))
  (by rfl) ?_ ?_ ?_
 ·exact ⟨false,false,false,false,false,false,none,0,none,0,0,0,by kernel_rfl,zbS.refl _ _,hHeld,Gd.no,Gd.no,Gd.no,Gd.no,Gd.no,Gd.no,Gd.no,Gd.no,Gd.no,Gd.no,Gd.no,Gd.no⟩
 ·intro OPS Ac0 Q0 hO hAs hA
  have RB15 : Ac0.tmps.getD 15 undef = .agg #[.int .u8 (z0 : Int),.slice A0 n0 c0]:=(hA 15 undef).trans (by kernel_rfl)
  have RB17 : Ac0.tmps.getD 17 undef = .agg #[.int .u8 (z1 : Int),.slice A1 n1 c1]:=(hA 17 undef).trans (by kernel_rfl)
  have hsz : Ac0.tmps.size = 82:=hAs.trans (by kernel_rfl)
  clear hAs hA
  refine ⟨?_,?_⟩
  ·rintro l a w' ⟨fl1,fl3,fl4,fl5,fl6,fl7,A5,c5,A6,c6,ad4,ad5,rfl,-⟩ hr
   obtain rfl : fl1 = true:=als 1 hr hO
   obtain rfl : fl3 = true:=als 3 hr hO
   obtain rfl : fl4 = true:=als 4 hr hO
   obtain rfl : fl5 = true:=als 5 hr hO
   obtain rfl : fl6 = true:=als 6 hr hO
   obtain rfl : fl7 = true:=als 7 hr hO
   rfl
  ·rintro l a w' i ⟨fl1,fl3,fl4,fl5,fl6,fl7,A5,c5,A6,c6,ad4,ad5,rfl,HKp,hBi,qf1,qf3,qf4,qf5,qn4_5,qd3_1,qd6_1,qd6_3,qd6_4,qd7_3,qd7_5,qd7_6⟩ hne hi
   have hlt : i < 8:=by have:=zbH hi; rw [hO] at this; exact this
   rcases (show i = 0 ∨ i = 1 ∨ i = 2 ∨ i = 3 ∨ i = 4 ∨ i = 5 ∨ i = 6 ∨ i = 7 by omega) with rfl | rfl | rfl | rfl | rfl | rfl | rfl | rfl
   ·cases (zaf hi : true = false)
   ·obtain rfl : fl1 = false:=zaf hi
    obtain rfl : fl3 = false:=Gd.off qd3_1.out
    obtain rfl : fl6 = false:=Gd.off qd6_1.out
    obtain rfl : fl7 = false:=Gd.off qd7_3.out
    have rd15:=HKp.get 15 (by decide) RB15
    have HBn:=lh9 (zaa HB.out hBi.out)
    refine wog hO (fun K' hK => ?_)
    go_simp
    (with_reducible refine (HMK0.out _ HBn.out).mono ?_)
    rintro e w2 ⟨nA5,nc5,rfl,nhm5,-,hb⟩
    exact hK.out _ _ ⟨zaa hBi.out hb,true,false,fl4,fl5,false,false,nA5,nc5,A6,c6,ad4,ad5,by rfl,HKp.put (by decide) _,zaa hBi.out hb,Gd.yes ⟨zas (HKp.lt (by rw [hsz]; decide)) _,nhm5⟩,Gd.no,kq qf4.out fun h => ⟨h.1,zac hb h.2⟩,kq qf5.out fun h => ⟨h.1,zac hb h.2⟩,qn4_5,Gd.no,Gd.no,Gd.no,Gd.no,Gd.no,Gd.no,Gd.no⟩
   ·cases (zaf hi : true = false)
   ·obtain rfl : fl3 = false:=zaf hi
    obtain rfl : fl1 = true:=rdp 1 1 hi hO
    obtain rfl : fl6 = false:=Gd.off qd6_3.out
    obtain rfl : fl7 = false:=Gd.off qd7_3.out
    have rd17:=HKp.get 17 (by decide) RB17
    have hw1_0:=lh9 (qf1.out.get.2)
    have HBn:=lh9 (zaa HB.out hBi.out)
    refine wog hO (fun K' hK => ?_)
    go_simp
    (with_reducible refine (HMK1.out _ HBn.out).mono ?_)
    rintro e w2 ⟨nA6,nc6,rfl,nhm6,-,hb⟩
    exact hK.out _ _ ⟨zaa hBi.out hb,true,true,fl4,fl5,false,false,A5,c5,nA6,nc6,ad4,ad5,by rfl,HKp.put (by decide) _,zaa hBi.out hb,kq qf1.out fun h => zat.keep (h) hb,Gd.yes ⟨zas (HKp.lt (by rw [hsz]; decide)) _,nhm6⟩,kq qf4.out fun h => ⟨h.1,zac hb h.2⟩,kq qf5.out fun h => ⟨h.1,zac hb h.2⟩,qn4_5,fun _ => rfl,Gd.no,Gd.no,Gd.no,Gd.no,Gd.no,Gd.no⟩
   ·obtain rfl : fl4 = false:=zaf hi
    obtain rfl : fl6 = false:=Gd.off qd6_4.out
    obtain rfl : fl7 = false:=Gd.off qd7_6.out
    refine wog hO (fun K' hK => ?_)
    go_simp
    have hb:=zaV w' (.cells #[.slice none 0 0,.int .i64 0] 28)
    exact hK.out _ _ ⟨zaa hBi.out hb,fl1,fl3,true,fl5,false,false,A5,c5,A6,c6,w'.heap.size,ad5,by rfl,HKp.put (by decide) _,zaa hBi.out hb,kq qf1.out fun h => zat.keep (h) hb,kq qf3.out fun h => zat.keep (h) hb,Gd.yes ⟨zas (HKp.lt (by rw [hsz]; decide)) _,hBi.out.size,Blk.new w' _ _⟩,kq qf5.out fun h => ⟨h.1,zac hb h.2⟩,Gd.yes (qf5.out.mono fun h => by have:=Blk.lt h.2.2; omega),qd3_1,Gd.no,Gd.no,Gd.no,Gd.no,Gd.no,Gd.no⟩
   ·obtain rfl : fl5 = false:=zaf hi
    obtain rfl : fl7 = false:=Gd.off qd7_5.out
    refine wog hO (fun K' hK => ?_)
    go_simp
    have hb:=zaV w' (.cells #[.slice none 0 0,.int .i64 0] 28)
    exact hK.out _ _ ⟨zaa hBi.out hb,fl1,fl3,fl4,true,fl6,false,A5,c5,A6,c6,ad4,w'.heap.size,by rfl,HKp.put (by decide) _,zaa hBi.out hb,kq qf1.out fun h => zat.keep (h) hb,kq qf3.out fun h => zat.keep (h) hb,kq qf4.out fun h => ⟨h.1,zac hb h.2⟩,Gd.yes ⟨zas (HKp.lt (by rw [hsz]; decide)) _,hBi.out.size,Blk.new w' _ _⟩,qf4.out.mono fun h => Gd.yes (by have:=Blk.lt h.2.2; omega),qd3_1,qd6_1,qd6_3,qd6_4,Gd.no,Gd.no,Gd.no⟩
   ·obtain rfl : fl6 = false:=zaf hi
    obtain rfl : fl1 = true:=rdp 1 1 hi hO
    obtain rfl : fl3 = true:=rdp 3 2 hi hO
    obtain rfl : fl4 = true:=rdp 4 0 hi hO
    obtain rfl : fl5 = true:=rdp 5 8 hi hO
    obtain rfl : fl7 = false:=Gd.off qd7_6.out
    have rd5:=qf4.out.get.1
    have rd16:=qf1.out.get.1
    obtain ⟨_,hg,hk⟩:=qf4.out.get
    have hk : Blk w' ad4 28 #[.slice none 0 0,.int .i64 0]:=hk
    obtain ⟨sc0,sf0,sc1,sf1⟩:=st2 hk (.slice A5 N0 c5)
    have hj1:=sn2 hk (.slice A5 N0 c5) (.int .i64 (m0 : Int))
    have hBn:=bl2 (.slice A5 N0 c5) (.int .i64 (m0 : Int)) hg hBi.out
    refine wog hO (fun K' hK => ?_)
    go_simp
    exact hK.out _ _ ⟨hBn,true,true,true,true,true,false,A5,c5,A6,c6,ad4,ad5,by rfl,HKp,hBn,qf1.out.mono fun h => ⟨h.1,zat.offz (h.2) hk _ _⟩,qf3.out.mono fun h => ⟨h.1,zat.offz (h.2) hk _ _⟩,qf4.out.mono fun h => ⟨h.1,h.2.1,hj1⟩,fun hf9 => (fun h => ⟨h.1,h.2.1,Blk.far (p:=⟨ad4,1,none⟩) (Blk.far (p:=⟨ad4,0,none⟩) (h.2.2) (Ne.symm (qn4_5.out rfl hf9)) (.slice A5 N0 c5)) (Ne.symm (qn4_5.out rfl hf9)) (.int .i64 (m0 : Int))⟩) (qf5.out hf9),qn4_5,fun _ => rfl,fun _ => rfl,fun _ => rfl,fun _ => rfl,Gd.no,Gd.no,Gd.no⟩
   ·obtain rfl : fl7 = false:=zaf hi
    obtain rfl : fl1 = true:=rdp 1 4 hi hO
    obtain rfl : fl3 = true:=rdp 3 1 hi hO
    obtain rfl : fl4 = true:=rdp 4 7 hi hO
    obtain rfl : fl5 = true:=rdp 5 0 hi hO
    obtain rfl : fl6 = true:=rdp 6 2 hi hO
    have rd6:=qf5.out.get.1
    have rd18:=qf3.out.get.1
    obtain ⟨_,hg,hk⟩:=qf5.out.get
    have hk : Blk w' ad5 28 #[.slice none 0 0,.int .i64 0]:=hk
    obtain ⟨sc0,sf0,sc1,sf1⟩:=st2 hk (.slice A6 N1 c6)
    have hj1:=sn2 hk (.slice A6 N1 c6) (.int .i64 (m1 : Int))
    have hBn:=bl2 (.slice A6 N1 c6) (.int .i64 (m1 : Int)) hg hBi.out
    refine wog hO (fun K' hK => ?_)
    go_simp
    exact hK.out _ _ ⟨hBn,true,true,true,true,true,true,A5,c5,A6,c6,ad4,ad5,by rfl,HKp,hBn,qf1.out.mono fun h => ⟨h.1,zat.offz (h.2) hk _ _⟩,qf3.out.mono fun h => ⟨h.1,zat.offz (h.2) hk _ _⟩,fun hf9 => (fun h => ⟨h.1,h.2.1,Blk.far (p:=⟨ad5,1,none⟩) (Blk.far (p:=⟨ad5,0,none⟩) (h.2.2) (qn4_5.out hf9 rfl) (.slice A6 N1 c6)) (qn4_5.out hf9 rfl) (.int .i64 (m1 : Int))⟩) (qf4.out hf9),qf5.out.mono fun h => ⟨h.1,h.2.1,hj1⟩,qn4_5,fun _ => rfl,fun _ => rfl,fun _ => rfl,fun _ => rfl,fun _ => rfl,fun _ => rfl,fun _ => rfl⟩
 rintro a wm9 ⟨fl1,fl3,fl4,fl5,fl6,fl7,A5,c5,A6,c6,ad4,ad5,hl,HKp,hBi,qf1,qf3,qf4,qf5,qn4_5,qd3_1,qd6_1,qd6_3,qd6_4,qd7_3,qd7_5,qd7_6⟩
 have xx1 : fl1 = true:=gdl 1 hl
 subst xx1
 have xx3 : fl3 = true:=gdl 3 hl
 subst xx3
 have xx4 : fl4 = true:=gdl 4 hl
 subst xx4
 have xx5 : fl5 = true:=gdl 5 hl
 subst xx5
 have xx6 : fl6 = true:=gdl 6 hl
 subst xx6
 have xx7 : fl7 = true:=gdl 7 hl
 subst xx7
 obtain ⟨rv1,hw1_0⟩:=qf1.out.get
 obtain ⟨rv3,hw3_0⟩:=qf3.out.get
 obtain ⟨rv4,hg4,hk4⟩:=qf4.out.get
 obtain ⟨rv5,hg5,hk5⟩:=qf5.out.get
 obtain rfl:=HKp.eq [(16,.agg #[.slice A5 N0 c5,.int .i64 (m0 : Int)]),(18,.agg #[.slice A6 N1 c6,.int .i64 (m1 : Int)]),(5,.pointer (some ⟨ad4,0,none⟩)),(6,.pointer (some ⟨ad5,0,none⟩))] rfl (by
  intro p hp
  simp only [List.mem_cons,List.not_mem_nil,or_false] at hp
  rcases hp with rfl | rfl | rfl | rfl
  ·exact rv1
  ·exact rv3
  ·exact rv4
  ·exact rv5)
 have hBv:=hBi.out
 clear hl hBi HKp qf1 qf3 qf4 qf5 qn4_5 qd3_1 qd6_1 qd6_3 qd6_4 qd7_3 qd7_5 qd7_6 rv1 rv3 rv4 rv5
 have hk4 : Blk wm9 ad4 28 #[.slice A5 N0 c5,.int .i64 (m0 : Int)]:=hk4
 have hk5 : Blk wm9 ad5 28 #[.slice A6 N1 c6,.int .i64 (m1 : Int)]:=hk5
 rw [show due #[true,true,true,true,true,true,true,true] = 0 from rfl]
 simp only [zbL,List.foldl,Act.put,List.setIfInBounds_toArray,List.set_cons_zero,List.set_cons_succ]
 refine wpAnyH_done (by kernel_rfl) ?_ _
 refine NoPanic.normal ?_
 have HB:=lh9 (zaa HB.out hBv)
 have HK1:=lh9 (zac hBv HK1.out)
 have HK2:=lh9 (zac hBv HK2.out)
 have HM5:=lh9 (hw1_0)
 have HM6:=lh9 (hw3_0)
 obtain ⟨adx10,hga⟩ : ∃ x,x = ad4:=⟨_,rfl⟩
 subst hga
 have HK10:=lh9 (hk4)
 obtain ⟨adx11,hga⟩ : ∃ x,x = ad5:=⟨_,rfl⟩
 subst hga
 have HK11:=lh9 (hk5)
 clear hBv GG hk4 hg4 hk5 hg5 hw1_0 hw3_0
 clear HK1 HK2
 go_upto_region 4 with fail
 go_cut [7,19,20,21,22,23,24,25,26,27,28,29,30] (fun s7 s19 s20 s21 s22 s23 s24 s25 s26 s27 s28 s29 s30 wx => s7 = .bool (decide (N0 = N1) && decide (m0 = m1)) ∧ Below wm9.heap.size wm9 wx)
 case first =>
  have HW:=lh9 (Below.refl wm9.heap.size wm9)
  have e0 : ((N0 : Int) == (N1 : Int)) = decide (N0 = N1):=by
   by_cases q : N0 = N1
   ·rw [decide_eq_true q,beq_iff_eq]; omega
   ·rw [decide_eq_false q,beq_eq_false_iff_ne]; omega
  have e1 : ((m0 : Int) == (m1 : Int)) = decide (m0 = m1):=by
   by_cases q : m0 = m1
   ·rw [decide_eq_true q,beq_iff_eq]; omega
   ·rw [decide_eq_false q,beq_eq_false_iff_ne]; omega
  obtain ⟨b0,hb0⟩ : ∃ b,decide (N0 = N1) = b:=⟨_,rfl⟩
  obtain ⟨b1,hb1⟩ : ∃ b,decide (m0 = m1) = b:=⟨_,rfl⟩
  rw [hb0] at e0
  rw [hb1] at e1
  have HB00:=lh9 hb0
  have HB11:=lh9 hb1
  clear hb0 hb1
  obtain ⟨p12_0,p12_1⟩:=HK10.out.c2
  obtain ⟨p13_0,p13_1⟩:=HK11.out.c2
  have hbd:=(Below.refl wm9.heap.size wm9).drew
  have HB:=lh9 (zaa HB.out hbd)
  have HM5:=lh9 (HM5.out.keep hbd)
  have HM6:=lh9 (HM6.out.keep hbd)
  have HK10:=lh9 (zac hbd HK10.out)
  have HK11:=lh9 (zac hbd HK11.out)
  have HW:=lh9 (zaa HW.out hbd)
  refine rg (csc p12_0 (csc p12_1 (csc p13_0 (csc p13_1 csn)))) (fun hHeld => ?_)
  clear hbd p12_0 p12_1 p13_0 p13_1
  generalize wm9.drew = D14 at *
  refine tk 0 ?_
  refine tk 2 ?_
  refine rc 1 (fun KK hK => ?_)
  go_simp
  (with_reducible refine (zaW A5 N0 c5 (m0 : Int) _).mono ?_)
  rintro e X15 ⟨rfl,hb⟩
  refine hK.out _ _ (Cs.below hHeld hb) (fun hHeld => ?_)
  clear hK KK
  have HB:=lh9 (zaa HB.out hb)
  have HM5:=lh9 (HM5.out.keep hb)
  have HM6:=lh9 (HM6.out.keep hb)
  have HK10:=lh9 (zac hb HK10.out)
  have HK11:=lh9 (zac hb HK11.out)
  have HW:=lh9 (zaa HW.out hb)
  clear hb 
  refine rc 3 (fun KK hK => ?_)
  go_simp
  (with_reducible refine (zaW A6 N1 c6 (m1 : Int) _).mono ?_)
  rintro e X16 ⟨rfl,hb⟩
  refine hK.out _ _ (Cs.below hHeld hb) (fun hHeld => ?_)
  clear hK KK
  have HB:=lh9 (zaa HB.out hb)
  have HM5:=lh9 (HM5.out.keep hb)
  have HM6:=lh9 (HM6.out.keep hb)
  have HK10:=lh9 (zac hb HK10.out)
  have HK11:=lh9 (zac hb HK11.out)
  have HW:=lh9 (zaa HW.out hb)
  clear hb 
  refine tk 4 ?_
  refine tk 5 ?_
  cases b0
  ·refine tu 6 ?_
   refine tu 7 ?_
   refine tu 8 ?_
   refine tu 9 ?_
   refine tu 10 ?_
   refine tk 11 ?_
   refine tk 12 ?_
   refine rdn ?_
   clear hHeld
   go_wp2
   go_meet
   exact ⟨by rw [HB00.out]; rfl,HW.out⟩
  ·refine tk 6 ?_
   refine tk 8 ?_
   refine rc 7 (fun KK hK => ?_)
   go_simp
   (with_reducible refine (zco A5 N0 c5 (m0 : Int) _).mono ?_)
   rintro e X17 ⟨rfl,hb⟩
   refine hK.out _ _ (Cs.below hHeld hb) (fun hHeld => ?_)
   clear hK KK
   have HB:=lh9 (zaa HB.out hb)
   have HM5:=lh9 (HM5.out.keep hb)
   have HM6:=lh9 (HM6.out.keep hb)
   have HK10:=lh9 (zac hb HK10.out)
   have HK11:=lh9 (zac hb HK11.out)
   have HW:=lh9 (zaa HW.out hb)
   clear hb 
   refine rc 9 (fun KK hK => ?_)
   go_simp
   (with_reducible refine (zco A6 N1 c6 (m1 : Int) _).mono ?_)
   rintro e X18 ⟨rfl,hb⟩
   refine hK.out _ _ (Cs.below hHeld hb) (fun hHeld => ?_)
   clear hK KK
   have HB:=lh9 (zaa HB.out hb)
   have HM5:=lh9 (HM5.out.keep hb)
   have HM6:=lh9 (HM6.out.keep hb)
   have HK10:=lh9 (zac hb HK10.out)
   have HK11:=lh9 (zac hb HK11.out)
   have HW:=lh9 (zaa HW.out hb)
   clear hb 
   refine tk 10 ?_
   refine tk 11 ?_
   refine tk 12 ?_
   refine rdn ?_
   clear hHeld
   go_wp2
   go_meet
   exact ⟨by rw [HB00.out,HB11.out]; rfl,HW.out⟩
 case rest =>
  obtain ⟨rfl,hb⟩:=hcut
  obtain ⟨wk,hwq⟩ : ∃ x,x = wc:=⟨_,rfl⟩
  subst hwq
  have HB:=lh9 (zaa HB.out hb)
  have HM5:=lh9 (HM5.out.keep hb)
  have HM6:=lh9 (HM6.out.keep hb)
  have HK10:=lh9 (zac hb HK10.out)
  have HK11:=lh9 (zac hb HK11.out)
  clear hb
  obtain ⟨b0,hb0⟩ : ∃ b,(decide (N0 = N1) && decide (m0 = m1)) = b:=⟨_,rfl⟩
  have HFIN : Hid (zdb b0 X0 X1 m0 N0 = decide (m0 = m1 ∧ X0 = X1)):=by rw [← hb0]; exact znC HDX0.out HDX1.out
  have HB0 : Hid (b0 = true → N0 = N1 ∧ m0 = m1):=fun h => by rw [← hb0,Bool.and_eq_true] at h; exact ⟨of_decide_eq_true h.1,of_decide_eq_true h.2⟩
  have HBL : Hid (∀ k,k ≤ N0 → zcr (X0.take k) ≤ 128 * 1):=fun k hk => zgS HS5.out k (by rw [HDX0.out.rows]; exact hk)
  have HBU : Hid (∀ k,k < N0 → zcr (X0.take (k + 1)) = max (zcr (X0.take k)) (zcs (X0.getD k []))):=fun k hk => zeT X0 k (by rw [HDX0.out.rows]; exact hk)
  have HBA : Hid (zcr (X0.take N0) = zcr X0):=by show _ = _; rw [List.take_of_length_le (by rw [HDX0.out.rows]; exact Nat.le_refl _)]
  have HSR : Hid (∀ k,k < N0 → zav 1 (X0.getD k [])):=fun k hk => HS5.out.row (by rw [HDX0.out.rows]; exact hk)
  rw [hb0]
  clear hb0
  go_wp2_with fail
  go_loopg [7,8,9] (N0 + 1) (fun g s7 s8 ix wr => ∃ (k q : Nat) (sb : Bool),k ≤ N0 ∧ N0 < g + k ∧ ix = .int .i64 k ∧ s8 = .int .i64 q ∧ s7 = .bool sb ∧ Hid (zcr (X0.take k) = q) ∧ Hid (zdb b0 X0 X1 m0 k = sb) ∧ zat wr A5 N0 c5 m0 (X0) ∧ zat wr A6 N1 c6 m1 (X1) ∧ Below w.heap.size w wr ∧ Blk wr adx10 28 #[.slice A5 N0 c5,.int .i64 (m0 : Int)] ∧ Blk wr adx11 28 #[.slice A6 N1 c6,.int .i64 (m1 : Int)])
  case atStart => exact ⟨0,0,b0,Nat.zero_le _,by omega,rfl,rfl,rfl,rfl,by show _ = _; unfold zdb; simp,HM5.out,HM6.out,HB.out,HK10.out,HK11.out⟩
  case round =>
   clear HM5 HM6 HB HK10 HK11
   obtain ⟨k,q,sb,hkN,hg,rfl,rfl,rfl,hq0,hs0,hmx,hmy,hB,hkx,hky⟩:=hrel
   obtain ⟨wo,hwo⟩ : ∃ wo,wo = wr:=⟨_,rfl⟩
   subst hwo
   have HM5:=lh9 hmx
   have HM6:=lh9 hmy
   have HB:=lh9 hB
   have HK10:=lh9 hkx
   have HK11:=lh9 hky
   clear hmx hmy hB hkx hky
   by_cases hlt : k < N0
   ·have hd1 : decide ((k : Int) < (N0 : Int)) = true:=decide_eq_true (by omega)
    have hd1' : decide (k < N0) = true:=decide_eq_true hlt
    have i1 : (0 : Int) ≤ (k : Int):=by omega
    have i2 : (k : Int) < (N0 : Int):=by omega
    have h4:=HBL.out (k + 1) (by omega)
    have h5:=HBU.out k hlt
    rw [hq0.out] at h5
    obtain ⟨p,hp⟩ : ∃ p,zcs (X0.getD k []) = p:=⟨_,rfl⟩
    rw [hp] at h5
    obtain ⟨Y,hY⟩ : ∃ Y,max q p = Y:=⟨_,rfl⟩
    rw [hY] at h5
    rw [h5] at h4
    have HP : Hid (((zcs (X0.getD k []) : Nat) : Int) = (p : Int)):=by show _ = _; rw [hp]
    have HZ1:=lh9 h5
    have hmx1 : (if (q : Int) < (p : Int) then (p : Int) else (q : Int)) = (Y : Int):=by rw [← hY]; split <;> omega
    have hmx2 : (if q < p then (p : Int) else (q : Int)) = (Y : Int):=by rw [← hY]; split <;> omega
    have hmx3 : max (q : Int) (p : Int) = (Y : Int):=by omega
    have hmx4 : (if (p : Int) < (q : Int) then (q : Int) else (p : Int)) = (Y : Int):=by rw [← hY]; split <;> omega
    have hmx5 : (if p < q then (q : Int) else (p : Int)) = (Y : Int):=by rw [← hY]; split <;> omega
    clear hp h5 hY
    obtain ⟨p12_0,p12_1⟩:=HK10.out.c2
    go_wp2_with fail
    clear p12_0 p12_1
    (with_reducible refine (zaW A5 N0 c5 (m0 : Int) _).mono ?_)
    rintro e X13 ⟨rfl,hb⟩
    have HB:=lh9 (zaa HB.out hb)
    have HM5:=lh9 (HM5.out.keep hb)
    have HM6:=lh9 (HM6.out.keep hb)
    have HK10:=lh9 (zac hb HK10.out)
    have HK11:=lh9 (zac hb HK11.out)
    clear hb 
    obtain ⟨p14_0,p14_1⟩:=HK10.out.c2
    have HS15 : Hid (zav (1) (X0.getD k [])):=HSR.out k hlt
    go_wp2_with fail
    clear p14_0 p14_1
    (with_reducible refine (mat_row (HT.out _ HB.out) HM5.out HS5.out hlt).mono ?_)
    rintro e X16 ⟨g15,rfl,hg15,ho15,hb⟩
    have HB:=lh9 (zaa HB.out hb)
    have HM5:=lh9 (HM5.out.keep hb)
    have HM6:=lh9 (HM6.out.keep hb)
    have HK10:=lh9 (zac hb HK10.out)
    have HK11:=lh9 (zac hb HK11.out)
    have HV15:=lh9 (zbF ho15)
    clear hb hg15 ho15
    go_wp2_with fail
    (with_reducible refine (zhM HP.out (HT.out _ HB.out) HV15.out HS15.out (by omega) (by decide)).mono ?_)
    rintro e X17 ⟨rfl,hb⟩
    have HB:=lh9 (zaa HB.out hb)
    have HM5:=lh9 (HM5.out.keep hb)
    have HM6:=lh9 (HM6.out.keep hb)
    have HK10:=lh9 (zac hb HK10.out)
    have HK11:=lh9 (zac hb HK11.out)
    have HV15:=lh9 (HV15.out.keep hb)
    clear hb 
    clear HV15
    obtain ⟨p18_0,p18_1⟩:=HK10.out.c2
    go_wp2_with fail
    clear p18_0 p18_1
    go_loopg [7,12] (m0 + 1) (fun g s7 jx wr => ∃ (j : Nat) (tb : Bool),j ≤ m0 ∧ m0 < g + j ∧ jx = .int .i64 j ∧ s7 = .bool tb ∧ Hid (zdc sb X0 X1 k j = tb) ∧ zat wr A5 N0 c5 m0 (X0) ∧ zat wr A6 N1 c6 m1 (X1) ∧ Below w.heap.size w wr ∧ Blk wr adx10 28 #[.slice A5 N0 c5,.int .i64 (m0 : Int)] ∧ Blk wr adx11 28 #[.slice A6 N1 c6,.int .i64 (m1 : Int)])
    case atStart => exact ⟨0,sb,Nat.zero_le _,by omega,rfl,rfl,by show _ = _; unfold zdc; simp,HM5.out,HM6.out,HB.out,HK10.out,HK11.out⟩
    case round =>
     clear HM5 HM6 HB HK10 HK11
     obtain ⟨j,tb,hjm,hg2,rfl,rfl,hti,hmx,hmy,hB,hkx,hky⟩:=hrel
     have HM5:=lh9 hmx
     have HM6:=lh9 hmy
     have HB:=lh9 hB
     have HK10:=lh9 hkx
     have HK11:=lh9 hky
     clear hmx hmy hB hkx hky
     by_cases hjl : j < m0
     ·have he1 : decide ((j : Int) < (m0 : Int)) = true:=decide_eq_true (by omega)
      have he1' : decide (j < m0) = true:=decide_eq_true hjl
      have i3 : (0 : Int) ≤ (j : Int):=by omega
      have i4 : (j : Int) < (m0 : Int):=by omega
      cases tb
      ·obtain ⟨p19_0,p19_1⟩:=HK10.out.c2
       go_wp2_with fail
       clear p19_0 p19_1
       (with_reducible refine (zco A5 N0 c5 (m0 : Int) _).mono ?_)
       rintro e X20 ⟨rfl,hb⟩
       have HB:=lh9 (zaa HB.out hb)
       have HM5:=lh9 (HM5.out.keep hb)
       have HM6:=lh9 (HM6.out.keep hb)
       have HK10:=lh9 (zac hb HK10.out)
       have HK11:=lh9 (zac hb HK11.out)
       clear hb 
       have HEND : zdc sb X0 X1 k m0 = false:=znE hti.out hjm
       have HNX : Hid (zdb b0 X0 X1 m0 (k + 1) = false):=by show _ = _; rw [zhD,hs0.out]; exact HEND
       go_wp2
       go_roundg (N0 - k)
       case measure => omega
       case rel => exact ⟨k + 1,Y,false,by omega,by omega,by go_num,rfl,rfl,HZ1,HNX,HM5.out,HM6.out,HB.out,HK10.out,HK11.out⟩
      ·have hb1:=znD (hs0.out.trans (znF hti.out))
       obtain ⟨hn9,hm9⟩:=HB0.out hb1
       have HAY : Hid (∀ W,Below w.heap.size w W → zat W A6 N1 c6 m1 (X1) → Calls Tryz.prog 20 #[.agg #[.slice A6 N1 c6,.int .i64 (m1 : Int)],.int .i64 (k : Int),.int .i64 (j : Int)] W (zaI W (atM X1 k j))):=fun W hb hm => ziX (HT.out _ hb) hm HS6.out (by omega) (by omega) (by decide)
       have HSY : Hid (SzQ 1 (atM X1 k j)):=HS6.out.at_ HDX1.out (by omega) (by omega)
       have HSXQ : Hid (SzQ 1 (atM X0 k j)):=HS5.out.at_ HDX0.out hlt hjl
       clear hb1 hn9 hm9
       obtain ⟨p19_0,p19_1⟩:=HK10.out.c2
       go_wp2_with fail
       clear p19_0 p19_1
       (with_reducible refine (zco A5 N0 c5 (m0 : Int) _).mono ?_)
       rintro e X20 ⟨rfl,hb⟩
       have HB:=lh9 (zaa HB.out hb)
       have HM5:=lh9 (HM5.out.keep hb)
       have HM6:=lh9 (HM6.out.keep hb)
       have HK10:=lh9 (zac hb HK10.out)
       have HK11:=lh9 (zac hb HK11.out)
       clear hb 
       obtain ⟨e9,he9⟩ : ∃ e,decide (atM X0 k j = atM X1 k j) = e:=⟨_,rfl⟩
       have HE9:=lh9 he9
       have HNI : Hid (zdc sb X0 X1 k (j + 1) = e9):=by show _ = _; rw [zlP,hti.out,he9]; rfl
       clear he9
       go_wp2_with fail
       obtain ⟨p21_0,p21_1⟩:=HK10.out.c2
       obtain ⟨p22_0,p22_1⟩:=HK11.out.c2
       have hbd:=(Below.refl X20.heap.size X20).drew
       have HB:=lh9 (zaa HB.out hbd)
       have HM5:=lh9 (HM5.out.keep hbd)
       have HM6:=lh9 (HM6.out.keep hbd)
       have HK10:=lh9 (zac hbd HK10.out)
       have HK11:=lh9 (zac hbd HK11.out)
       refine rg (csc p21_0 (csc p21_1 (csc p22_0 (csc p22_1 csn)))) (fun hHeld => ?_)
       clear hbd p21_0 p21_1 p22_0 p22_1
       generalize X20.drew = D23 at *
       refine tk 0 ?_
       refine tk 1 ?_
       refine tk 2 ?_
       refine tk 4 ?_
       refine tk 5 ?_
       refine tk 6 ?_
       have HS24 : Hid (SzQ (1) (atM X0 k j)):=HSXQ.out
       refine rc 3 (fun KK hK => ?_)
       go_simp
       (with_reducible refine (ziX (HT.out _ HB.out) HM5.out HS5.out hlt hjl).mono ?_)
       rintro e X25 ⟨b24,A24,n24,c24,E24,k24,f24,rfl,hw24,hb⟩
       refine hK.out _ _ (Cs.below hHeld hb) (fun hHeld => ?_)
       clear hK KK
       have HB:=lh9 (zaa HB.out hb)
       have HM5:=lh9 (HM5.out.keep hb)
       have HM6:=lh9 (HM6.out.keep hb)
       have HK10:=lh9 (zac hb HK10.out)
       have HK11:=lh9 (zac hb HK11.out)
       have HQ24:=lh9 (hw24)
       clear hb hw24
       have HS26 : Hid (SzQ (1) (atM X1 k j)):=HSY.out
       refine rc 7 (fun KK hK => ?_)
       go_simp
       (with_reducible refine (HAY.out _ HB.out HM6.out).mono ?_)
       rintro e X27 ⟨b26,A26,n26,c26,E26,k26,f26,rfl,hw26,hb⟩
       refine hK.out _ _ (Cs.below hHeld hb) (fun hHeld => ?_)
       clear hK KK
       have HB:=lh9 (zaa HB.out hb)
       have HM5:=lh9 (HM5.out.keep hb)
       have HM6:=lh9 (HM6.out.keep hb)
       have HK10:=lh9 (zac hb HK10.out)
       have HK11:=lh9 (zac hb HK11.out)
       have HQ24:=lh9 (HQ24.out.below hb)
       have HQ26:=lh9 (hw26)
       clear hb hw26
       refine rc 8 (fun KK hK => ?_)
       go_simp
       (with_reducible refine (zlA HE9.out (HT.out _ HB.out) HQ24.out HQ26.out HS24.out HS26.out (by decide) (by decide)).mono ?_)
       rintro e X28 ⟨rfl,hb⟩
       refine hK.out _ _ (Cs.below hHeld hb) (fun hHeld => ?_)
       clear hK KK
       have HB:=lh9 (zaa HB.out hb)
       have HM5:=lh9 (HM5.out.keep hb)
       have HM6:=lh9 (HM6.out.keep hb)
       have HK10:=lh9 (zac hb HK10.out)
       have HK11:=lh9 (zac hb HK11.out)
       have HQ24:=lh9 (HQ24.out.below hb)
       have HQ26:=lh9 (HQ26.out.below hb)
       clear hb 
       refine tk 9 ?_
       refine rdn ?_
       clear hHeld
       go_wp2
       go_roundg (m0 - j)
       case measure => omega
       case rel => exact ⟨j + 1,e9,by omega,by omega,by go_num,rfl,HNI,HM5.out,HM6.out,HB.out,HK10.out,HK11.out⟩
     ·have hjm2 : j = m0:=by omega
      have he1 : decide ((j : Int) < (m0 : Int)) = false:=decide_eq_false (by omega)
      have he1' : decide (j < m0) = false:=decide_eq_false hjl
      obtain ⟨p19_0,p19_1⟩:=HK10.out.c2
      go_wp2_with fail
      clear p19_0 p19_1
      (with_reducible refine (zco A5 N0 c5 (m0 : Int) _).mono ?_)
      rintro e X20 ⟨rfl,hb⟩
      have HB:=lh9 (zaa HB.out hb)
      have HM5:=lh9 (HM5.out.keep hb)
      have HM6:=lh9 (HM6.out.keep hb)
      have HK10:=lh9 (zac hb HK10.out)
      have HK11:=lh9 (zac hb HK11.out)
      clear hb 
      have HEND : zdc sb X0 X1 k m0 = tb:=by rw [← hjm2]; exact hti.out
      clear hjm2
      have HNX : Hid (zdb b0 X0 X1 m0 (k + 1) = tb):=by show _ = _; rw [zhD,hs0.out]; exact HEND
      go_wp2
      go_roundg (N0 - k)
      case measure => omega
      case rel => exact ⟨k + 1,Y,tb,by omega,by omega,by go_num,rfl,rfl,HZ1,HNX,HM5.out,HM6.out,HB.out,HK10.out,HK11.out⟩
   ·have hk9 : k = N0:=by omega
    subst hk9
    have hd1 : decide ((k : Int) < (k : Int)) = false:=by simp
    have hd1' : decide (k < k) = false:=by simp
    have HSE : Hid (decide (m0 = m1 ∧ X0 = X1) = sb):=by show _ = _; rw [← HFIN.out,hs0.out]
    have HBE : Hid (((zcr X0 : Nat) : Int) = (q : Int)):=by show _ = _; rw [← HBA.out,hq0.out]
    have hbb : (sb == sb) = true:=by simp
    have hqq : ((q : Int) == (q : Int)) = true:=by simp
    obtain ⟨p12_0,p12_1⟩:=HK10.out.c2
    go_wp2_with fail
    clear p12_0 p12_1
    (with_reducible refine (zaW A5 k c5 (m0 : Int) _).mono ?_)
    rintro e X13 ⟨rfl,hb⟩
    have HB:=lh9 (zaa HB.out hb)
    have HM5:=lh9 (HM5.out.keep hb)
    have HM6:=lh9 (HM6.out.keep hb)
    have HK10:=lh9 (zac hb HK10.out)
    have HK11:=lh9 (zac hb HK11.out)
    clear hb 
    go_wp2_with fail
    obtain ⟨p14_0,p14_1⟩:=HK10.out.c2
    obtain ⟨p15_0,p15_1⟩:=HK11.out.c2
    have hbd:=(Below.refl X13.heap.size X13).drew
    have HB:=lh9 (zaa HB.out hbd)
    have HM5:=lh9 (HM5.out.keep hbd)
    have HM6:=lh9 (HM6.out.keep hbd)
    have HK10:=lh9 (zac hbd HK10.out)
    have HK11:=lh9 (zac hbd HK11.out)
    refine rg (csc p14_0 (csc p14_1 (csc p15_0 (csc p15_1 csn)))) (fun hHeld => ?_)
    clear hbd p14_0 p14_1 p15_0 p15_1
    generalize X13.drew = D16 at *
    refine tk 0 ?_
    refine tk 1 ?_
    refine tk 3 ?_
    refine rc 2 (fun KK hK => ?_)
    go_simp
    (with_reducible refine (zel HSE.out (HT.out _ HB.out) HM5.out HM6.out HS5.out HS6.out).mono ?_)
    rintro e X17 ⟨rfl,hb⟩
    refine hK.out _ _ (Cs.below hHeld hb) (fun hHeld => ?_)
    clear hK KK
    have HB:=lh9 (zaa HB.out hb)
    have HM5:=lh9 (HM5.out.keep hb)
    have HM6:=lh9 (HM6.out.keep hb)
    have HK10:=lh9 (zac hb HK10.out)
    have HK11:=lh9 (zac hb HK11.out)
    clear hb 
    refine tk 4 ?_
    refine tk 5 ?_
    refine tk 6 ?_
    refine tk 8 ?_
    refine rc 7 (fun KK hK => ?_)
    go_simp
    (with_reducible refine (mat_bits HBE.out (HT.out _ HB.out) HM5.out HS5.out).mono ?_)
    rintro e X18 ⟨rfl,hb⟩
    refine hK.out _ _ (Cs.below hHeld hb) (fun hHeld => ?_)
    clear hK KK
    have HB:=lh9 (zaa HB.out hb)
    have HM5:=lh9 (HM5.out.keep hb)
    have HM6:=lh9 (HM6.out.keep hb)
    have HK10:=lh9 (zac hb HK10.out)
    have HK11:=lh9 (zac hb HK11.out)
    clear hb 
    refine tk 9 ?_
    refine tk 10 ?_
    refine tk 11 ?_
    refine tk 12 ?_
    refine tk 13 ?_
    have HS19 : Hid (zau (1) (X0)):=HS5.out
    refine rc 14 (fun KK hK => ?_)
    go_simp
    (with_reducible refine (mat_copy (HT.out _ HB.out) HM5.out HS5.out).mono ?_)
    rintro e X20 ⟨A19,c19,rfl,hm19,-,hb⟩
    refine hK.out _ _ (Cs.below hHeld hb) (fun hHeld => ?_)
    clear hK KK
    have HB:=lh9 (zaa HB.out hb)
    have HM5:=lh9 (HM5.out.keep hb)
    have HM6:=lh9 (HM6.out.keep hb)
    have HK10:=lh9 (zac hb HK10.out)
    have HK11:=lh9 (zac hb HK11.out)
    have HM19:=lh9 (hm19)
    clear hb hm19
    refine rc 15 (fun KK hK => ?_)
    go_simp
    (with_reducible refine (zel (t:=true) (decide_eq_true ⟨rfl,rfl⟩) (HT.out _ HB.out) HM5.out HM19.out HS5.out HS19.out).mono ?_)
    rintro e X21 ⟨rfl,hb⟩
    refine hK.out _ _ (Cs.below hHeld hb) (fun hHeld => ?_)
    clear hK KK
    have HB:=lh9 (zaa HB.out hb)
    have HM5:=lh9 (HM5.out.keep hb)
    have HM6:=lh9 (HM6.out.keep hb)
    have HK10:=lh9 (zac hb HK10.out)
    have HK11:=lh9 (zac hb HK11.out)
    have HM19:=lh9 (HM19.out.keep hb)
    clear hb 
    refine tk 16 ?_
    refine tk 17 ?_
    refine rdn ?_
    clear hHeld
    go_wp2
    go_ret
    exact ⟨rfl,HB.out⟩
end Go.Proofs.YtedbgdlbgohiiaaGreatDoor
