/- What this claim leans on. -/
import Derived.Test.YtgigccjiblaefaaGreatDoorOR8Ref
namespace Go.Proofs.YtgigccjiblaefaaGreatDoor
open Go Go.RowKit
set_option maxHeartbeats 16000000
set_option maxRecDepth 100000
set_option linter.unusedVariables false
set_option linter.unusedSimpArgs false
theorem zdy {w : World} {g : Nat} (h : Blk w g 3 #[.int .i64 1]) : zal w 1 (some ⟨g,0,none⟩) 1 1 := by
 have e : dg 65536 1 = [1] := by
  rw [zdb (by decide) (by decide)]
  rfl
 refine ⟨?_,Nat.le_refl _,by omega⟩
 rw [e]
 refine ⟨rfl,fun _ => ⟨_,rfl,h.lt,fun j u hu => ?_⟩⟩
 match j,hu with
 | 0,hu => simp [zas] at hu; subst hu; exact h.cell 0
theorem sgI_f (n : Nat) : sgI false n = (n : Int) := by unfold sgI; simp
theorem zjQ (s : Bool) (A : oA9) (n c : Nat) (l : List Nat) (E : oA9) (u v : Nat) (e : List Nat) (w : World) (h : zau w A n c l) (k : zau w E u v e) (hd : dv 18446744073709551616 e = 0) :
  Calls Tryz.prog 21 #[.agg #[.bool s,.slice A n c,.slice E u v]] w (zeq w (fOf s l e)) := by
 obtain ⟨K,hK⟩ : ∃ K,1048576 = K := ⟨_,rfl⟩
 have hKK : K ≤ 1048576 := by omega
 have hK0 : 0 < K := by omega
 have HP := lh9 (fun w' (hb : Below w.heap.size w w') => zhV E u v e w' ((k.reads.below hb).more hb.size) k.dgs (by have := k.small; have := k.fits; omega))
 have HRF := lh9 (fun w' (hb : Below w.heap.size w w') => ziU s A n c l w' ⟨(h.reads.below hb).more hb.size,h.dgs,h.fits,h.small⟩)
 have hq : Rat.divInt (zOf s l) (sgI false 1) = fOf s l e := by
  rw [sgI_f]
  unfold fOf dOf
  rw [if_pos hd]
 have sz0 : Sz 1048576 (dv 18446744073709551616 e) := zcA k
 have sz1 : Sz 1048576 (zOf s l).natAbs := by rw [zfj]; exact zcA h
 rw [hK] at sz0 sz1
 obtain ⟨D0,hD⟩ : ∃ D,dv 18446744073709551616 e = D := ⟨_,rfl⟩
 obtain ⟨z,hz⟩ : ∃ z,zOf s l = z := ⟨_,rfl⟩
 obtain ⟨q,hqq⟩ : ∃ q,fOf s l e = q := ⟨_,rfl⟩
 rw [hD] at HP sz0 hd
 rw [hz] at HRF sz1 hq
 rw [hqq] at hq ⊢
 have Hd0 := lh9 hd
 have HQ := lh9 hq
 have HS0 := lh9 sz0
 have HSZ := lh9 sz1
 have Hne : Hid ((1 : Nat) ≠ 0) := (show (1 : Nat) ≠ 0 from by decide)
 clear h k hD hz hqq hd hq sz0 sz1 hK
 go_enter Tryz.func21,Tryz.ntmps21
 have hB := Below.refl w.heap.size w
 obtain ⟨bx1,bx2,bx3,bz⟩ := zaT w 48 42 #[.bool s,.slice A n c,.slice E u v] #[.bool false,.slice none 0 0,.slice none 0 0]
 have hB := zad hB bx1
 obtain ⟨g1,e1,i1⟩ := bx2.c3
 have k2 := bx3
 clear bx1 bx2 bx3 bz
 go_wp2_with fail
 generalize (w.alloc (.cells #[.bool s,.slice A n c,.slice E u v] 48)).alloc (.cells #[.bool false,.slice none 0 0,.slice none 0 0] 42) = W1 at *
 have HZ3 : Hid (Sz (K) (D0)) := HS0.out
 (with_reducible refine (HP.out _ hB).mono ?_)
 intro e wc2 hg
 obtain ⟨C3,r3,f3,rfl,hh,hb⟩ := hg.elim
 have hB := zad hB hb
 have g1 := zac hb g1
 have e1 := zac hb e1
 have i1 := zac hb i1
 have k2 := zae hb k2
 have HN3 := lh9 hh
 clear hb hh hg
 have hq3 := zfc HN3.out Hd0.out
 have hr3 : ((r3 : Int) == 0) = true := by rw [beq_iff_eq]; omega
 clear hq3
 have lt1_2 : w.heap.size < wc2.heap.size := World.block_lt_of_cell? wc2 ⟨w.heap.size,0,none⟩ g1
 have lt2_2 : w.heap.size + 1 < wc2.heap.size := k2.lt
 have hq2 := hB.size
 obtain ⟨bx1,bx2,bz⟩ := zbm wc2 3 #[.int .i64 1]
 have hB := zad hB bx1
 have g1 := zac bx1 g1
 have e1 := zac bx1 e1
 have i1 := zac bx1 i1
 have k2 := zae bx1 k2
 have HN3 := lh9 (HN3.out.below bx1)
 have k4 := bx2
 clear bx1 bx2 bz
 go_wp2_with fail
 generalize wc2.alloc (.cells #[.int .i64 1] 3) = W3 at *
 generalize wc2.heap.size = q3 at *
 have HZ5 : Hid (Sz (K) (z).natAbs) := HSZ.out
 (with_reducible refine (HRF.out _ hB).mono ?_)
 rintro e wc4 ⟨b5,B5,m5,d5,rfl,hw5,hb⟩
 have hB := zad hB hb
 have g1 := zac hb g1
 have e1 := zac hb e1
 have i1 := zac hb i1
 have k2 := zae hb k2
 have HN3 := lh9 (HN3.out.below hb)
 have k4 := zae hb k4
 have HN5 := lh9 hw5
 clear hb hw5
 go_wp2_with fail
 have HN6 := lh9 (zdy k4)
 have HZ6 : Hid (Sz 1 1) := zby (by decide)
 have HZ7 : Hid (Sz (1) (sgI false 1).natAbs) := (by rw [zdG]; exact HZ6.out)
 (with_reducible refine (zaI false (1) (some ⟨q3,0,none⟩) 1 1 _ HN6.out (szh HZ6 HN6.out)).mono ?_)
 rintro e wc5 ⟨b7,B7,m7,d7,rfl,hw7,hb⟩
 have hB := zad hB hb
 have g1 := zac hb g1
 have e1 := zac hb e1
 have i1 := zac hb i1
 have k2 := zae hb k2
 have HN3 := lh9 (HN3.out.below hb)
 have k4 := zae hb k4
 have HN5 := lh9 (HN5.out.below hb)
 have HN7 := lh9 hw7
 clear hb hw7
 go_wp2_with fail
 have HZ8 : Hid (SzQ (K + 1 + 1) (Rat.divInt z (sgI false 1))) := SzQ.made (HZ5.out.up (by omega)) (HZ7.out.up (by omega)) (by omega)
 (with_reducible refine (zje (z) (sgI false 1) b5 B5 m5 d5 b7 B7 m7 d7 (K) (1) _ HZ5.out HN5.out HZ7.out HN7.out (by omega) (by omega) (by rw [sgI_f]; exact zfN Hne.out)).mono ?_)
 rintro e wc6 ⟨b8,B8,m8,d8,E8,u8,v8,rfl,hw8,hb⟩
 have hB := zad hB hb
 have g1 := zac hb g1
 have e1 := zac hb e1
 have i1 := zac hb i1
 have k2 := zae hb k2
 have HN3 := lh9 (HN3.out.below hb)
 have k4 := zae hb k4
 have HN5 := lh9 (HN5.out.below hb)
 have HN7 := lh9 (HN7.out.below hb)
 have HN8 := lh9 hw8
 clear hb hw8
 obtain ⟨sc0,sf0,sc1,sf1,sc2,sf2⟩ := st3 k2 (.bool b8) (.slice B8 m8 d8)
 obtain ⟨r0,r1,r2⟩ := (sn3 k2 (.bool b8) (.slice B8 m8 d8) (.slice E8 u8 v8)).c3
 have HG := lh9 (gr3 (zck.to HQ.out HN8.out) k2 hB (by omega))
 go_wp2
 refine bodyPost_ret (v := .agg #[.bool b8,.slice B8 m8 d8,.slice E8 u8 v8]) (by simp [results,Tryz.results21,go_sem,r0,r1,r2]) rfl ?_
 exact HG.out
theorem zkj (s : Bool) (A : oA9) (n c : Nat) (l : List Nat) (E : oA9) (u v : Nat) (e : List Nat) (w : World) (h : zau w A n c l) (k : zau w E u v e) (hd : dv 18446744073709551616 e ≠ 0) :
  Calls Tryz.prog 21 #[.agg #[.bool s,.slice A n c,.slice E u v]] w (zeq w (fOf s l e)) := by
 obtain ⟨K,hK⟩ : ∃ K,1048576 = K := ⟨_,rfl⟩
 have hKK : K ≤ 1048576 := by omega
 have hK0 : 0 < K := by omega
 have HP := lh9 (fun w' (hb : Below w.heap.size w w') => zhV E u v e w' ((k.reads.below hb).more hb.size) k.dgs (by have := k.small; have := k.fits; omega))
 have HRF := lh9 (fun w' (hb : Below w.heap.size w w') => ziU s A n c l w' ⟨(h.reads.below hb).more hb.size,h.dgs,h.fits,h.small⟩)
 have hq : Rat.divInt (zOf s l) (sgI false (dv 18446744073709551616 e)) = fOf s l e := by
  rw [sgI_f]
  unfold fOf dOf
  rw [if_neg hd]
 have sz0 : Sz 1048576 (dv 18446744073709551616 e) := zcA k
 have sz1 : Sz 1048576 (zOf s l).natAbs := by rw [zfj]; exact zcA h
 rw [hK] at sz0 sz1
 obtain ⟨D0,hD⟩ : ∃ D,dv 18446744073709551616 e = D := ⟨_,rfl⟩
 obtain ⟨z,hz⟩ : ∃ z,zOf s l = z := ⟨_,rfl⟩
 obtain ⟨q,hqq⟩ : ∃ q,fOf s l e = q := ⟨_,rfl⟩
 rw [hD] at HP sz0 hd hq
 rw [hz] at HRF sz1 hq
 rw [hqq] at hq ⊢
 have Hd0 := lh9 hd
 have HQ := lh9 hq
 have HS0 := lh9 sz0
 have HSZ := lh9 sz1
 have Hne : Hid ((D0 : Nat) ≠ 0) := hd
 clear h k hD hz hqq hd hq sz0 sz1 hK
 go_enter Tryz.func21,Tryz.ntmps21
 have hB := Below.refl w.heap.size w
 obtain ⟨bx1,bx2,bx3,bz⟩ := zaT w 48 42 #[.bool s,.slice A n c,.slice E u v] #[.bool false,.slice none 0 0,.slice none 0 0]
 have hB := zad hB bx1
 obtain ⟨g1,e1,i1⟩ := bx2.c3
 have k2 := bx3
 clear bx1 bx2 bx3 bz
 go_wp2_with fail
 generalize (w.alloc (.cells #[.bool s,.slice A n c,.slice E u v] 48)).alloc (.cells #[.bool false,.slice none 0 0,.slice none 0 0] 42) = W1 at *
 have HZ3 : Hid (Sz (K) (D0)) := HS0.out
 (with_reducible refine (HP.out _ hB).mono ?_)
 intro e wc2 hg
 obtain ⟨C3,r3,f3,rfl,hh,hb⟩ := hg.elim
 have hB := zad hB hb
 have g1 := zac hb g1
 have e1 := zac hb e1
 have i1 := zac hb i1
 have k2 := zae hb k2
 have HN3 := lh9 hh
 clear hb hh hg
 have hq3 := zeR HN3.out Hd0.out
 have hr3 : ((r3 : Int) == 0) = false := by rw [beq_eq_false_iff_ne]; omega
 clear hq3
 go_wp2_with fail
 have HZ4 : Hid (Sz (K) (z).natAbs) := HSZ.out
 (with_reducible refine (HRF.out _ hB).mono ?_)
 rintro e wc3 ⟨b4,B4,m4,d4,rfl,hw4,hb⟩
 have hB := zad hB hb
 have g1 := zac hb g1
 have e1 := zac hb e1
 have i1 := zac hb i1
 have k2 := zae hb k2
 have HN3 := lh9 (HN3.out.below hb)
 have HN4 := lh9 hw4
 clear hb hw4
 go_wp2_with fail
 have HZ5 : Hid (Sz (K) (sgI false D0).natAbs) := (by rw [zdG]; exact HZ3.out)
 (with_reducible refine (zaI false (D0) C3 r3 f3 _ HN3.out (szh HZ3 HN3.out)).mono ?_)
 rintro e wc4 ⟨b5,B5,m5,d5,rfl,hw5,hb⟩
 have hB := zad hB hb
 have g1 := zac hb g1
 have e1 := zac hb e1
 have i1 := zac hb i1
 have k2 := zae hb k2
 have HN3 := lh9 (HN3.out.below hb)
 have HN4 := lh9 (HN4.out.below hb)
 have HN5 := lh9 hw5
 clear hb hw5
 go_wp2_with fail
 have HZ6 : Hid (SzQ (K + K + 1) (Rat.divInt z (sgI false D0))) := SzQ.made (HZ4.out.up (by omega)) (HZ5.out.up (by omega)) (by omega)
 (with_reducible refine (zje (z) (sgI false D0) b4 B4 m4 d4 b5 B5 m5 d5 (K) (K) _ HZ4.out HN4.out HZ5.out HN5.out (by omega) (by omega) (by rw [sgI_f]; exact zfN Hne.out)).mono ?_)
 rintro e wc5 ⟨b6,B6,m6,d6,E6,u6,v6,rfl,hw6,hb⟩
 have hB := zad hB hb
 have g1 := zac hb g1
 have e1 := zac hb e1
 have i1 := zac hb i1
 have k2 := zae hb k2
 have HN3 := lh9 (HN3.out.below hb)
 have HN4 := lh9 (HN4.out.below hb)
 have HN5 := lh9 (HN5.out.below hb)
 have HN6 := lh9 hw6
 clear hb hw6
 obtain ⟨sc0,sf0,sc1,sf1,sc2,sf2⟩ := st3 k2 (.bool b6) (.slice B6 m6 d6)
 obtain ⟨r0,r1,r2⟩ := (sn3 k2 (.bool b6) (.slice B6 m6 d6) (.slice E6 u6 v6)).c3
 have HG := lh9 (gr3 (zck.to HQ.out HN6.out) k2 hB (by omega))
 go_wp2
 refine bodyPost_ret (v := .agg #[.bool b6,.slice B6 m6 d6,.slice E6 u6 v6]) (by simp [results,Tryz.results21,go_sem,r0,r1,r2]) rfl ?_
 exact HG.out
theorem zdf (s : Bool) (A : oA9) (n c : Nat) (l : List Nat) (E : oA9) (u v : Nat) (e : List Nat) (w : World) (h : zau w A n c l) (k : zau w E u v e) :
  Calls Tryz.prog 21 #[.agg #[.bool s,.slice A n c,.slice E u v]] w (zeq w (fOf s l e)) := by
 by_cases hd : dv 18446744073709551616 e = 0
 ·exact zjQ s A n c l E u v e w h k hd
 ·exact zkj s A n c l E u v e w h k hd
end Go.Proofs.YtgigccjiblaefaaGreatDoor
