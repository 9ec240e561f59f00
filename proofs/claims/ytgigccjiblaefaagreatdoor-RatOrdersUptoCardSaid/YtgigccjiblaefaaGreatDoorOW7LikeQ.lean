/- What this claim leans on. -/
import Derived.Test.YtgigccjiblaefaaGreatDoorOR7Ref
namespace Go.Proofs.YtgigccjiblaefaaGreatDoor
open Go Go.RowKit
set_option maxHeartbeats 16000000
set_option maxRecDepth 100000
set_option linter.unusedVariables false
set_option linter.unusedSimpArgs false
theorem szh {K B x n c : Nat} {A : oA9} {w : World} (h : Hid (Sz K x)) (k : zal w x A n c) (e : 4 * K ≤ B := by omega) : n ≤ B := Nat.le_trans (h.out.holds' k) e
theorem szr {K B n c : Nat} {z : Int} {b : Bool} {A : oA9} {w : World} (h : Hid (Sz K z.natAbs)) (k : zaz w z b A n c) (e : 4 * K ≤ B := by omega) : n ≤ B := Nat.le_trans (h.out.holds' k.holds) e
theorem zgX {w w' : World} {x : Nat} {A : oA9} {n c g : Nat} {t : TypeId} {cs : Array Value} (h : zal w x A n c) (hk : Blk w g t cs) (hcs : NoU cs) (ho : zdX g w w') : zal w' x A n c := ⟨zgZ h.1 hk hcs ho,h.2⟩
theorem zbh {w w' : World} {z : Int} {b : Bool} {A : oA9} {n c g : Nat} {t : TypeId} {cs : Array Value} (h : zaz w z b A n c) (hk : Blk w g t cs) (hcs : NoU cs) (ho : zdX g w w') : zaz w' z b A n c := ⟨h.1,zgX h.2 hk hcs ho⟩
theorem zjm (x y : Int) (bp bq : Bool) (Bp Bq : oA9) (mp mq dp dq : Nat) (K : Nat) (hKK : K ≤ 16777216) (w : World) (sx : Sz K x.natAbs) (sy : Sz K y.natAbs) (hp : zaz w x bp Bp mp dp) (hq : zaz w y bq Bq mq dq) (h : x < y) :
  Calls Tryz.prog 80 #[.agg #[.bool bp,.slice Bp mp dp],.agg #[.bool bq,.slice Bq mq dq]] w fun e w' => e = .returned (.int .i64 (-1)) ∧ Below w.heap.size w w' := by
 have HNp := lh9 hp
 have HNq := lh9 hq
 have HZp := lh9 sx
 have HZq := lh9 sy
 have Hh := lh9 h
 clear hp hq sx sy h
 go_enter Tryz.func80,Tryz.ntmps80
 have hB := Below.refl w.heap.size w
 obtain ⟨bx1,bx2,bx3,bz⟩ := zaT w 38 38 #[.bool bp,.slice Bp mp dp] #[.bool bq,.slice Bq mq dq]
 have hB := zad hB bx1
 have HNp := lh9 (HNp.out.below bx1)
 have HNq := lh9 (HNq.out.below bx1)
 obtain ⟨g1,e1⟩ := bx2.c2
 obtain ⟨g2,e2⟩ := bx3.c2
 clear bx1 bx2 bx3 bz
 go_wp2_with fail
 generalize (w.alloc (.cells #[.bool bp,.slice Bp mp dp] 38)).alloc (.cells #[.bool bq,.slice Bq mq dq] 38) = W1 at *
 have HZ3 : Hid (Sz (K) (-y).natAbs) := SzI.neg HZq.out
 have C0 := lh9 (fun w' (h : Below W1.heap.size W1 w') => zef (y) bq Bq mq dq w' (HNq.out.below h) (by have := Sz.holds' HZq.out HNq.out.holds; omega))
 have HZ4 : Hid (Sz (K + K + 1) (x + -y).natAbs) := SzI.add HZp.out HZ3.out
 have C1 := lh9 (fun w' (h : Below W1.heap.size W1 w') b3 B3 m3 d3 (hw3 : zaz w' (-y) b3 B3 m3 d3) => zgC (x) (-y) bp b3 Bp B3 mp m3 dp d3 w' (HNp.out.below h) hw3 (by have := Sz.holds' HZp.out HNp.out.holds; omega) (by have := Sz.holds' HZ3.out hw3.holds; omega) )
 have GG := lh9 (fun w' (h : Below W1.heap.size W1 w') => (csc (zac h g1) (csc (zac h e1) (csc (zac h g2) (csc (zac h e2) csn)))))
 refine rgB (fun hHeld => ?_)
 refine tl 0 GG.out ?_
 refine tl 1 GG.out ?_
 refine zaU (L := #[true,true,true,true,true,true])
  (J := fun a0 l a w' => ∃ (fl2 fl3 fl4 fl5 b3 : Bool) (B3 : oA9) (m3 d3 : Nat) (b4 : Bool) (B4 : oA9) (m4 d4 ad4 : Nat),l = #[true,true,fl2,fl3,fl4,fl5] ∧ zbG [8,9,5] a0 a ∧ Hid (Below W1.heap.size W1 w') ∧
    Hid (Gd fl2 (a.tmps.getD 8 undef = .agg #[.bool b3,.slice B3 m3 d3] ∧ zaz w' (-y) b3 B3 m3 d3)) ∧
    Hid (Gd fl3 (a.tmps.getD 9 undef = .agg #[.bool b4,.slice B4 m4 d4] ∧ zaz w' (x + -y) b4 B4 m4 d4)) ∧
    Hid (Gd fl4 (a.tmps.getD 5 undef = .pointer (some ⟨ad4,0,none⟩) ∧ W1.heap.size ≤ ad4 ∧ Blk w' ad4 38 (bif fl5 then #[.bool b4,.slice B4 m4 d4] else #[.bool false,.slice none 0 0]))) ∧
    Hid (Gd fl3 (fl2 = true)) ∧
    Hid (Gd fl5 (fl3 = true)) ∧
    Hid (Gd fl5 (fl4 = true)))
  (by rfl) ?_ ?_ ?_
 ·exact ⟨false,false,false,false,false,none,0,0,false,none,0,0,0,by kernel_rfl,zbG.refl _ _,hHeld,Gd.no,Gd.no,Gd.no,Gd.no,Gd.no,Gd.no⟩
 ·intro OPS Ac0 Q0 hO hAs hA
  have RB6 : Ac0.tmps.getD 6 undef = .agg #[.bool bp,.slice Bp mp dp] := (hA 6 undef).trans (by kernel_rfl)
  have RB7 : Ac0.tmps.getD 7 undef = .agg #[.bool bq,.slice Bq mq dq] := (hA 7 undef).trans (by kernel_rfl)
  have hsz : Ac0.tmps.size = 16 := hAs.trans (by kernel_rfl)
  clear hAs hA
  refine ⟨?_,?_⟩
  ·rintro l a w' ⟨fl2,fl3,fl4,fl5,b3,B3,m3,d3,b4,B4,m4,d4,ad4,rfl,-⟩ hr
   obtain rfl : fl2 = true := als 2 hr hO
   obtain rfl : fl3 = true := als 3 hr hO
   obtain rfl : fl4 = true := als 4 hr hO
   obtain rfl : fl5 = true := als 5 hr hO
   rfl
  ·rintro l a w' i ⟨fl2,fl3,fl4,fl5,b3,B3,m3,d3,b4,B4,m4,d4,ad4,rfl,HKp,hBi,qf2,qf3,qf4,qd3_2,qd5_3,qd5_4⟩ hne hi
   have hlt : i < 6 := by have := zbr hi; rw [hO] at this; exact this
   rcases (show i = 0 ∨ i = 1 ∨ i = 2 ∨ i = 3 ∨ i = 4 ∨ i = 5 by omega) with rfl | rfl | rfl | rfl | rfl | rfl
   ·cases (zai hi : true = false)
   ·cases (zai hi : true = false)
   ·obtain rfl : fl2 = false := zai hi
    obtain rfl : fl3 = false := Gd.off qd3_2.out
    obtain rfl : fl5 = false := Gd.off qd5_3.out
    have rd7 := HKp.get 7 (by decide) RB7
    refine wog hO (fun K' hK => ?_)
    go_simp
    refine (C0.out w' hBi.out).mono ?_
    rintro e w2 ⟨nb3,nB3,nm3,nd3,rfl,nhw3,hb⟩
    exact hK.out _ _ ⟨zad hBi.out hb,true,false,fl4,false,nb3,nB3,nm3,nd3,b4,B4,m4,d4,ad4,by rfl,HKp.put (by decide) _,zad hBi.out hb,Gd.yes ⟨zaw (HKp.lt (by rw [hsz]; decide)) _,nhw3⟩,Gd.no,kq qf4.out fun h => ⟨h.1,zae hb h.2⟩,Gd.no,Gd.no,Gd.no⟩
   ·obtain rfl : fl3 = false := zai hi
    obtain rfl : fl2 = true := rdp 2 1 hi hO
    obtain rfl : fl5 = false := Gd.off qd5_3.out
    have rd6 := HKp.get 6 (by decide) RB6
    have rd8 := qf2.out.get.1
    have hw3 := qf2.out.get.2
    refine wog hO (fun K' hK => ?_)
    go_simp
    refine (C1.out w' hBi.out _ _ _ _ hw3).mono ?_
    rintro e w2 ⟨nb4,nB4,nm4,nd4,rfl,nhw4,hb⟩
    exact hK.out _ _ ⟨zad hBi.out hb,true,true,fl4,false,b3,B3,m3,d3,nb4,nB4,nm4,nd4,ad4,by rfl,HKp.put (by decide) _,zad hBi.out hb,kq qf2.out fun h => (h).below hb,Gd.yes ⟨zaw (HKp.lt (by rw [hsz]; decide)) _,nhw4⟩,kq qf4.out fun h => ⟨h.1,zae hb h.2⟩,fun _ => rfl,Gd.no,Gd.no⟩
   ·obtain rfl : fl4 = false := zai hi
    obtain rfl : fl5 = false := Gd.off qd5_4.out
    refine wog hO (fun K' hK => ?_)
    go_simp
    have hb := zaA w' (.cells #[.bool false,.slice none 0 0] 38)
    exact hK.out _ _ ⟨zad hBi.out hb,fl2,fl3,true,false,b3,B3,m3,d3,b4,B4,m4,d4,w'.heap.size,by rfl,HKp.put (by decide) _,zad hBi.out hb,kq qf2.out fun h => (h).below hb,kq qf3.out fun h => (h).below hb,Gd.yes ⟨zaw (HKp.lt (by rw [hsz]; decide)) _,hBi.out.size,Blk.new w' _ _⟩,qd3_2,Gd.no,Gd.no⟩
   ·obtain rfl : fl5 = false := zai hi
    obtain rfl : fl2 = true := rdp 2 5 hi hO
    obtain rfl : fl3 = true := rdp 3 1 hi hO
    obtain rfl : fl4 = true := rdp 4 0 hi hO
    have rd5 := qf4.out.get.1
    have rd9 := qf3.out.get.1
    obtain ⟨_,hg,hk⟩ := qf4.out.get
    have hk : Blk w' ad4 38 #[.bool false,.slice none 0 0] := hk
    obtain ⟨sc0,sf0,sc1,sf1⟩ := st2 hk (.bool b4)
    have hj1 := sn2 hk (.bool b4) (.slice B4 m4 d4)
    have hBn := bl2 (.bool b4) (.slice B4 m4 d4) hg hBi.out
    refine wog hO (fun K' hK => ?_)
    go_simp
    exact hK.out _ _ ⟨hBn,true,true,true,true,b3,B3,m3,d3,b4,B4,m4,d4,ad4,by rfl,HKp,hBn,qf2.out.mono fun h => ⟨h.1,zbh (h.2) hk zcL (zcn _ _ _ _)⟩,qf3.out.mono fun h => ⟨h.1,zbh (h.2) hk zcL (zcn _ _ _ _)⟩,qf4.out.mono fun h => ⟨h.1,h.2.1,hj1⟩,fun _ => rfl,fun _ => rfl,fun _ => rfl⟩
 rintro a wm2 ⟨fl2,fl3,fl4,fl5,b3,B3,m3,d3,b4,B4,m4,d4,ad4,hl,HKp,hBi,qf2,qf3,qf4,qd3_2,qd5_3,qd5_4⟩
 have xx2 : fl2 = true := gdl 2 hl
 subst xx2
 have xx3 : fl3 = true := gdl 3 hl
 subst xx3
 have xx4 : fl4 = true := gdl 4 hl
 subst xx4
 have xx5 : fl5 = true := gdl 5 hl
 subst xx5
 obtain ⟨rv2,hw3⟩ := qf2.out.get
 obtain ⟨rv3,hw4⟩ := qf3.out.get
 obtain ⟨rv4,hg4,hk4⟩ := qf4.out.get
 obtain rfl := HKp.eq [(8,.agg #[.bool b3,.slice B3 m3 d3]),(9,.agg #[.bool b4,.slice B4 m4 d4]),(5,.pointer (some ⟨ad4,0,none⟩))] rfl (by
  intro p hp
  simp only [List.mem_cons,List.not_mem_nil,or_false] at hp
  rcases hp with rfl | rfl | rfl
  ·exact rv2
  ·exact rv3
  ·exact rv4)
 have hBv := hBi.out
 clear hl hBi HKp qf2 qf3 qf4 qd3_2 qd5_3 qd5_4 rv2 rv3 rv4
 have hk4 : Blk wm2 ad4 38 #[.bool b4,.slice B4 m4 d4] := hk4
 rw [show due #[true,true,true,true,true,true] = 0 from rfl]
 simp only [zbx,List.foldl,Act.put,List.setIfInBounds_toArray,List.set_cons_zero,List.set_cons_succ]
 refine wpAnyH_done (by kernel_rfl) ?_ _
 refine NoPanic.normal ?_
 have hB := zad hB hBv
 have HNp := lh9 (HNp.out.below hBv)
 have HNq := lh9 (HNq.out.below hBv)
 have g1 := zac hBv g1
 have e1 := zac hBv e1
 have g2 := zac hBv g2
 have e2 := zac hBv e2
 obtain ⟨ad4_5,hga⟩ : ∃ x,x = ad4 := ⟨_,rfl⟩
 subst hga
 obtain ⟨g5,e5⟩ := hk4.c2
 have HN3 := lh9 hw3
 have HN4 := lh9 hw4
 clear hBv hk4 hg4 hw3 hw4 GG
 clear C0 C1
 obtain rfl : b4 = true := (HN4.out).1.trans (decide_eq_true (by have := Hh.out; omega))
 go_wp2
 go_ret
 exact ⟨by first | rfl | simp,hB⟩
theorem zjd (x y : Int) (bp bq : Bool) (Bp Bq : oA9) (mp mq dp dq : Nat) (K : Nat) (hKK : K ≤ 16777216) (w : World) (sx : Sz K x.natAbs) (sy : Sz K y.natAbs) (hp : zaz w x bp Bp mp dp) (hq : zaz w y bq Bq mq dq) (h : x = y) :
  Calls Tryz.prog 80 #[.agg #[.bool bp,.slice Bp mp dp],.agg #[.bool bq,.slice Bq mq dq]] w fun e w' => e = .returned (.int .i64 0) ∧ Below w.heap.size w w' := by
 have HNp := lh9 hp
 have HNq := lh9 hq
 have HZp := lh9 sx
 have HZq := lh9 sy
 have Hh := lh9 h
 clear hp hq sx sy h
 go_enter Tryz.func80,Tryz.ntmps80
 have hB := Below.refl w.heap.size w
 obtain ⟨bx1,bx2,bx3,bz⟩ := zaT w 38 38 #[.bool bp,.slice Bp mp dp] #[.bool bq,.slice Bq mq dq]
 have hB := zad hB bx1
 have HNp := lh9 (HNp.out.below bx1)
 have HNq := lh9 (HNq.out.below bx1)
 obtain ⟨g1,e1⟩ := bx2.c2
 obtain ⟨g2,e2⟩ := bx3.c2
 clear bx1 bx2 bx3 bz
 go_wp2_with fail
 generalize (w.alloc (.cells #[.bool bp,.slice Bp mp dp] 38)).alloc (.cells #[.bool bq,.slice Bq mq dq] 38) = W1 at *
 have HZ3 : Hid (Sz (K) (-y).natAbs) := SzI.neg HZq.out
 have C0 := lh9 (fun w' (h : Below W1.heap.size W1 w') => zef (y) bq Bq mq dq w' (HNq.out.below h) (by have := Sz.holds' HZq.out HNq.out.holds; omega))
 have HZ4 : Hid (Sz (K + K + 1) (x + -y).natAbs) := SzI.add HZp.out HZ3.out
 have C1 := lh9 (fun w' (h : Below W1.heap.size W1 w') b3 B3 m3 d3 (hw3 : zaz w' (-y) b3 B3 m3 d3) => zgC (x) (-y) bp b3 Bp B3 mp m3 dp d3 w' (HNp.out.below h) hw3 (by have := Sz.holds' HZp.out HNp.out.holds; omega) (by have := Sz.holds' HZ3.out hw3.holds; omega) )
 have GG := lh9 (fun w' (h : Below W1.heap.size W1 w') => (csc (zac h g1) (csc (zac h e1) (csc (zac h g2) (csc (zac h e2) csn)))))
 refine rgB (fun hHeld => ?_)
 refine tl 0 GG.out ?_
 refine tl 1 GG.out ?_
 refine zaU (L := #[true,true,true,true,true,true])
  (J := fun a0 l a w' => ∃ (fl2 fl3 fl4 fl5 b3 : Bool) (B3 : oA9) (m3 d3 : Nat) (b4 : Bool) (B4 : oA9) (m4 d4 ad4 : Nat),l = #[true,true,fl2,fl3,fl4,fl5] ∧ zbG [8,9,5] a0 a ∧ Hid (Below W1.heap.size W1 w') ∧
    Hid (Gd fl2 (a.tmps.getD 8 undef = .agg #[.bool b3,.slice B3 m3 d3] ∧ zaz w' (-y) b3 B3 m3 d3)) ∧
    Hid (Gd fl3 (a.tmps.getD 9 undef = .agg #[.bool b4,.slice B4 m4 d4] ∧ zaz w' (x + -y) b4 B4 m4 d4)) ∧
    Hid (Gd fl4 (a.tmps.getD 5 undef = .pointer (some ⟨ad4,0,none⟩) ∧ W1.heap.size ≤ ad4 ∧ Blk w' ad4 38 (bif fl5 then #[.bool b4,.slice B4 m4 d4] else #[.bool false,.slice none 0 0]))) ∧
    Hid (Gd fl3 (fl2 = true)) ∧
    Hid (Gd fl5 (fl3 = true)) ∧
    Hid (Gd fl5 (fl4 = true)))
  (by rfl) ?_ ?_ ?_
 ·exact ⟨false,false,false,false,false,none,0,0,false,none,0,0,0,by kernel_rfl,zbG.refl _ _,hHeld,Gd.no,Gd.no,Gd.no,Gd.no,Gd.no,Gd.no⟩
 ·intro OPS Ac0 Q0 hO hAs hA
  have RB6 : Ac0.tmps.getD 6 undef = .agg #[.bool bp,.slice Bp mp dp] := (hA 6 undef).trans (by kernel_rfl)
  have RB7 : Ac0.tmps.getD 7 undef = .agg #[.bool bq,.slice Bq mq dq] := (hA 7 undef).trans (by kernel_rfl)
  have hsz : Ac0.tmps.size = 16 := hAs.trans (by kernel_rfl)
  clear hAs hA
  refine ⟨?_,?_⟩
  ·rintro l a w' ⟨fl2,fl3,fl4,fl5,b3,B3,m3,d3,b4,B4,m4,d4,ad4,rfl,-⟩ hr
   obtain rfl : fl2 = true := als 2 hr hO
   obtain rfl : fl3 = true := als 3 hr hO
   obtain rfl : fl4 = true := als 4 hr hO
   obtain rfl : fl5 = true := als 5 hr hO
   rfl
  ·rintro l a w' i ⟨fl2,fl3,fl4,fl5,b3,B3,m3,d3,b4,B4,m4,d4,ad4,rfl,HKp,hBi,qf2,qf3,qf4,qd3_2,qd5_3,qd5_4⟩ hne hi
   have hlt : i < 6 := by have := zbr hi; rw [hO] at this; exact this
   rcases (show i = 0 ∨ i = 1 ∨ i = 2 ∨ i = 3 ∨ i = 4 ∨ i = 5 by omega) with rfl | rfl | rfl | rfl | rfl | rfl
   ·cases (zai hi : true = false)
   ·cases (zai hi : true = false)
   ·obtain rfl : fl2 = false := zai hi
    obtain rfl : fl3 = false := Gd.off qd3_2.out
    obtain rfl : fl5 = false := Gd.off qd5_3.out
    have rd7 := HKp.get 7 (by decide) RB7
    refine wog hO (fun K' hK => ?_)
    go_simp
    refine (C0.out w' hBi.out).mono ?_
    rintro e w2 ⟨nb3,nB3,nm3,nd3,rfl,nhw3,hb⟩
    exact hK.out _ _ ⟨zad hBi.out hb,true,false,fl4,false,nb3,nB3,nm3,nd3,b4,B4,m4,d4,ad4,by rfl,HKp.put (by decide) _,zad hBi.out hb,Gd.yes ⟨zaw (HKp.lt (by rw [hsz]; decide)) _,nhw3⟩,Gd.no,kq qf4.out fun h => ⟨h.1,zae hb h.2⟩,Gd.no,Gd.no,Gd.no⟩
   ·obtain rfl : fl3 = false := zai hi
    obtain rfl : fl2 = true := rdp 2 1 hi hO
    obtain rfl : fl5 = false := Gd.off qd5_3.out
    have rd6 := HKp.get 6 (by decide) RB6
    have rd8 := qf2.out.get.1
    have hw3 := qf2.out.get.2
    refine wog hO (fun K' hK => ?_)
    go_simp
    refine (C1.out w' hBi.out _ _ _ _ hw3).mono ?_
    rintro e w2 ⟨nb4,nB4,nm4,nd4,rfl,nhw4,hb⟩
    exact hK.out _ _ ⟨zad hBi.out hb,true,true,fl4,false,b3,B3,m3,d3,nb4,nB4,nm4,nd4,ad4,by rfl,HKp.put (by decide) _,zad hBi.out hb,kq qf2.out fun h => (h).below hb,Gd.yes ⟨zaw (HKp.lt (by rw [hsz]; decide)) _,nhw4⟩,kq qf4.out fun h => ⟨h.1,zae hb h.2⟩,fun _ => rfl,Gd.no,Gd.no⟩
   ·obtain rfl : fl4 = false := zai hi
    obtain rfl : fl5 = false := Gd.off qd5_4.out
    refine wog hO (fun K' hK => ?_)
    go_simp
    have hb := zaA w' (.cells #[.bool false,.slice none 0 0] 38)
    exact hK.out _ _ ⟨zad hBi.out hb,fl2,fl3,true,false,b3,B3,m3,d3,b4,B4,m4,d4,w'.heap.size,by rfl,HKp.put (by decide) _,zad hBi.out hb,kq qf2.out fun h => (h).below hb,kq qf3.out fun h => (h).below hb,Gd.yes ⟨zaw (HKp.lt (by rw [hsz]; decide)) _,hBi.out.size,Blk.new w' _ _⟩,qd3_2,Gd.no,Gd.no⟩
   ·obtain rfl : fl5 = false := zai hi
    obtain rfl : fl2 = true := rdp 2 5 hi hO
    obtain rfl : fl3 = true := rdp 3 1 hi hO
    obtain rfl : fl4 = true := rdp 4 0 hi hO
    have rd5 := qf4.out.get.1
    have rd9 := qf3.out.get.1
    obtain ⟨_,hg,hk⟩ := qf4.out.get
    have hk : Blk w' ad4 38 #[.bool false,.slice none 0 0] := hk
    obtain ⟨sc0,sf0,sc1,sf1⟩ := st2 hk (.bool b4)
    have hj1 := sn2 hk (.bool b4) (.slice B4 m4 d4)
    have hBn := bl2 (.bool b4) (.slice B4 m4 d4) hg hBi.out
    refine wog hO (fun K' hK => ?_)
    go_simp
    exact hK.out _ _ ⟨hBn,true,true,true,true,b3,B3,m3,d3,b4,B4,m4,d4,ad4,by rfl,HKp,hBn,qf2.out.mono fun h => ⟨h.1,zbh (h.2) hk zcL (zcn _ _ _ _)⟩,qf3.out.mono fun h => ⟨h.1,zbh (h.2) hk zcL (zcn _ _ _ _)⟩,qf4.out.mono fun h => ⟨h.1,h.2.1,hj1⟩,fun _ => rfl,fun _ => rfl,fun _ => rfl⟩
 rintro a wm2 ⟨fl2,fl3,fl4,fl5,b3,B3,m3,d3,b4,B4,m4,d4,ad4,hl,HKp,hBi,qf2,qf3,qf4,qd3_2,qd5_3,qd5_4⟩
 have xx2 : fl2 = true := gdl 2 hl
 subst xx2
 have xx3 : fl3 = true := gdl 3 hl
 subst xx3
 have xx4 : fl4 = true := gdl 4 hl
 subst xx4
 have xx5 : fl5 = true := gdl 5 hl
 subst xx5
 obtain ⟨rv2,hw3⟩ := qf2.out.get
 obtain ⟨rv3,hw4⟩ := qf3.out.get
 obtain ⟨rv4,hg4,hk4⟩ := qf4.out.get
 obtain rfl := HKp.eq [(8,.agg #[.bool b3,.slice B3 m3 d3]),(9,.agg #[.bool b4,.slice B4 m4 d4]),(5,.pointer (some ⟨ad4,0,none⟩))] rfl (by
  intro p hp
  simp only [List.mem_cons,List.not_mem_nil,or_false] at hp
  rcases hp with rfl | rfl | rfl
  ·exact rv2
  ·exact rv3
  ·exact rv4)
 have hBv := hBi.out
 clear hl hBi HKp qf2 qf3 qf4 qd3_2 qd5_3 qd5_4 rv2 rv3 rv4
 have hk4 : Blk wm2 ad4 38 #[.bool b4,.slice B4 m4 d4] := hk4
 rw [show due #[true,true,true,true,true,true] = 0 from rfl]
 simp only [zbx,List.foldl,Act.put,List.setIfInBounds_toArray,List.set_cons_zero,List.set_cons_succ]
 refine wpAnyH_done (by kernel_rfl) ?_ _
 refine NoPanic.normal ?_
 have hB := zad hB hBv
 have HNp := lh9 (HNp.out.below hBv)
 have HNq := lh9 (HNq.out.below hBv)
 have g1 := zac hBv g1
 have e1 := zac hBv e1
 have g2 := zac hBv g2
 have e2 := zac hBv e2
 obtain ⟨ad4_5,hga⟩ : ∃ x,x = ad4 := ⟨_,rfl⟩
 subst hga
 obtain ⟨g5,e5⟩ := hk4.c2
 have HN3 := lh9 hw3
 have HN4 := lh9 hw4
 clear hBv hk4 hg4 hw3 hw4 GG
 clear C0 C1
 obtain rfl : b4 = false := (HN4.out).1.trans (decide_eq_false (by have := Hh.out; omega))
 have hq4 := zfc (HN4.out).2 (by have := Hh.out; omega)
 have hr4 : ((m4 : Int) == 0) = true := by rw [beq_iff_eq]; omega
 clear hq4
 go_wp2
 go_ret
 exact ⟨by first | rfl | simp,hB⟩
theorem ziM (x y : Int) (bp bq : Bool) (Bp Bq : oA9) (mp mq dp dq : Nat) (K : Nat) (hKK : K ≤ 16777216) (w : World) (sx : Sz K x.natAbs) (sy : Sz K y.natAbs) (hp : zaz w x bp Bp mp dp) (hq : zaz w y bq Bq mq dq) (h : y < x) :
  Calls Tryz.prog 80 #[.agg #[.bool bp,.slice Bp mp dp],.agg #[.bool bq,.slice Bq mq dq]] w fun e w' => e = .returned (.int .i64 1) ∧ Below w.heap.size w w' := by
 have HNp := lh9 hp
 have HNq := lh9 hq
 have HZp := lh9 sx
 have HZq := lh9 sy
 have Hh := lh9 h
 clear hp hq sx sy h
 go_enter Tryz.func80,Tryz.ntmps80
 have hB := Below.refl w.heap.size w
 obtain ⟨bx1,bx2,bx3,bz⟩ := zaT w 38 38 #[.bool bp,.slice Bp mp dp] #[.bool bq,.slice Bq mq dq]
 have hB := zad hB bx1
 have HNp := lh9 (HNp.out.below bx1)
 have HNq := lh9 (HNq.out.below bx1)
 obtain ⟨g1,e1⟩ := bx2.c2
 obtain ⟨g2,e2⟩ := bx3.c2
 clear bx1 bx2 bx3 bz
 go_wp2_with fail
 generalize (w.alloc (.cells #[.bool bp,.slice Bp mp dp] 38)).alloc (.cells #[.bool bq,.slice Bq mq dq] 38) = W1 at *
 have HZ3 : Hid (Sz (K) (-y).natAbs) := SzI.neg HZq.out
 have C0 := lh9 (fun w' (h : Below W1.heap.size W1 w') => zef (y) bq Bq mq dq w' (HNq.out.below h) (by have := Sz.holds' HZq.out HNq.out.holds; omega))
 have HZ4 : Hid (Sz (K + K + 1) (x + -y).natAbs) := SzI.add HZp.out HZ3.out
 have C1 := lh9 (fun w' (h : Below W1.heap.size W1 w') b3 B3 m3 d3 (hw3 : zaz w' (-y) b3 B3 m3 d3) => zgC (x) (-y) bp b3 Bp B3 mp m3 dp d3 w' (HNp.out.below h) hw3 (by have := Sz.holds' HZp.out HNp.out.holds; omega) (by have := Sz.holds' HZ3.out hw3.holds; omega) )
 have GG := lh9 (fun w' (h : Below W1.heap.size W1 w') => (csc (zac h g1) (csc (zac h e1) (csc (zac h g2) (csc (zac h e2) csn)))))
 refine rgB (fun hHeld => ?_)
 refine tl 0 GG.out ?_
 refine tl 1 GG.out ?_
 refine zaU (L := #[true,true,true,true,true,true])
  (J := fun a0 l a w' => ∃ (fl2 fl3 fl4 fl5 b3 : Bool) (B3 : oA9) (m3 d3 : Nat) (b4 : Bool) (B4 : oA9) (m4 d4 ad4 : Nat),l = #[true,true,fl2,fl3,fl4,fl5] ∧ zbG [8,9,5] a0 a ∧ Hid (Below W1.heap.size W1 w') ∧
    Hid (Gd fl2 (a.tmps.getD 8 undef = .agg #[.bool b3,.slice B3 m3 d3] ∧ zaz w' (-y) b3 B3 m3 d3)) ∧
    Hid (Gd fl3 (a.tmps.getD 9 undef = .agg #[.bool b4,.slice B4 m4 d4] ∧ zaz w' (x + -y) b4 B4 m4 d4)) ∧
    Hid (Gd fl4 (a.tmps.getD 5 undef = .pointer (some ⟨ad4,0,none⟩) ∧ W1.heap.size ≤ ad4 ∧ Blk w' ad4 38 (bif fl5 then #[.bool b4,.slice B4 m4 d4] else #[.bool false,.slice none 0 0]))) ∧
    Hid (Gd fl3 (fl2 = true)) ∧
    Hid (Gd fl5 (fl3 = true)) ∧
    Hid (Gd fl5 (fl4 = true)))
  (by rfl) ?_ ?_ ?_
 ·exact ⟨false,false,false,false,false,none,0,0,false,none,0,0,0,by kernel_rfl,zbG.refl _ _,hHeld,Gd.no,Gd.no,Gd.no,Gd.no,Gd.no,Gd.no⟩
 ·intro OPS Ac0 Q0 hO hAs hA
  have RB6 : Ac0.tmps.getD 6 undef = .agg #[.bool bp,.slice Bp mp dp] := (hA 6 undef).trans (by kernel_rfl)
  have RB7 : Ac0.tmps.getD 7 undef = .agg #[.bool bq,.slice Bq mq dq] := (hA 7 undef).trans (by kernel_rfl)
  have hsz : Ac0.tmps.size = 16 := hAs.trans (by kernel_rfl)
  clear hAs hA
  refine ⟨?_,?_⟩
  ·rintro l a w' ⟨fl2,fl3,fl4,fl5,b3,B3,m3,d3,b4,B4,m4,d4,ad4,rfl,-⟩ hr
   obtain rfl : fl2 = true := als 2 hr hO
   obtain rfl : fl3 = true := als 3 hr hO
   obtain rfl : fl4 = true := als 4 hr hO
   obtain rfl : fl5 = true := als 5 hr hO
   rfl
  ·rintro l a w' i ⟨fl2,fl3,fl4,fl5,b3,B3,m3,d3,b4,B4,m4,d4,ad4,rfl,HKp,hBi,qf2,qf3,qf4,qd3_2,qd5_3,qd5_4⟩ hne hi
   have hlt : i < 6 := by have := zbr hi; rw [hO] at this; exact this
   rcases (show i = 0 ∨ i = 1 ∨ i = 2 ∨ i = 3 ∨ i = 4 ∨ i = 5 by omega) with rfl | rfl | rfl | rfl | rfl | rfl
   ·cases (zai hi : true = false)
   ·cases (zai hi : true = false)
   ·obtain rfl : fl2 = false := zai hi
    obtain rfl : fl3 = false := Gd.off qd3_2.out
    obtain rfl : fl5 = false := Gd.off qd5_3.out
    have rd7 := HKp.get 7 (by decide) RB7
    refine wog hO (fun K' hK => ?_)
    go_simp
    refine (C0.out w' hBi.out).mono ?_
    rintro e w2 ⟨nb3,nB3,nm3,nd3,rfl,nhw3,hb⟩
    exact hK.out _ _ ⟨zad hBi.out hb,true,false,fl4,false,nb3,nB3,nm3,nd3,b4,B4,m4,d4,ad4,by rfl,HKp.put (by decide) _,zad hBi.out hb,Gd.yes ⟨zaw (HKp.lt (by rw [hsz]; decide)) _,nhw3⟩,Gd.no,kq qf4.out fun h => ⟨h.1,zae hb h.2⟩,Gd.no,Gd.no,Gd.no⟩
   ·obtain rfl : fl3 = false := zai hi
    obtain rfl : fl2 = true := rdp 2 1 hi hO
    obtain rfl : fl5 = false := Gd.off qd5_3.out
    have rd6 := HKp.get 6 (by decide) RB6
    have rd8 := qf2.out.get.1
    have hw3 := qf2.out.get.2
    refine wog hO (fun K' hK => ?_)
    go_simp
    refine (C1.out w' hBi.out _ _ _ _ hw3).mono ?_
    rintro e w2 ⟨nb4,nB4,nm4,nd4,rfl,nhw4,hb⟩
    exact hK.out _ _ ⟨zad hBi.out hb,true,true,fl4,false,b3,B3,m3,d3,nb4,nB4,nm4,nd4,ad4,by rfl,HKp.put (by decide) _,zad hBi.out hb,kq qf2.out fun h => (h).below hb,Gd.yes ⟨zaw (HKp.lt (by rw [hsz]; decide)) _,nhw4⟩,kq qf4.out fun h => ⟨h.1,zae hb h.2⟩,fun _ => rfl,Gd.no,Gd.no⟩
   ·obtain rfl : fl4 = false := zai hi
    obtain rfl : fl5 = false := Gd.off qd5_4.out
    refine wog hO (fun K' hK => ?_)
    go_simp
    have hb := zaA w' (.cells #[.bool false,.slice none 0 0] 38)
    exact hK.out _ _ ⟨zad hBi.out hb,fl2,fl3,true,false,b3,B3,m3,d3,b4,B4,m4,d4,w'.heap.size,by rfl,HKp.put (by decide) _,zad hBi.out hb,kq qf2.out fun h => (h).below hb,kq qf3.out fun h => (h).below hb,Gd.yes ⟨zaw (HKp.lt (by rw [hsz]; decide)) _,hBi.out.size,Blk.new w' _ _⟩,qd3_2,Gd.no,Gd.no⟩
   ·obtain rfl : fl5 = false := zai hi
    obtain rfl : fl2 = true := rdp 2 5 hi hO
    obtain rfl : fl3 = true := rdp 3 1 hi hO
    obtain rfl : fl4 = true := rdp 4 0 hi hO
    have rd5 := qf4.out.get.1
    have rd9 := qf3.out.get.1
    obtain ⟨_,hg,hk⟩ := qf4.out.get
    have hk : Blk w' ad4 38 #[.bool false,.slice none 0 0] := hk
    obtain ⟨sc0,sf0,sc1,sf1⟩ := st2 hk (.bool b4)
    have hj1 := sn2 hk (.bool b4) (.slice B4 m4 d4)
    have hBn := bl2 (.bool b4) (.slice B4 m4 d4) hg hBi.out
    refine wog hO (fun K' hK => ?_)
    go_simp
    exact hK.out _ _ ⟨hBn,true,true,true,true,b3,B3,m3,d3,b4,B4,m4,d4,ad4,by rfl,HKp,hBn,qf2.out.mono fun h => ⟨h.1,zbh (h.2) hk zcL (zcn _ _ _ _)⟩,qf3.out.mono fun h => ⟨h.1,zbh (h.2) hk zcL (zcn _ _ _ _)⟩,qf4.out.mono fun h => ⟨h.1,h.2.1,hj1⟩,fun _ => rfl,fun _ => rfl,fun _ => rfl⟩
 rintro a wm2 ⟨fl2,fl3,fl4,fl5,b3,B3,m3,d3,b4,B4,m4,d4,ad4,hl,HKp,hBi,qf2,qf3,qf4,qd3_2,qd5_3,qd5_4⟩
 have xx2 : fl2 = true := gdl 2 hl
 subst xx2
 have xx3 : fl3 = true := gdl 3 hl
 subst xx3
 have xx4 : fl4 = true := gdl 4 hl
 subst xx4
 have xx5 : fl5 = true := gdl 5 hl
 subst xx5
 obtain ⟨rv2,hw3⟩ := qf2.out.get
 obtain ⟨rv3,hw4⟩ := qf3.out.get
 obtain ⟨rv4,hg4,hk4⟩ := qf4.out.get
 obtain rfl := HKp.eq [(8,.agg #[.bool b3,.slice B3 m3 d3]),(9,.agg #[.bool b4,.slice B4 m4 d4]),(5,.pointer (some ⟨ad4,0,none⟩))] rfl (by
  intro p hp
  simp only [List.mem_cons,List.not_mem_nil,or_false] at hp
  rcases hp with rfl | rfl | rfl
  ·exact rv2
  ·exact rv3
  ·exact rv4)
 have hBv := hBi.out
 clear hl hBi HKp qf2 qf3 qf4 qd3_2 qd5_3 qd5_4 rv2 rv3 rv4
 have hk4 : Blk wm2 ad4 38 #[.bool b4,.slice B4 m4 d4] := hk4
 rw [show due #[true,true,true,true,true,true] = 0 from rfl]
 simp only [zbx,List.foldl,Act.put,List.setIfInBounds_toArray,List.set_cons_zero,List.set_cons_succ]
 refine wpAnyH_done (by kernel_rfl) ?_ _
 refine NoPanic.normal ?_
 have hB := zad hB hBv
 have HNp := lh9 (HNp.out.below hBv)
 have HNq := lh9 (HNq.out.below hBv)
 have g1 := zac hBv g1
 have e1 := zac hBv e1
 have g2 := zac hBv g2
 have e2 := zac hBv e2
 obtain ⟨ad4_5,hga⟩ : ∃ x,x = ad4 := ⟨_,rfl⟩
 subst hga
 obtain ⟨g5,e5⟩ := hk4.c2
 have HN3 := lh9 hw3
 have HN4 := lh9 hw4
 clear hBv hk4 hg4 hw3 hw4 GG
 clear C0 C1
 obtain rfl : b4 = false := (HN4.out).1.trans (decide_eq_false (by have := Hh.out; omega))
 have hq4 := zeR (HN4.out).2 (by have := Hh.out; omega)
 have hr4 : ((m4 : Int) == 0) = false := by rw [beq_eq_false_iff_ne]; omega
 clear hq4
 go_wp2
 go_ret
 exact ⟨by first | rfl | simp,hB⟩
theorem ref7_cmp (x y : Int) (bp bq : Bool) (Bp Bq : oA9) (mp mq dp dq : Nat) (K : Nat) (hKK : K ≤ 16777216) (w : World) (sx : Sz K x.natAbs) (sy : Sz K y.natAbs) (hp : zaz w x bp Bp mp dp) (hq : zaz w y bq Bq mq dq) :
  Calls Tryz.prog 80 #[.agg #[.bool bp,.slice Bp mp dp],.agg #[.bool bq,.slice Bq mq dq]] w (zbt w (zcO x y)) := by
 rcases Int.lt_trichotomy x y with h | h | h
 ·rw [show zcO x y = -1 from if_pos h]
  exact zjm x y bp bq Bp Bq mp mq dp dq K hKK w sx sy hp hq h
 ·rw [(zeZ x y).2 h]
  exact zjd x y bp bq Bp Bq mp mq dp dq K hKK w sx sy hp hq h
 ·rw [show zcO x y = 1 by unfold zcO; rw [if_neg (by omega),if_neg (by omega)]]
  exact ziM x y bp bq Bp Bq mp mq dp dq K hKK w sx sy hp hq h
theorem zic {T : World → Prop} (hTb : ∀ w w',T w → Below w.heap.size w w' → T w') (IC : IntC T) (z : Int) (bp : Bool) (Bp : oA9) (mp dp : Nat) (bq : Bool) (Bq : oA9) (mq dq : Nat) (K : Nat) (hKK : K ≤ 16777216) (w : World) (sz : Sz K z.natAbs) (hp : zat w z bp Bp mp dp) (hq : zaz w z bq Bq mq dq) (hT : T w) (h : z < 0) :
  Calls Tryz.prog 34 #[.agg #[.bool bp,.slice Bp mp dp],.agg #[.bool bq,.slice Bq mq dq]] w fun e w' => e = .returned (.bool true) ∧ Below w.heap.size w w' := by
 have HIC := lh9 IC
 have HT := lh9 (fun w' (hb : Below w.heap.size w w') => hTb w w' hT hb)
 have HNp := lh9 hp
 have HNq := lh9 hq
 have HZp := lh9 sz
 have HZq := lh9 sz
 have Hh := lh9 h
 clear IC hT hp hq sz h
 go_enter Tryz.func34,Tryz.ntmps34
 have hB := Below.refl w.heap.size w
 obtain rfl : bq = true := (HNq.out).1.trans (decide_eq_true (by have := Hh.out; omega))
 obtain ⟨bx1,bx2,bx3,bz⟩ := zaT w 29 38 #[.bool bp,.slice Bp mp dp] #[.bool true,.slice Bq mq dq]
 have hB := zad hB bx1
 have HNp := lh9 (HNp.out.below bx1)
 have HNq := lh9 (HNq.out.below bx1)
 obtain ⟨g1,e1⟩ := bx2.c2
 obtain ⟨g2,e2⟩ := bx3.c2
 clear bx1 bx2 bx3 bz
 go_wp2_with fail
 generalize (w.alloc (.cells #[.bool bp,.slice Bp mp dp] 29)).alloc (.cells #[.bool true,.slice Bq mq dq] 38) = W1 at *
 have C0 := lh9 (fun w' (h : Below W1.heap.size W1 w') => zfw (b := true) (decide_eq_true (by have := Hh.out; omega)) (HIC.out.belowI (z) bp Bp mp dp w' (HT.out _ (zad hB h)) (HNp.out.below h) (by have := Sz.words HZp.out HNp.out.words; omega)))
 have C1 := lh9 (fun w' (h : Below W1.heap.size W1 w') => zhD (v := -1) ((sgn_neg Hh.out)) (HIC.out.sign (z) bp Bp mp dp w' (HT.out _ (zad hB h)) (HNp.out.below h) (by have := Sz.words HZp.out HNp.out.words; omega)))
 have HZ3 : Hid (Sz (K) (z.natAbs)) := HZp.out
 have C2 := lh9 (fun w' (h : Below W1.heap.size W1 w') => HIC.out.abs (z) bp Bp mp dp w' (HT.out _ (zad hB h)) (HNp.out.below h) (by have := Sz.words HZp.out HNp.out.words; omega))
 have C3 := lh9 (fun w' (h : Below W1.heap.size W1 w') B3 m3 d3 (hw3 : zah w' (z.natAbs) B3 m3 d3) => zcI (z.natAbs) B3 Bq m3 d3 mq dq w' hw3 (HNq.out.below h).2 (by have := Sz.words HZ3.out hw3; omega) (by have := Sz.holds' HZq.out HNq.out.2; omega))
 have hBw := (Below.refl W1.heap.size W1).drew
 refine rg (csc g1 (csc e1 (csc g2 (csc e2 csn)))) (fun hHeld => ?_)
 refine tk 0 ?_
 refine tk 2 ?_
 refine tk 3 ?_
 refine rc 1 (fun K hK => ?_)
 go_simp
 go_at_call 60; (with_reducible refine (C0.out _ hBw).mono ?_); rintro e wa2 ⟨rfl,hb⟩; have hBw := zad hBw hb; refine hK.out _ _ (Cs.below hHeld hb) (fun hHeld => ?_); clear hK K hb
 try simp only [sb9]
 refine tk 4 ?_
 refine tk 5 ?_
 refine tk 6 ?_
 refine tk 8 ?_
 refine rc 7 (fun K hK => ?_)
 go_simp
 go_at_call 18; (with_reducible refine (C1.out _ hBw).mono ?_); rintro e wa3 ⟨rfl,hb⟩; have hBw := zad hBw hb; refine hK.out _ _ (Cs.below hHeld hb) (fun hHeld => ?_); clear hK K hb
 try simp only [sb9]
 refine tk 9 ?_
 refine tk 10 ?_
 refine tk 11 ?_
 refine tk 12 ?_
 refine tk 14 ?_
 refine tk 15 ?_
 refine rc 13 (fun K hK => ?_)
 go_simp
 go_at_call 47; (with_reducible refine (C2.out _ hBw).mono ?_); rintro e wa4 ⟨B3,m3,d3,rfl,hw3,hb⟩; have hBw := zad hBw hb; refine hK.out _ _ (Cs.below hHeld hb) (fun hHeld => ?_); clear hK K hb
 try simp only [sb9]
 refine rc 16 (fun K hK => ?_)
 go_simp
 go_at_call 65; (with_reducible refine (C3.out _ hBw _ _ _ hw3).mono ?_); rintro e wa5 ⟨rfl,hb⟩; have hBw := zad hBw hb; have hw3 := hw3.below hb; refine hK.out _ _ (Cs.below hHeld hb) (fun hHeld => ?_); clear hK K hb
 try simp only [sb9]
 refine tk 17 ?_
 refine tk 18 ?_
 refine rdn ?_
 have hB := zad hB hBw
 have HNp := lh9 (HNp.out.below hBw)
 have HNq := lh9 (HNq.out.below hBw)
 have g1 := zac hBw g1
 have e1 := zac hBw e1
 have g2 := zac hBw g2
 have e2 := zac hBw e2
 have HN3 := lh9 hw3
 clear hBw hHeld hw3 C0 C1 C2 C3
 go_wp2
 go_ret
 exact ⟨by first | rfl | simp,hB⟩
theorem zhZ {T : World → Prop} (hTb : ∀ w w',T w → Below w.heap.size w w' → T w') (IC : IntC T) (z : Int) (bp : Bool) (Bp : oA9) (mp dp : Nat) (bq : Bool) (Bq : oA9) (mq dq : Nat) (K : Nat) (hKK : K ≤ 16777216) (w : World) (sz : Sz K z.natAbs) (hp : zat w z bp Bp mp dp) (hq : zaz w z bq Bq mq dq) (hT : T w) (h : z = 0) :
  Calls Tryz.prog 34 #[.agg #[.bool bp,.slice Bp mp dp],.agg #[.bool bq,.slice Bq mq dq]] w fun e w' => e = .returned (.bool true) ∧ Below w.heap.size w w' := by
 have HIC := lh9 IC
 have HT := lh9 (fun w' (hb : Below w.heap.size w w') => hTb w w' hT hb)
 have HNp := lh9 hp
 have HNq := lh9 hq
 have HZp := lh9 sz
 have HZq := lh9 sz
 have Hh := lh9 h
 clear IC hT hp hq sz h
 go_enter Tryz.func34,Tryz.ntmps34
 have hB := Below.refl w.heap.size w
 obtain rfl : bq = false := (HNq.out).1.trans (decide_eq_false (by have := Hh.out; omega))
 have hqq := zfc (HNq.out).2 (by have := Hh.out; omega)
 have hrq : ((mq : Int) == 0) = true := by rw [beq_iff_eq]; omega
 clear hqq
 obtain ⟨bx1,bx2,bx3,bz⟩ := zaT w 29 38 #[.bool bp,.slice Bp mp dp] #[.bool false,.slice Bq mq dq]
 have hB := zad hB bx1
 have HNp := lh9 (HNp.out.below bx1)
 have HNq := lh9 (HNq.out.below bx1)
 obtain ⟨g1,e1⟩ := bx2.c2
 obtain ⟨g2,e2⟩ := bx3.c2
 clear bx1 bx2 bx3 bz
 go_wp2_with fail
 generalize (w.alloc (.cells #[.bool bp,.slice Bp mp dp] 29)).alloc (.cells #[.bool false,.slice Bq mq dq] 38) = W1 at *
 have C0 := lh9 (fun w' (h : Below W1.heap.size W1 w') => zfw (b := false) (decide_eq_false (by have := Hh.out; omega)) (HIC.out.belowI (z) bp Bp mp dp w' (HT.out _ (zad hB h)) (HNp.out.below h) (by have := Sz.words HZp.out HNp.out.words; omega)))
 have C1 := lh9 (fun w' (h : Below W1.heap.size W1 w') => zhD (v := 0) (((sgnZ_eq _).2 Hh.out)) (HIC.out.sign (z) bp Bp mp dp w' (HT.out _ (zad hB h)) (HNp.out.below h) (by have := Sz.words HZp.out HNp.out.words; omega)))
 have HZ3 : Hid (Sz (K) (z.natAbs)) := HZp.out
 have C2 := lh9 (fun w' (h : Below W1.heap.size W1 w') => HIC.out.abs (z) bp Bp mp dp w' (HT.out _ (zad hB h)) (HNp.out.below h) (by have := Sz.words HZp.out HNp.out.words; omega))
 have C3 := lh9 (fun w' (h : Below W1.heap.size W1 w') B3 m3 d3 (hw3 : zah w' (z.natAbs) B3 m3 d3) => zcI (z.natAbs) B3 Bq m3 d3 mq dq w' hw3 (HNq.out.below h).2 (by have := Sz.words HZ3.out hw3; omega) (by have := Sz.holds' HZq.out HNq.out.2; omega))
 have hBw := (Below.refl W1.heap.size W1).drew
 refine rg (csc g1 (csc e1 (csc g2 (csc e2 csn)))) (fun hHeld => ?_)
 refine tk 0 ?_
 refine tk 2 ?_
 refine tk 3 ?_
 refine rc 1 (fun K hK => ?_)
 go_simp
 go_at_call 60; (with_reducible refine (C0.out _ hBw).mono ?_); rintro e wa2 ⟨rfl,hb⟩; have hBw := zad hBw hb; refine hK.out _ _ (Cs.below hHeld hb) (fun hHeld => ?_); clear hK K hb
 try simp only [sb9]
 refine tk 4 ?_
 refine tk 5 ?_
 refine tk 6 ?_
 refine tk 8 ?_
 refine rc 7 (fun K hK => ?_)
 go_simp
 go_at_call 18; (with_reducible refine (C1.out _ hBw).mono ?_); rintro e wa3 ⟨rfl,hb⟩; have hBw := zad hBw hb; refine hK.out _ _ (Cs.below hHeld hb) (fun hHeld => ?_); clear hK K hb
 try simp only [sb9]
 refine tk 9 ?_
 refine tk 10 ?_
 refine tk 11 ?_
 refine tk 12 ?_
 refine tk 14 ?_
 refine tk 15 ?_
 refine rc 13 (fun K hK => ?_)
 go_simp
 go_at_call 47; (with_reducible refine (C2.out _ hBw).mono ?_); rintro e wa4 ⟨B3,m3,d3,rfl,hw3,hb⟩; have hBw := zad hBw hb; refine hK.out _ _ (Cs.below hHeld hb) (fun hHeld => ?_); clear hK K hb
 try simp only [sb9]
 refine rc 16 (fun K hK => ?_)
 go_simp
 go_at_call 65; (with_reducible refine (C3.out _ hBw _ _ _ hw3).mono ?_); rintro e wa5 ⟨rfl,hb⟩; have hBw := zad hBw hb; have hw3 := hw3.below hb; refine hK.out _ _ (Cs.below hHeld hb) (fun hHeld => ?_); clear hK K hb
 try simp only [sb9]
 refine tk 17 ?_
 refine tk 18 ?_
 refine rdn ?_
 have hB := zad hB hBw
 have HNp := lh9 (HNp.out.below hBw)
 have HNq := lh9 (HNq.out.below hBw)
 have g1 := zac hBw g1
 have e1 := zac hBw e1
 have g2 := zac hBw g2
 have e2 := zac hBw e2
 have HN3 := lh9 hw3
 clear hBw hHeld hw3 C0 C1 C2 C3
 go_wp2
 go_ret
 exact ⟨by first | rfl | simp,hB⟩
theorem zhH {T : World → Prop} (hTb : ∀ w w',T w → Below w.heap.size w w' → T w') (IC : IntC T) (z : Int) (bp : Bool) (Bp : oA9) (mp dp : Nat) (bq : Bool) (Bq : oA9) (mq dq : Nat) (K : Nat) (hKK : K ≤ 16777216) (w : World) (sz : Sz K z.natAbs) (hp : zat w z bp Bp mp dp) (hq : zaz w z bq Bq mq dq) (hT : T w) (h : 0 < z) :
  Calls Tryz.prog 34 #[.agg #[.bool bp,.slice Bp mp dp],.agg #[.bool bq,.slice Bq mq dq]] w fun e w' => e = .returned (.bool true) ∧ Below w.heap.size w w' := by
 have HIC := lh9 IC
 have HT := lh9 (fun w' (hb : Below w.heap.size w w') => hTb w w' hT hb)
 have HNp := lh9 hp
 have HNq := lh9 hq
 have HZp := lh9 sz
 have HZq := lh9 sz
 have Hh := lh9 h
 clear IC hT hp hq sz h
 go_enter Tryz.func34,Tryz.ntmps34
 have hB := Below.refl w.heap.size w
 obtain rfl : bq = false := (HNq.out).1.trans (decide_eq_false (by have := Hh.out; omega))
 have hqq := zeR (HNq.out).2 (by have := Hh.out; omega)
 have hrq : ((mq : Int) == 0) = false := by rw [beq_eq_false_iff_ne]; omega
 clear hqq
 obtain ⟨bx1,bx2,bx3,bz⟩ := zaT w 29 38 #[.bool bp,.slice Bp mp dp] #[.bool false,.slice Bq mq dq]
 have hB := zad hB bx1
 have HNp := lh9 (HNp.out.below bx1)
 have HNq := lh9 (HNq.out.below bx1)
 obtain ⟨g1,e1⟩ := bx2.c2
 obtain ⟨g2,e2⟩ := bx3.c2
 clear bx1 bx2 bx3 bz
 go_wp2_with fail
 generalize (w.alloc (.cells #[.bool bp,.slice Bp mp dp] 29)).alloc (.cells #[.bool false,.slice Bq mq dq] 38) = W1 at *
 have C0 := lh9 (fun w' (h : Below W1.heap.size W1 w') => zfw (b := false) (decide_eq_false (by have := Hh.out; omega)) (HIC.out.belowI (z) bp Bp mp dp w' (HT.out _ (zad hB h)) (HNp.out.below h) (by have := Sz.words HZp.out HNp.out.words; omega)))
 have C1 := lh9 (fun w' (h : Below W1.heap.size W1 w') => zhD (v := 1) ((sgn_pos Hh.out)) (HIC.out.sign (z) bp Bp mp dp w' (HT.out _ (zad hB h)) (HNp.out.below h) (by have := Sz.words HZp.out HNp.out.words; omega)))
 have HZ3 : Hid (Sz (K) (z.natAbs)) := HZp.out
 have C2 := lh9 (fun w' (h : Below W1.heap.size W1 w') => HIC.out.abs (z) bp Bp mp dp w' (HT.out _ (zad hB h)) (HNp.out.below h) (by have := Sz.words HZp.out HNp.out.words; omega))
 have C3 := lh9 (fun w' (h : Below W1.heap.size W1 w') B3 m3 d3 (hw3 : zah w' (z.natAbs) B3 m3 d3) => zcI (z.natAbs) B3 Bq m3 d3 mq dq w' hw3 (HNq.out.below h).2 (by have := Sz.words HZ3.out hw3; omega) (by have := Sz.holds' HZq.out HNq.out.2; omega))
 have hBw := (Below.refl W1.heap.size W1).drew
 refine rg (csc g1 (csc e1 (csc g2 (csc e2 csn)))) (fun hHeld => ?_)
 refine tk 0 ?_
 refine tk 2 ?_
 refine tk 3 ?_
 refine rc 1 (fun K hK => ?_)
 go_simp
 go_at_call 60; (with_reducible refine (C0.out _ hBw).mono ?_); rintro e wa2 ⟨rfl,hb⟩; have hBw := zad hBw hb; refine hK.out _ _ (Cs.below hHeld hb) (fun hHeld => ?_); clear hK K hb
 try simp only [sb9]
 refine tk 4 ?_
 refine tk 5 ?_
 refine tk 6 ?_
 refine tk 8 ?_
 refine rc 7 (fun K hK => ?_)
 go_simp
 go_at_call 18; (with_reducible refine (C1.out _ hBw).mono ?_); rintro e wa3 ⟨rfl,hb⟩; have hBw := zad hBw hb; refine hK.out _ _ (Cs.below hHeld hb) (fun hHeld => ?_); clear hK K hb
 try simp only [sb9]
 refine tk 9 ?_
 refine tk 10 ?_
 refine tk 11 ?_
 refine tk 12 ?_
 refine tk 14 ?_
 refine tk 15 ?_
 refine rc 13 (fun K hK => ?_)
 go_simp
 go_at_call 47; (with_reducible refine (C2.out _ hBw).mono ?_); rintro e wa4 ⟨B3,m3,d3,rfl,hw3,hb⟩; have hBw := zad hBw hb; refine hK.out _ _ (Cs.below hHeld hb) (fun hHeld => ?_); clear hK K hb
 try simp only [sb9]
 refine rc 16 (fun K hK => ?_)
 go_simp
 go_at_call 65; (with_reducible refine (C3.out _ hBw _ _ _ hw3).mono ?_); rintro e wa5 ⟨rfl,hb⟩; have hBw := zad hBw hb; have hw3 := hw3.below hb; refine hK.out _ _ (Cs.below hHeld hb) (fun hHeld => ?_); clear hK K hb
 try simp only [sb9]
 refine tk 17 ?_
 refine tk 18 ?_
 refine rdn ?_
 have hB := zad hB hBw
 have HNp := lh9 (HNp.out.below hBw)
 have HNq := lh9 (HNq.out.below hBw)
 have g1 := zac hBw g1
 have e1 := zac hBw e1
 have g2 := zac hBw g2
 have e2 := zac hBw e2
 have HN3 := lh9 hw3
 clear hBw hHeld hw3 C0 C1 C2 C3
 go_wp2
 go_ret
 exact ⟨by first | rfl | simp,hB⟩
theorem zde {T : World → Prop} (hTb : ∀ w w',T w → Below w.heap.size w w' → T w') (IC : IntC T) (z : Int) (bp : Bool) (Bp : oA9) (mp dp : Nat) (bq : Bool) (Bq : oA9) (mq dq : Nat) (K : Nat) (hKK : K ≤ 16777216) (w : World) (sz : Sz K z.natAbs) (hp : zat w z bp Bp mp dp) (hq : zaz w z bq Bq mq dq) (hT : T w) :
  Calls Tryz.prog 34 #[.agg #[.bool bp,.slice Bp mp dp],.agg #[.bool bq,.slice Bq mq dq]] w fun e w' => e = .returned (.bool true) ∧ Below w.heap.size w w' := by
 rcases Int.lt_trichotomy z 0 with h | h | h
 ·exact zic hTb IC z bp Bp mp dp bq Bq mq dq K hKK w sz hp hq hT h
 ·exact zhZ hTb IC z bp Bp mp dp bq Bq mq dq K hKK w sz hp hq hT h
 ·exact zhH hTb IC z bp Bp mp dp bq Bq mq dq K hKK w sz hp hq hT h
end Go.Proofs.YtgigccjiblaefaaGreatDoor
