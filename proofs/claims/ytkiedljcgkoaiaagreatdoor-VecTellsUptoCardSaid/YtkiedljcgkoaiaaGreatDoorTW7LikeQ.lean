/- What this claim leans on. -/
import Derived.Test.YtkiedljcgkoaiaaGreatDoorTBunP
import Derived.Test.YtkiedljcgkoaiaaGreatDoorTR7Ref
namespace Go.Proofs.YtkiedljcgkoaiaaGreatDoor
open Go Go.RowKit
set_option maxHeartbeats 16000000
set_option maxRecDepth 100000
set_option linter.unusedVariables false
set_option linter.unusedSimpArgs false
theorem szh {K B x n c : Nat} {A : oA9} {w : World} (h : Hid (Sz K x)) (k : zai w x A n c) (e : 4 * K ≤ B:=by omega) : n ≤ B:=Nat.le_trans (h.out.holds' k) e
theorem szr {K B n c : Nat} {z : Int} {b : Bool} {A : oA9} {w : World} (h : Hid (Sz K z.natAbs)) (k : zaE w z b A n c) (e : 4 * K ≤ B:=by omega) : n ≤ B:=Nat.le_trans (h.out.holds' k.holds) e
theorem zio {w w' : World} {x : Nat} {A : oA9} {n c g : Nat} {t : TypeId} {cs : Array Value} (h : zai w x A n c) (hk : Blk w g t cs) (hcs : NoU cs) (ho : zdx g w w') : zai w' x A n c:=⟨ziD h.1 hk hcs ho,h.2⟩
theorem zdm {w w' : World} {z : Int} {b : Bool} {A : oA9} {n c g : Nat} {t : TypeId} {cs : Array Value} (h : zaE w z b A n c) (hk : Blk w g t cs) (hcs : NoU cs) (ho : zdx g w w') : zaE w' z b A n c:=⟨h.1,zio h.2 hk hcs ho⟩
theorem zkA (x y : Int) (bp bq : Bool) (Bp Bq : oA9) (mp mq dp dq : Nat) (K : Nat) (hKK : K ≤ 16777216) (w : World) (sx : Sz K x.natAbs) (sy : Sz K y.natAbs) (hp : zaE w x bp Bp mp dp) (hq : zaE w y bq Bq mq dq) (h : x < y) :
  Calls Tryz.prog 95 #[.agg #[.bool bp,.slice Bp mp dp],.agg #[.bool bq,.slice Bq mq dq]] w fun e w' => e = .returned (.int .i64 (-1)) ∧ Below w.heap.size w w':=by
 have HNp:=lh9 hp
 have HNq:=lh9 hq
 have HZp:=lh9 sx
 have HZq:=lh9 sy
 have Hh:=lh9 h
 clear hp hq sx sy h
 go_enter Tryz.func95,Tryz.ntmps95
 have hB:=Below.refl w.heap.size w
 obtain ⟨bx1,bx2,bx3,bz⟩:=zbx w 34 34 #[.bool bp,.slice Bp mp dp] #[.bool bq,.slice Bq mq dq]
 have hB:=zac hB bx1
 have HNp:=lh9 (HNp.out.below bx1)
 have HNq:=lh9 (HNq.out.below bx1)
 obtain ⟨g1,e1⟩:=bx2.c2
 obtain ⟨g2,e2⟩:=bx3.c2
 clear bx1 bx2 bx3 bz
 go_wp2_with fail
 generalize (w.alloc (.cells #[.bool bp,.slice Bp mp dp] 34)).alloc (.cells #[.bool bq,.slice Bq mq dq] 34) = W1 at *
 have HZ3 : Hid (Sz (K) (-y).natAbs):=SzI.neg HZq.out
 have C0:=lh9 (fun w' (h : Below W1.heap.size W1 w') => zhG (y) bq Bq mq dq w' (HNq.out.below h) (by have:=Sz.holds' HZq.out HNq.out.holds; omega))
 have HZ4 : Hid (Sz (K + K + 1) (x + -y).natAbs):=SzI.add HZp.out HZ3.out
 have C1:=lh9 (fun w' (h : Below W1.heap.size W1 w') b3 B3 m3 d3 (hw3 : zaE w' (-y) b3 B3 m3 d3) => zhF (x) (-y) bp b3 Bp B3 mp m3 dp d3 w' (HNp.out.below h) hw3 (by have:=Sz.holds' HZp.out HNp.out.holds; omega) (by have:=Sz.holds' HZ3.out hw3.holds; omega) )
 have GG:=lh9 (fun w' (h : Below W1.heap.size W1 w') => (csc (zad h g1) (csc (zad h e1) (csc (zad h g2) (csc (zad h e2) csn)))))
 refine rgB (fun hHeld => ?_)
 refine tl 0 GG.out ?_
 refine tl 1 GG.out ?_
 refine zbj (L:=#[true,true,true,true,true,true])
  (J:=fun a0 l a w' => ∃ (fl2 fl3 fl4 fl5 b3 : Bool) (B3 : oA9) (m3 d3 : Nat) (b4 : Bool) (B4 : oA9) (m4 d4 ad4 : Nat),l = #[true,true,fl2,fl3,fl4,fl5] ∧ zcl [8,9,5] a0 a ∧ Hid (Below W1.heap.size W1 w') ∧
    Hid (Gd fl2 (a.tmps.getD 8 undef = .agg #[.bool b3,.slice B3 m3 d3] ∧ zaE w' (-y) b3 B3 m3 d3)) ∧
    Hid (Gd fl3 (a.tmps.getD 9 undef = .agg #[.bool b4,.slice B4 m4 d4] ∧ zaE w' (x + -y) b4 B4 m4 d4)) ∧
    Hid (Gd fl4 (a.tmps.getD 5 undef = .pointer (some ⟨ad4,0,none⟩) ∧ W1.heap.size ≤ ad4 ∧ Blk w' ad4 34 (bif fl5 then #[.bool b4,.slice B4 m4 d4] else #[.bool false,.slice none 0 0]))) ∧
    Hid (Gd fl3 (fl2 = true)) ∧
    Hid (Gd fl5 (fl3 = true)) ∧
    Hid (Gd fl5 (fl4 = true)))
  (by rfl) ?_ ?_ ?_
 ·exact ⟨false,false,false,false,false,none,0,0,false,none,0,0,0,by kernel_rfl,zcl.refl _ _,hHeld,Gd.no,Gd.no,Gd.no,Gd.no,Gd.no,Gd.no⟩
 ·intro OPS Ac0 Q0 hO hAs hA
  have RB6 : Ac0.tmps.getD 6 undef = .agg #[.bool bp,.slice Bp mp dp]:=(hA 6 undef).trans (by kernel_rfl)
  have RB7 : Ac0.tmps.getD 7 undef = .agg #[.bool bq,.slice Bq mq dq]:=(hA 7 undef).trans (by kernel_rfl)
  have hsz : Ac0.tmps.size = 16:=hAs.trans (by kernel_rfl)
  clear hAs hA
  refine ⟨?_,?_⟩
  ·rintro l a w' ⟨fl2,fl3,fl4,fl5,b3,B3,m3,d3,b4,B4,m4,d4,ad4,rfl,-⟩ hr
   obtain rfl : fl2 = true:=als 2 hr hO
   obtain rfl : fl3 = true:=als 3 hr hO
   obtain rfl : fl4 = true:=als 4 hr hO
   obtain rfl : fl5 = true:=als 5 hr hO
   rfl
  ·rintro l a w' i ⟨fl2,fl3,fl4,fl5,b3,B3,m3,d3,b4,B4,m4,d4,ad4,rfl,HKp,hBi,qf2,qf3,qf4,qd3_2,qd5_3,qd5_4⟩ hne hi
   have hlt : i < 6:=by have:=zcq hi; rw [hO] at this; exact this
   rcases (show i = 0 ∨ i = 1 ∨ i = 2 ∨ i = 3 ∨ i = 4 ∨ i = 5 by omega) with rfl | rfl | rfl | rfl | rfl | rfl
   ·cases (zaj hi : true = false)
   ·cases (zaj hi : true = false)
   ·obtain rfl : fl2 = false:=zaj hi
    obtain rfl : fl3 = false:=Gd.off qd3_2.out
    obtain rfl : fl5 = false:=Gd.off qd5_3.out
    have rd7:=HKp.get 7 (by decide) RB7
    refine wog hO (fun K' hK => ?_)
    go_simp
    refine (C0.out w' hBi.out).mono ?_
    rintro e w2 ⟨nb3,nB3,nm3,nd3,rfl,nhw3,hb⟩
    exact hK.out _ _ ⟨zac hBi.out hb,true,false,fl4,false,nb3,nB3,nm3,nd3,b4,B4,m4,d4,ad4,by rfl,HKp.put (by decide) _,zac hBi.out hb,Gd.yes ⟨zaI (HKp.lt (by rw [hsz]; decide)) _,nhw3⟩,Gd.no,kq qf4.out fun h => ⟨h.1,zae hb h.2⟩,Gd.no,Gd.no,Gd.no⟩
   ·obtain rfl : fl3 = false:=zaj hi
    obtain rfl : fl2 = true:=rdp 2 1 hi hO
    obtain rfl : fl5 = false:=Gd.off qd5_3.out
    have rd6:=HKp.get 6 (by decide) RB6
    have rd8:=qf2.out.get.1
    have hw3:=qf2.out.get.2
    refine wog hO (fun K' hK => ?_)
    go_simp
    refine (C1.out w' hBi.out _ _ _ _ hw3).mono ?_
    rintro e w2 ⟨nb4,nB4,nm4,nd4,rfl,nhw4,hb⟩
    exact hK.out _ _ ⟨zac hBi.out hb,true,true,fl4,false,b3,B3,m3,d3,nb4,nB4,nm4,nd4,ad4,by rfl,HKp.put (by decide) _,zac hBi.out hb,kq qf2.out fun h => (h).below hb,Gd.yes ⟨zaI (HKp.lt (by rw [hsz]; decide)) _,nhw4⟩,kq qf4.out fun h => ⟨h.1,zae hb h.2⟩,fun _ => rfl,Gd.no,Gd.no⟩
   ·obtain rfl : fl4 = false:=zaj hi
    obtain rfl : fl5 = false:=Gd.off qd5_4.out
    refine wog hO (fun K' hK => ?_)
    go_simp
    have hb:=zbn w' (.cells #[.bool false,.slice none 0 0] 34)
    exact hK.out _ _ ⟨zac hBi.out hb,fl2,fl3,true,false,b3,B3,m3,d3,b4,B4,m4,d4,w'.heap.size,by rfl,HKp.put (by decide) _,zac hBi.out hb,kq qf2.out fun h => (h).below hb,kq qf3.out fun h => (h).below hb,Gd.yes ⟨zaI (HKp.lt (by rw [hsz]; decide)) _,hBi.out.size,Blk.new w' _ _⟩,qd3_2,Gd.no,Gd.no⟩
   ·obtain rfl : fl5 = false:=zaj hi
    obtain rfl : fl2 = true:=rdp 2 5 hi hO
    obtain rfl : fl3 = true:=rdp 3 1 hi hO
    obtain rfl : fl4 = true:=rdp 4 0 hi hO
    have rd5:=qf4.out.get.1
    have rd9:=qf3.out.get.1
    obtain ⟨_,hg,hk⟩:=qf4.out.get
    have hk : Blk w' ad4 34 #[.bool false,.slice none 0 0]:=hk
    obtain ⟨sc0,sf0,sc1,sf1⟩:=st2 hk (.bool b4)
    have hj1:=sn2 hk (.bool b4) (.slice B4 m4 d4)
    have hBn:=bl2 (.bool b4) (.slice B4 m4 d4) hg hBi.out
    refine wog hO (fun K' hK => ?_)
    go_simp
    exact hK.out _ _ ⟨hBn,true,true,true,true,b3,B3,m3,d3,b4,B4,m4,d4,ad4,by rfl,HKp,hBn,qf2.out.mono fun h => ⟨h.1,zdm (h.2) hk nou2 (zgf _ _ _ _)⟩,qf3.out.mono fun h => ⟨h.1,zdm (h.2) hk nou2 (zgf _ _ _ _)⟩,qf4.out.mono fun h => ⟨h.1,h.2.1,hj1⟩,fun _ => rfl,fun _ => rfl,fun _ => rfl⟩
 rintro a wm2 ⟨fl2,fl3,fl4,fl5,b3,B3,m3,d3,b4,B4,m4,d4,ad4,hl,HKp,hBi,qf2,qf3,qf4,qd3_2,qd5_3,qd5_4⟩
 have xx2 : fl2 = true:=gdl 2 hl
 subst xx2
 have xx3 : fl3 = true:=gdl 3 hl
 subst xx3
 have xx4 : fl4 = true:=gdl 4 hl
 subst xx4
 have xx5 : fl5 = true:=gdl 5 hl
 subst xx5
 obtain ⟨rv2,hw3⟩:=qf2.out.get
 obtain ⟨rv3,hw4⟩:=qf3.out.get
 obtain ⟨rv4,hg4,hk4⟩:=qf4.out.get
 obtain rfl:=HKp.eq [(8,.agg #[.bool b3,.slice B3 m3 d3]),(9,.agg #[.bool b4,.slice B4 m4 d4]),(5,.pointer (some ⟨ad4,0,none⟩))] rfl (by
  intro p hp
  simp only [List.mem_cons,List.not_mem_nil,or_false] at hp
  rcases hp with rfl | rfl | rfl
  ·exact rv2
  ·exact rv3
  ·exact rv4)
 have hBv:=hBi.out
 clear hl hBi HKp qf2 qf3 qf4 qd3_2 qd5_3 qd5_4 rv2 rv3 rv4
 have hk4 : Blk wm2 ad4 34 #[.bool b4,.slice B4 m4 d4]:=hk4
 rw [show due #[true,true,true,true,true,true] = 0 from rfl]
 simp only [zcf,List.foldl,Act.put,List.setIfInBounds_toArray,List.set_cons_zero,List.set_cons_succ]
 refine wpAnyH_done (by kernel_rfl) ?_ _
 refine NoPanic.normal ?_
 have hB:=zac hB hBv
 have HNp:=lh9 (HNp.out.below hBv)
 have HNq:=lh9 (HNq.out.below hBv)
 have g1:=zad hBv g1
 have e1:=zad hBv e1
 have g2:=zad hBv g2
 have e2:=zad hBv e2
 obtain ⟨ad4_5,hga⟩ : ∃ x,x = ad4:=⟨_,rfl⟩
 subst hga
 obtain ⟨g5,e5⟩:=hk4.c2
 have HN3:=lh9 hw3
 have HN4:=lh9 hw4
 clear hBv hk4 hg4 hw3 hw4 GG
 clear C0 C1
 obtain rfl : b4 = true:=(HN4.out).1.trans (decide_eq_true (by have:=Hh.out; omega))
 go_wp2
 go_ret
 exact ⟨by first | rfl | simp,hB⟩
theorem zky (x y : Int) (bp bq : Bool) (Bp Bq : oA9) (mp mq dp dq : Nat) (K : Nat) (hKK : K ≤ 16777216) (w : World) (sx : Sz K x.natAbs) (sy : Sz K y.natAbs) (hp : zaE w x bp Bp mp dp) (hq : zaE w y bq Bq mq dq) (h : x = y) :
  Calls Tryz.prog 95 #[.agg #[.bool bp,.slice Bp mp dp],.agg #[.bool bq,.slice Bq mq dq]] w fun e w' => e = .returned (.int .i64 0) ∧ Below w.heap.size w w':=by
 have HNp:=lh9 hp
 have HNq:=lh9 hq
 have HZp:=lh9 sx
 have HZq:=lh9 sy
 have Hh:=lh9 h
 clear hp hq sx sy h
 go_enter Tryz.func95,Tryz.ntmps95
 have hB:=Below.refl w.heap.size w
 obtain ⟨bx1,bx2,bx3,bz⟩:=zbx w 34 34 #[.bool bp,.slice Bp mp dp] #[.bool bq,.slice Bq mq dq]
 have hB:=zac hB bx1
 have HNp:=lh9 (HNp.out.below bx1)
 have HNq:=lh9 (HNq.out.below bx1)
 obtain ⟨g1,e1⟩:=bx2.c2
 obtain ⟨g2,e2⟩:=bx3.c2
 clear bx1 bx2 bx3 bz
 go_wp2_with fail
 generalize (w.alloc (.cells #[.bool bp,.slice Bp mp dp] 34)).alloc (.cells #[.bool bq,.slice Bq mq dq] 34) = W1 at *
 have HZ3 : Hid (Sz (K) (-y).natAbs):=SzI.neg HZq.out
 have C0:=lh9 (fun w' (h : Below W1.heap.size W1 w') => zhG (y) bq Bq mq dq w' (HNq.out.below h) (by have:=Sz.holds' HZq.out HNq.out.holds; omega))
 have HZ4 : Hid (Sz (K + K + 1) (x + -y).natAbs):=SzI.add HZp.out HZ3.out
 have C1:=lh9 (fun w' (h : Below W1.heap.size W1 w') b3 B3 m3 d3 (hw3 : zaE w' (-y) b3 B3 m3 d3) => zhF (x) (-y) bp b3 Bp B3 mp m3 dp d3 w' (HNp.out.below h) hw3 (by have:=Sz.holds' HZp.out HNp.out.holds; omega) (by have:=Sz.holds' HZ3.out hw3.holds; omega) )
 have GG:=lh9 (fun w' (h : Below W1.heap.size W1 w') => (csc (zad h g1) (csc (zad h e1) (csc (zad h g2) (csc (zad h e2) csn)))))
 refine rgB (fun hHeld => ?_)
 refine tl 0 GG.out ?_
 refine tl 1 GG.out ?_
 refine zbj (L:=#[true,true,true,true,true,true])
  (J:=fun a0 l a w' => ∃ (fl2 fl3 fl4 fl5 b3 : Bool) (B3 : oA9) (m3 d3 : Nat) (b4 : Bool) (B4 : oA9) (m4 d4 ad4 : Nat),l = #[true,true,fl2,fl3,fl4,fl5] ∧ zcl [8,9,5] a0 a ∧ Hid (Below W1.heap.size W1 w') ∧
    Hid (Gd fl2 (a.tmps.getD 8 undef = .agg #[.bool b3,.slice B3 m3 d3] ∧ zaE w' (-y) b3 B3 m3 d3)) ∧
    Hid (Gd fl3 (a.tmps.getD 9 undef = .agg #[.bool b4,.slice B4 m4 d4] ∧ zaE w' (x + -y) b4 B4 m4 d4)) ∧
    Hid (Gd fl4 (a.tmps.getD 5 undef = .pointer (some ⟨ad4,0,none⟩) ∧ W1.heap.size ≤ ad4 ∧ Blk w' ad4 34 (bif fl5 then #[.bool b4,.slice B4 m4 d4] else #[.bool false,.slice none 0 0]))) ∧
    Hid (Gd fl3 (fl2 = true)) ∧
    Hid (Gd fl5 (fl3 = true)) ∧
    Hid (Gd fl5 (fl4 = true)))
  (by rfl) ?_ ?_ ?_
 ·exact ⟨false,false,false,false,false,none,0,0,false,none,0,0,0,by kernel_rfl,zcl.refl _ _,hHeld,Gd.no,Gd.no,Gd.no,Gd.no,Gd.no,Gd.no⟩
 ·intro OPS Ac0 Q0 hO hAs hA
  have RB6 : Ac0.tmps.getD 6 undef = .agg #[.bool bp,.slice Bp mp dp]:=(hA 6 undef).trans (by kernel_rfl)
  have RB7 : Ac0.tmps.getD 7 undef = .agg #[.bool bq,.slice Bq mq dq]:=(hA 7 undef).trans (by kernel_rfl)
  have hsz : Ac0.tmps.size = 16:=hAs.trans (by kernel_rfl)
  clear hAs hA
  refine ⟨?_,?_⟩
  ·rintro l a w' ⟨fl2,fl3,fl4,fl5,b3,B3,m3,d3,b4,B4,m4,d4,ad4,rfl,-⟩ hr
   obtain rfl : fl2 = true:=als 2 hr hO
   obtain rfl : fl3 = true:=als 3 hr hO
   obtain rfl : fl4 = true:=als 4 hr hO
   obtain rfl : fl5 = true:=als 5 hr hO
   rfl
  ·rintro l a w' i ⟨fl2,fl3,fl4,fl5,b3,B3,m3,d3,b4,B4,m4,d4,ad4,rfl,HKp,hBi,qf2,qf3,qf4,qd3_2,qd5_3,qd5_4⟩ hne hi
   have hlt : i < 6:=by have:=zcq hi; rw [hO] at this; exact this
   rcases (show i = 0 ∨ i = 1 ∨ i = 2 ∨ i = 3 ∨ i = 4 ∨ i = 5 by omega) with rfl | rfl | rfl | rfl | rfl | rfl
   ·cases (zaj hi : true = false)
   ·cases (zaj hi : true = false)
   ·obtain rfl : fl2 = false:=zaj hi
    obtain rfl : fl3 = false:=Gd.off qd3_2.out
    obtain rfl : fl5 = false:=Gd.off qd5_3.out
    have rd7:=HKp.get 7 (by decide) RB7
    refine wog hO (fun K' hK => ?_)
    go_simp
    refine (C0.out w' hBi.out).mono ?_
    rintro e w2 ⟨nb3,nB3,nm3,nd3,rfl,nhw3,hb⟩
    exact hK.out _ _ ⟨zac hBi.out hb,true,false,fl4,false,nb3,nB3,nm3,nd3,b4,B4,m4,d4,ad4,by rfl,HKp.put (by decide) _,zac hBi.out hb,Gd.yes ⟨zaI (HKp.lt (by rw [hsz]; decide)) _,nhw3⟩,Gd.no,kq qf4.out fun h => ⟨h.1,zae hb h.2⟩,Gd.no,Gd.no,Gd.no⟩
   ·obtain rfl : fl3 = false:=zaj hi
    obtain rfl : fl2 = true:=rdp 2 1 hi hO
    obtain rfl : fl5 = false:=Gd.off qd5_3.out
    have rd6:=HKp.get 6 (by decide) RB6
    have rd8:=qf2.out.get.1
    have hw3:=qf2.out.get.2
    refine wog hO (fun K' hK => ?_)
    go_simp
    refine (C1.out w' hBi.out _ _ _ _ hw3).mono ?_
    rintro e w2 ⟨nb4,nB4,nm4,nd4,rfl,nhw4,hb⟩
    exact hK.out _ _ ⟨zac hBi.out hb,true,true,fl4,false,b3,B3,m3,d3,nb4,nB4,nm4,nd4,ad4,by rfl,HKp.put (by decide) _,zac hBi.out hb,kq qf2.out fun h => (h).below hb,Gd.yes ⟨zaI (HKp.lt (by rw [hsz]; decide)) _,nhw4⟩,kq qf4.out fun h => ⟨h.1,zae hb h.2⟩,fun _ => rfl,Gd.no,Gd.no⟩
   ·obtain rfl : fl4 = false:=zaj hi
    obtain rfl : fl5 = false:=Gd.off qd5_4.out
    refine wog hO (fun K' hK => ?_)
    go_simp
    have hb:=zbn w' (.cells #[.bool false,.slice none 0 0] 34)
    exact hK.out _ _ ⟨zac hBi.out hb,fl2,fl3,true,false,b3,B3,m3,d3,b4,B4,m4,d4,w'.heap.size,by rfl,HKp.put (by decide) _,zac hBi.out hb,kq qf2.out fun h => (h).below hb,kq qf3.out fun h => (h).below hb,Gd.yes ⟨zaI (HKp.lt (by rw [hsz]; decide)) _,hBi.out.size,Blk.new w' _ _⟩,qd3_2,Gd.no,Gd.no⟩
   ·obtain rfl : fl5 = false:=zaj hi
    obtain rfl : fl2 = true:=rdp 2 5 hi hO
    obtain rfl : fl3 = true:=rdp 3 1 hi hO
    obtain rfl : fl4 = true:=rdp 4 0 hi hO
    have rd5:=qf4.out.get.1
    have rd9:=qf3.out.get.1
    obtain ⟨_,hg,hk⟩:=qf4.out.get
    have hk : Blk w' ad4 34 #[.bool false,.slice none 0 0]:=hk
    obtain ⟨sc0,sf0,sc1,sf1⟩:=st2 hk (.bool b4)
    have hj1:=sn2 hk (.bool b4) (.slice B4 m4 d4)
    have hBn:=bl2 (.bool b4) (.slice B4 m4 d4) hg hBi.out
    refine wog hO (fun K' hK => ?_)
    go_simp
    exact hK.out _ _ ⟨hBn,true,true,true,true,b3,B3,m3,d3,b4,B4,m4,d4,ad4,by rfl,HKp,hBn,qf2.out.mono fun h => ⟨h.1,zdm (h.2) hk nou2 (zgf _ _ _ _)⟩,qf3.out.mono fun h => ⟨h.1,zdm (h.2) hk nou2 (zgf _ _ _ _)⟩,qf4.out.mono fun h => ⟨h.1,h.2.1,hj1⟩,fun _ => rfl,fun _ => rfl,fun _ => rfl⟩
 rintro a wm2 ⟨fl2,fl3,fl4,fl5,b3,B3,m3,d3,b4,B4,m4,d4,ad4,hl,HKp,hBi,qf2,qf3,qf4,qd3_2,qd5_3,qd5_4⟩
 have xx2 : fl2 = true:=gdl 2 hl
 subst xx2
 have xx3 : fl3 = true:=gdl 3 hl
 subst xx3
 have xx4 : fl4 = true:=gdl 4 hl
 subst xx4
 have xx5 : fl5 = true:=gdl 5 hl
 subst xx5
 obtain ⟨rv2,hw3⟩:=qf2.out.get
 obtain ⟨rv3,hw4⟩:=qf3.out.get
 obtain ⟨rv4,hg4,hk4⟩:=qf4.out.get
 obtain rfl:=HKp.eq [(8,.agg #[.bool b3,.slice B3 m3 d3]),(9,.agg #[.bool b4,.slice B4 m4 d4]),(5,.pointer (some ⟨ad4,0,none⟩))] rfl (by
  intro p hp
  simp only [List.mem_cons,List.not_mem_nil,or_false] at hp
  rcases hp with rfl | rfl | rfl
  ·exact rv2
  ·exact rv3
  ·exact rv4)
 have hBv:=hBi.out
 clear hl hBi HKp qf2 qf3 qf4 qd3_2 qd5_3 qd5_4 rv2 rv3 rv4
 have hk4 : Blk wm2 ad4 34 #[.bool b4,.slice B4 m4 d4]:=hk4
 rw [show due #[true,true,true,true,true,true] = 0 from rfl]
 simp only [zcf,List.foldl,Act.put,List.setIfInBounds_toArray,List.set_cons_zero,List.set_cons_succ]
 refine wpAnyH_done (by kernel_rfl) ?_ _
 refine NoPanic.normal ?_
 have hB:=zac hB hBv
 have HNp:=lh9 (HNp.out.below hBv)
 have HNq:=lh9 (HNq.out.below hBv)
 have g1:=zad hBv g1
 have e1:=zad hBv e1
 have g2:=zad hBv g2
 have e2:=zad hBv e2
 obtain ⟨ad4_5,hga⟩ : ∃ x,x = ad4:=⟨_,rfl⟩
 subst hga
 obtain ⟨g5,e5⟩:=hk4.c2
 have HN3:=lh9 hw3
 have HN4:=lh9 hw4
 clear hBv hk4 hg4 hw3 hw4 GG
 clear C0 C1
 obtain rfl : b4 = false:=(HN4.out).1.trans (decide_eq_false (by have:=Hh.out; omega))
 have hq4:=h16_zero (HN4.out).2 (by have:=Hh.out; omega)
 have hr4 : ((m4 : Int) == 0) = true:=by rw [beq_iff_eq]; omega
 clear hq4
 go_wp2
 go_ret
 exact ⟨by first | rfl | simp,hB⟩
theorem zkz (x y : Int) (bp bq : Bool) (Bp Bq : oA9) (mp mq dp dq : Nat) (K : Nat) (hKK : K ≤ 16777216) (w : World) (sx : Sz K x.natAbs) (sy : Sz K y.natAbs) (hp : zaE w x bp Bp mp dp) (hq : zaE w y bq Bq mq dq) (h : y < x) :
  Calls Tryz.prog 95 #[.agg #[.bool bp,.slice Bp mp dp],.agg #[.bool bq,.slice Bq mq dq]] w fun e w' => e = .returned (.int .i64 1) ∧ Below w.heap.size w w':=by
 have HNp:=lh9 hp
 have HNq:=lh9 hq
 have HZp:=lh9 sx
 have HZq:=lh9 sy
 have Hh:=lh9 h
 clear hp hq sx sy h
 go_enter Tryz.func95,Tryz.ntmps95
 have hB:=Below.refl w.heap.size w
 obtain ⟨bx1,bx2,bx3,bz⟩:=zbx w 34 34 #[.bool bp,.slice Bp mp dp] #[.bool bq,.slice Bq mq dq]
 have hB:=zac hB bx1
 have HNp:=lh9 (HNp.out.below bx1)
 have HNq:=lh9 (HNq.out.below bx1)
 obtain ⟨g1,e1⟩:=bx2.c2
 obtain ⟨g2,e2⟩:=bx3.c2
 clear bx1 bx2 bx3 bz
 go_wp2_with fail
 generalize (w.alloc (.cells #[.bool bp,.slice Bp mp dp] 34)).alloc (.cells #[.bool bq,.slice Bq mq dq] 34) = W1 at *
 have HZ3 : Hid (Sz (K) (-y).natAbs):=SzI.neg HZq.out
 have C0:=lh9 (fun w' (h : Below W1.heap.size W1 w') => zhG (y) bq Bq mq dq w' (HNq.out.below h) (by have:=Sz.holds' HZq.out HNq.out.holds; omega))
 have HZ4 : Hid (Sz (K + K + 1) (x + -y).natAbs):=SzI.add HZp.out HZ3.out
 have C1:=lh9 (fun w' (h : Below W1.heap.size W1 w') b3 B3 m3 d3 (hw3 : zaE w' (-y) b3 B3 m3 d3) => zhF (x) (-y) bp b3 Bp B3 mp m3 dp d3 w' (HNp.out.below h) hw3 (by have:=Sz.holds' HZp.out HNp.out.holds; omega) (by have:=Sz.holds' HZ3.out hw3.holds; omega) )
 have GG:=lh9 (fun w' (h : Below W1.heap.size W1 w') => (csc (zad h g1) (csc (zad h e1) (csc (zad h g2) (csc (zad h e2) csn)))))
 refine rgB (fun hHeld => ?_)
 refine tl 0 GG.out ?_
 refine tl 1 GG.out ?_
 refine zbj (L:=#[true,true,true,true,true,true])
  (J:=fun a0 l a w' => ∃ (fl2 fl3 fl4 fl5 b3 : Bool) (B3 : oA9) (m3 d3 : Nat) (b4 : Bool) (B4 : oA9) (m4 d4 ad4 : Nat),l = #[true,true,fl2,fl3,fl4,fl5] ∧ zcl [8,9,5] a0 a ∧ Hid (Below W1.heap.size W1 w') ∧
    Hid (Gd fl2 (a.tmps.getD 8 undef = .agg #[.bool b3,.slice B3 m3 d3] ∧ zaE w' (-y) b3 B3 m3 d3)) ∧
    Hid (Gd fl3 (a.tmps.getD 9 undef = .agg #[.bool b4,.slice B4 m4 d4] ∧ zaE w' (x + -y) b4 B4 m4 d4)) ∧
    Hid (Gd fl4 (a.tmps.getD 5 undef = .pointer (some ⟨ad4,0,none⟩) ∧ W1.heap.size ≤ ad4 ∧ Blk w' ad4 34 (bif fl5 then #[.bool b4,.slice B4 m4 d4] else #[.bool false,.slice none 0 0]))) ∧
    Hid (Gd fl3 (fl2 = true)) ∧
    Hid (Gd fl5 (fl3 = true)) ∧
    Hid (Gd fl5 (fl4 = true)))
  (by rfl) ?_ ?_ ?_
 ·exact ⟨false,false,false,false,false,none,0,0,false,none,0,0,0,by kernel_rfl,zcl.refl _ _,hHeld,Gd.no,Gd.no,Gd.no,Gd.no,Gd.no,Gd.no⟩
 ·intro OPS Ac0 Q0 hO hAs hA
  have RB6 : Ac0.tmps.getD 6 undef = .agg #[.bool bp,.slice Bp mp dp]:=(hA 6 undef).trans (by kernel_rfl)
  have RB7 : Ac0.tmps.getD 7 undef = .agg #[.bool bq,.slice Bq mq dq]:=(hA 7 undef).trans (by kernel_rfl)
  have hsz : Ac0.tmps.size = 16:=hAs.trans (by kernel_rfl)
  clear hAs hA
  refine ⟨?_,?_⟩
  ·rintro l a w' ⟨fl2,fl3,fl4,fl5,b3,B3,m3,d3,b4,B4,m4,d4,ad4,rfl,-⟩ hr
   obtain rfl : fl2 = true:=als 2 hr hO
   obtain rfl : fl3 = true:=als 3 hr hO
   obtain rfl : fl4 = true:=als 4 hr hO
   obtain rfl : fl5 = true:=als 5 hr hO
   rfl
  ·rintro l a w' i ⟨fl2,fl3,fl4,fl5,b3,B3,m3,d3,b4,B4,m4,d4,ad4,rfl,HKp,hBi,qf2,qf3,qf4,qd3_2,qd5_3,qd5_4⟩ hne hi
   have hlt : i < 6:=by have:=zcq hi; rw [hO] at this; exact this
   rcases (show i = 0 ∨ i = 1 ∨ i = 2 ∨ i = 3 ∨ i = 4 ∨ i = 5 by omega) with rfl | rfl | rfl | rfl | rfl | rfl
   ·cases (zaj hi : true = false)
   ·cases (zaj hi : true = false)
   ·obtain rfl : fl2 = false:=zaj hi
    obtain rfl : fl3 = false:=Gd.off qd3_2.out
    obtain rfl : fl5 = false:=Gd.off qd5_3.out
    have rd7:=HKp.get 7 (by decide) RB7
    refine wog hO (fun K' hK => ?_)
    go_simp
    refine (C0.out w' hBi.out).mono ?_
    rintro e w2 ⟨nb3,nB3,nm3,nd3,rfl,nhw3,hb⟩
    exact hK.out _ _ ⟨zac hBi.out hb,true,false,fl4,false,nb3,nB3,nm3,nd3,b4,B4,m4,d4,ad4,by rfl,HKp.put (by decide) _,zac hBi.out hb,Gd.yes ⟨zaI (HKp.lt (by rw [hsz]; decide)) _,nhw3⟩,Gd.no,kq qf4.out fun h => ⟨h.1,zae hb h.2⟩,Gd.no,Gd.no,Gd.no⟩
   ·obtain rfl : fl3 = false:=zaj hi
    obtain rfl : fl2 = true:=rdp 2 1 hi hO
    obtain rfl : fl5 = false:=Gd.off qd5_3.out
    have rd6:=HKp.get 6 (by decide) RB6
    have rd8:=qf2.out.get.1
    have hw3:=qf2.out.get.2
    refine wog hO (fun K' hK => ?_)
    go_simp
    refine (C1.out w' hBi.out _ _ _ _ hw3).mono ?_
    rintro e w2 ⟨nb4,nB4,nm4,nd4,rfl,nhw4,hb⟩
    exact hK.out _ _ ⟨zac hBi.out hb,true,true,fl4,false,b3,B3,m3,d3,nb4,nB4,nm4,nd4,ad4,by rfl,HKp.put (by decide) _,zac hBi.out hb,kq qf2.out fun h => (h).below hb,Gd.yes ⟨zaI (HKp.lt (by rw [hsz]; decide)) _,nhw4⟩,kq qf4.out fun h => ⟨h.1,zae hb h.2⟩,fun _ => rfl,Gd.no,Gd.no⟩
   ·obtain rfl : fl4 = false:=zaj hi
    obtain rfl : fl5 = false:=Gd.off qd5_4.out
    refine wog hO (fun K' hK => ?_)
    go_simp
    have hb:=zbn w' (.cells #[.bool false,.slice none 0 0] 34)
    exact hK.out _ _ ⟨zac hBi.out hb,fl2,fl3,true,false,b3,B3,m3,d3,b4,B4,m4,d4,w'.heap.size,by rfl,HKp.put (by decide) _,zac hBi.out hb,kq qf2.out fun h => (h).below hb,kq qf3.out fun h => (h).below hb,Gd.yes ⟨zaI (HKp.lt (by rw [hsz]; decide)) _,hBi.out.size,Blk.new w' _ _⟩,qd3_2,Gd.no,Gd.no⟩
   ·obtain rfl : fl5 = false:=zaj hi
    obtain rfl : fl2 = true:=rdp 2 5 hi hO
    obtain rfl : fl3 = true:=rdp 3 1 hi hO
    obtain rfl : fl4 = true:=rdp 4 0 hi hO
    have rd5:=qf4.out.get.1
    have rd9:=qf3.out.get.1
    obtain ⟨_,hg,hk⟩:=qf4.out.get
    have hk : Blk w' ad4 34 #[.bool false,.slice none 0 0]:=hk
    obtain ⟨sc0,sf0,sc1,sf1⟩:=st2 hk (.bool b4)
    have hj1:=sn2 hk (.bool b4) (.slice B4 m4 d4)
    have hBn:=bl2 (.bool b4) (.slice B4 m4 d4) hg hBi.out
    refine wog hO (fun K' hK => ?_)
    go_simp
    exact hK.out _ _ ⟨hBn,true,true,true,true,b3,B3,m3,d3,b4,B4,m4,d4,ad4,by rfl,HKp,hBn,qf2.out.mono fun h => ⟨h.1,zdm (h.2) hk nou2 (zgf _ _ _ _)⟩,qf3.out.mono fun h => ⟨h.1,zdm (h.2) hk nou2 (zgf _ _ _ _)⟩,qf4.out.mono fun h => ⟨h.1,h.2.1,hj1⟩,fun _ => rfl,fun _ => rfl,fun _ => rfl⟩
 rintro a wm2 ⟨fl2,fl3,fl4,fl5,b3,B3,m3,d3,b4,B4,m4,d4,ad4,hl,HKp,hBi,qf2,qf3,qf4,qd3_2,qd5_3,qd5_4⟩
 have xx2 : fl2 = true:=gdl 2 hl
 subst xx2
 have xx3 : fl3 = true:=gdl 3 hl
 subst xx3
 have xx4 : fl4 = true:=gdl 4 hl
 subst xx4
 have xx5 : fl5 = true:=gdl 5 hl
 subst xx5
 obtain ⟨rv2,hw3⟩:=qf2.out.get
 obtain ⟨rv3,hw4⟩:=qf3.out.get
 obtain ⟨rv4,hg4,hk4⟩:=qf4.out.get
 obtain rfl:=HKp.eq [(8,.agg #[.bool b3,.slice B3 m3 d3]),(9,.agg #[.bool b4,.slice B4 m4 d4]),(5,.pointer (some ⟨ad4,0,none⟩))] rfl (by
  intro p hp
  simp only [List.mem_cons,List.not_mem_nil,or_false] at hp
  rcases hp with rfl | rfl | rfl
  ·exact rv2
  ·exact rv3
  ·exact rv4)
 have hBv:=hBi.out
 clear hl hBi HKp qf2 qf3 qf4 qd3_2 qd5_3 qd5_4 rv2 rv3 rv4
 have hk4 : Blk wm2 ad4 34 #[.bool b4,.slice B4 m4 d4]:=hk4
 rw [show due #[true,true,true,true,true,true] = 0 from rfl]
 simp only [zcf,List.foldl,Act.put,List.setIfInBounds_toArray,List.set_cons_zero,List.set_cons_succ]
 refine wpAnyH_done (by kernel_rfl) ?_ _
 refine NoPanic.normal ?_
 have hB:=zac hB hBv
 have HNp:=lh9 (HNp.out.below hBv)
 have HNq:=lh9 (HNq.out.below hBv)
 have g1:=zad hBv g1
 have e1:=zad hBv e1
 have g2:=zad hBv g2
 have e2:=zad hBv e2
 obtain ⟨ad4_5,hga⟩ : ∃ x,x = ad4:=⟨_,rfl⟩
 subst hga
 obtain ⟨g5,e5⟩:=hk4.c2
 have HN3:=lh9 hw3
 have HN4:=lh9 hw4
 clear hBv hk4 hg4 hw3 hw4 GG
 clear C0 C1
 obtain rfl : b4 = false:=(HN4.out).1.trans (decide_eq_false (by have:=Hh.out; omega))
 have hq4:=h16_pos (HN4.out).2 (by have:=Hh.out; omega)
 have hr4 : ((m4 : Int) == 0) = false:=by rw [beq_eq_false_iff_ne]; omega
 clear hq4
 go_wp2
 go_ret
 exact ⟨by first | rfl | simp,hB⟩
theorem ref7_cmp (x y : Int) (bp bq : Bool) (Bp Bq : oA9) (mp mq dp dq : Nat) (K : Nat) (hKK : K ≤ 16777216) (w : World) (sx : Sz K x.natAbs) (sy : Sz K y.natAbs) (hp : zaE w x bp Bp mp dp) (hq : zaE w y bq Bq mq dq) :
  Calls Tryz.prog 95 #[.agg #[.bool bp,.slice Bp mp dp],.agg #[.bool bq,.slice Bq mq dq]] w (zbh w (zdA x y)):=by
 rcases Int.lt_trichotomy x y with h | h | h
 ·rw [show zdA x y = -1 from if_pos h]
  exact zkA x y bp bq Bp Bq mp mq dp dq K hKK w sx sy hp hq h
 ·rw [(zfD x y).2 h]
  exact zky x y bp bq Bp Bq mp mq dp dq K hKK w sx sy hp hq h
 ·rw [show zdA x y = 1 by unfold zdA; rw [if_neg (by omega),if_neg (by omega)]]
  exact zkz x y bp bq Bp Bq mp mq dp dq K hKK w sx sy hp hq h
end Go.Proofs.YtkiedljcgkoaiaaGreatDoor
