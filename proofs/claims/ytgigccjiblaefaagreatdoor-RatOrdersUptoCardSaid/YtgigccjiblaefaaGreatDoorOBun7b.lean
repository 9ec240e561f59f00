/- What this claim leans on. -/
import Derived.Test.YtgigccjiblaefaaGreatDoorOBun7
import Derived.Test.YtgigccjiblaefaaGreatDoorOBunY
import Derived.Laws.Concat
namespace Go.Proofs.YtgigccjiblaefaaGreatDoor
open Go Go.RowKit
set_option maxHeartbeats 16000000
set_option maxRecDepth 100000
set_option linter.unusedVariables false
set_option linter.unusedSimpArgs false
theorem ziF (w : World) : zat w 0 false none 0 0 := ⟨rfl,zdE w⟩
theorem zdC {w W : World} {g h : Nat} {q r : Int} {t b b' : Bool} {A A' : oA9} {n n' c c' : Nat} (hne : h ≠ g) (hg : w.heap.size ≤ g) (hh : w.heap.size ≤ h) (hkg : Blk W g 29 #[.bool false,.slice none 0 0]) (hkh : Blk W h 29 #[.bool false,.slice none 0 0]) (h1 : zat W q b A n c) (h2 : zat W r b' A' n' c') (hB : Below w.heap.size w W) :
  zfl w q r t (.returned (.tuple #[.agg #[.bool b,.slice A n c],.agg #[.bool b',.slice A' n' c'],.bool t])) ((((W.setCell ⟨g,0,none⟩ (.bool b)).setCell ⟨g,1,none⟩ (.slice A n c)).setCell ⟨h,0,none⟩ (.bool b')).setCell ⟨h,1,none⟩ (.slice A' n' c')) := by
 have hk2 : Blk ((W.setCell ⟨g,0,none⟩ (.bool b)).setCell ⟨g,1,none⟩ (.slice A n c)) h 29 #[.bool false,.slice none 0 0] := Blk.far (p := ⟨g,1,none⟩) (Blk.far (p := ⟨g,0,none⟩) hkh hne (.bool b)) hne (.slice A n c)
 exact ⟨b,A,n,c,b',A',n',c',rfl,zaS (zaS h1 hkg b A n c) hk2 b' A' n' c',zaS (zaS h2 hkg b A n c) hk2 b' A' n' c',zag (p := ⟨h,1,none⟩) _ hh (zag (p := ⟨h,0,none⟩) _ hh (zag (p := ⟨g,1,none⟩) _ hg (zag (p := ⟨g,0,none⟩) _ hg hB)))⟩
theorem zcr {W : World} {g h : Nat} (b b' : Bool) (A A' : oA9) (n n' c c' : Nat) (hne : h ≠ g) (hkg : Blk W g 29 #[.bool false,.slice none 0 0]) (hkh : Blk W h 29 #[.bool false,.slice none 0 0]) :
  (W.cell? ⟨g,0,none⟩ = some (.bool false) ∧ W.frozen? ⟨g,0,none⟩ = false ∧ (W.setCell ⟨g,0,none⟩ (.bool b)).cell? ⟨g,1,none⟩ = some (.slice none 0 0) ∧ (W.setCell ⟨g,0,none⟩ (.bool b)).frozen? ⟨g,1,none⟩ = false) ∧
  (((W.setCell ⟨g,0,none⟩ (.bool b)).setCell ⟨g,1,none⟩ (.slice A n c)).cell? ⟨h,0,none⟩ = some (.bool false) ∧ ((W.setCell ⟨g,0,none⟩ (.bool b)).setCell ⟨g,1,none⟩ (.slice A n c)).frozen? ⟨h,0,none⟩ = false ∧ (((W.setCell ⟨g,0,none⟩ (.bool b)).setCell ⟨g,1,none⟩ (.slice A n c)).setCell ⟨h,0,none⟩ (.bool b')).cell? ⟨h,1,none⟩ = some (.slice none 0 0) ∧ (((W.setCell ⟨g,0,none⟩ (.bool b)).setCell ⟨g,1,none⟩ (.slice A n c)).setCell ⟨h,0,none⟩ (.bool b')).frozen? ⟨h,1,none⟩ = false) ∧
  ((((W.setCell ⟨g,0,none⟩ (.bool b)).setCell ⟨g,1,none⟩ (.slice A n c)).setCell ⟨h,0,none⟩ (.bool b')).setCell ⟨h,1,none⟩ (.slice A' n' c')).cell? ⟨g,0,none⟩ = some (.bool b) ∧ ((((W.setCell ⟨g,0,none⟩ (.bool b)).setCell ⟨g,1,none⟩ (.slice A n c)).setCell ⟨h,0,none⟩ (.bool b')).setCell ⟨h,1,none⟩ (.slice A' n' c')).cell? ⟨g,1,none⟩ = some (.slice A n c) ∧ ((((W.setCell ⟨g,0,none⟩ (.bool b)).setCell ⟨g,1,none⟩ (.slice A n c)).setCell ⟨h,0,none⟩ (.bool b')).setCell ⟨h,1,none⟩ (.slice A' n' c')).cell? ⟨h,0,none⟩ = some (.bool b') ∧ ((((W.setCell ⟨g,0,none⟩ (.bool b)).setCell ⟨g,1,none⟩ (.slice A n c)).setCell ⟨h,0,none⟩ (.bool b')).setCell ⟨h,1,none⟩ (.slice A' n' c')).cell? ⟨h,1,none⟩ = some (.slice A' n' c') := by
 have a1 := hkg.set_ 0 (.bool b)
 have a2 := a1.set_ 1 (.slice A n c)
 have k2 : Blk ((W.setCell ⟨g,0,none⟩ (.bool b)).setCell ⟨g,1,none⟩ (.slice A n c)) h 29 #[.bool false,.slice none 0 0] := Blk.far (p := ⟨g,1,none⟩) (Blk.far (p := ⟨g,0,none⟩) hkh hne (.bool b)) hne (.slice A n c)
 have k3 := k2.set_ 0 (.bool b')
 have k4 := k3.set_ 1 (.slice A' n' c')
 have a4 := Blk.far (p := ⟨h,1,none⟩) (Blk.far (p := ⟨h,0,none⟩) a2 (Ne.symm hne) (.bool b')) (Ne.symm hne) (.slice A' n' c')
 exact ⟨⟨hkg.cell 0,hkg.frozen 0,a1.cell 1,a1.frozen 1⟩,⟨k2.cell 0,k2.frozen 0,k3.cell 1,k3.frozen 1⟩,a4.cell 0,a4.cell 1,k4.cell 0,k4.cell 1⟩
theorem zfV (x y : Int) (b b' : Bool) (A D : oA9) (n m c d : Nat) (w : World) (hA : zat w x b A n c) (hD : zat w y b' D m d) (hn : n ≤ 274877906944) (hm : m ≤ 274877906944) (hy : y = 0) :
  Calls Tryz.prog 82 #[.agg #[.bool b,.slice A n c],.agg #[.bool b',.slice D m d]] w (zfl w 0 0 false) := by
 have HDM := lh9 (fun w' (h : Below w.heap.size w w') => zcR x.natAbs y.natAbs A D n m c d w' (hA.2.below h) (hD.2.below h) (by omega))
 have HNQ : Hid (∀ k,(dg 18446744073709551616 0).length = k → k ≤ 274877906944) := fun k e => by rw [← e,zbT]; exact Nat.zero_le _
 clear hA hD hy
 obtain ⟨hB,b2,b3,k4,k5,b6⟩ := box4 w 29 29 29 29 #[.bool b,.slice A n c] #[.bool b',.slice D m d] #[.bool false,.slice none 0 0] #[.bool false,.slice none 0 0]
 go_enter Tryz.func82,Tryz.ntmps82
 go_wp2_with fail
 generalize (((w.alloc (.cells #[.bool b,.slice A n c] 29)).alloc (.cells #[.bool b',.slice D m d] 29)).alloc (.cells #[.bool false,.slice none 0 0] 29)).alloc (.cells #[.bool false,.slice none 0 0] 29) = W0 at *
 have g0 : W0.cell? ⟨w.heap.size,0,none⟩ = some (.bool b) := b2.cell 0
 have g2 : W0.cell? ⟨w.heap.size + 1,0,none⟩ = some (.bool b') := b3.cell 0
 have g3 : W0.cell? ⟨w.heap.size + 1,1,none⟩ = some (.slice D m d) := b3.cell 1
 clear b2 b3 b6
 refine (HDM.out _ hB).mono ?_
 rintro e w1 ⟨Aq,nq,cq,Ar,nr,cr,rfl,hwq,hwr,hb⟩
 have hB := zad hB hb
 have k4 := zae hb k4
 have k5 := zae hb k5
 have g0 := zac hb g0
 have g2 := zac hb g2
 have g3 := zac hb g3
 have hlq := HNQ.out _ hwq.len
 have hp1 := hB.size
 have hz1 := k5.lt
 clear hb HDM
 obtain ⟨d1,dq,dr,d5⟩ := zaT w1 27 27 #[.slice Aq nq cq] #[.slice Ar nr cr]
 have hB := zad hB d1
 have k4 := zae d1 k4
 have k5 := zae d1 k5
 have g0 := zac d1 g0
 have g2 := zac d1 g2
 have g3 := zac d1 g3
 have hwq := hwq.below d1
 have hwr := hwr.below d1
 have gq : ((w1.alloc (.cells #[.slice Aq nq cq] 27)).alloc (.cells #[.slice Ar nr cr] 27)).cell? ⟨w1.heap.size,0,none⟩ = some (.slice Aq nq cq) := dq.cell 0
 have gr : ((w1.alloc (.cells #[.slice Aq nq cq] 27)).alloc (.cells #[.slice Ar nr cr] 27)).cell? ⟨w1.heap.size + 1,0,none⟩ = some (.slice Ar nr cr) := dr.cell 0
 clear d1 d5
 clear gq gr dq dr hwq hwr
 obtain ⟨⟨c0,f0,c1,f1⟩,⟨c2,f2,c3,f3⟩,r0,r1,r2,r3⟩ := zcr false false none none 0 0 0 0  (show w.heap.size + 1 + 1 + 1 ≠ w.heap.size + 1 + 1 by omega) k4 k5
 have HG := lh9 (zdC (w := w) (t := false) (show w.heap.size + 1 + 1 + 1 ≠ w.heap.size + 1 + 1 by omega) (by omega) (by omega) k4 k5 (ziF _) (ziF _) hB)
 clear k4 k5 hB g0 g2 g3
 go_wp2
 refine bodyPost_ret (v := .tuple #[.agg #[.bool false,.slice none 0 0],.agg #[.bool false,.slice none 0 0],.bool false]) (by simp [results,Tryz.results82,go_sem,r0,r1,r2,r3]) rfl ?_
 exact HG.out
theorem div_same {x y : Int} {b : Bool} {X Y : Nat} (hx : zaE b X = x) (hy : zaE b Y = y) (h0 : Y ≠ 0) : qI x y = zaE false (X / Y) ∧ rI x y = zaE b (X % Y) := by
 have hdm := Nat.div_add_mod X Y
 have hlt := Nat.mod_lt X (Nat.pos_of_ne_zero h0)
 have hY : y ≠ 0 := by subst hy; unfold zaE; split <;> omega
 have h := zdD (x := x) (y := y) (q := zaE false (X / Y)) (r := zaE b (X % Y)) hY (by
  subst hx; subst hy
  have e : ((X / Y : Nat) : Int) * (Y : Int) + ((X % Y : Nat) : Int) = (X : Int) := by
   have h1 := congrArg (fun k : Nat => (k : Int)) hdm
   simp only [Int.natCast_add,Int.natCast_mul] at h1
   rw [Int.mul_comm]; exact h1
  generalize X / Y = u at *
  generalize X % Y = v at *
  unfold zaE
  cases b
  ·simpa using e
  ·simp only [if_true,Bool.false_eq_true,if_false,Int.mul_neg]; omega) (by
  subst hy
  generalize X % Y = v at *
  unfold zaE
  cases b <;> simp <;> omega) (by rw [zbz]; subst hy; rw [zbz]; exact hlt)
 exact ⟨h.1.symm,h.2.symm⟩
theorem zlo {x y : Int} {b b' : Bool} {X Y : Nat} (hb : b ≠ b') (hx : zaE b X = x) (hy : zaE b' Y = y) (h0 : Y ≠ 0) (hr : X % Y = 0) : qI x y = zaE true (X / Y) ∧ rI x y = zaE b' (X % Y) := by
 have hdm := Nat.div_add_mod X Y
 have hY : y ≠ 0 := by subst hy; unfold zaE; split <;> omega
 have h := zdD (x := x) (y := y) (q := zaE true (X / Y)) (r := zaE b' (X % Y)) hY (by
  subst hx; subst hy
  rw [hr] at hdm ⊢
  have e : ((X / Y : Nat) : Int) * (Y : Int) = (X : Int) := by
   have h1 := congrArg (fun k : Nat => (k : Int)) hdm
   simp only [Int.natCast_add,Int.natCast_mul] at h1
   rw [Int.mul_comm]; simpa using h1
  generalize X / Y = u at *
  unfold zaE
  cases b <;> cases b'
  ·exact absurd rfl hb
  ·simp only [if_true,Bool.false_eq_true,if_false,Int.neg_mul_neg]; omega
  ·simp only [if_true,Bool.false_eq_true,if_false,Int.neg_mul]; omega
  ·exact absurd rfl hb) (by rw [hr]; unfold zaE; left; split <;> rfl) (by rw [zbz,hr]; subst hy; rw [zbz]; omega)
 exact ⟨h.1.symm,h.2.symm⟩
theorem div_more {x y : Int} {b b' : Bool} {X Y : Nat} (hb : b ≠ b') (hx : zaE b X = x) (hy : zaE b' Y = y) (h0 : Y ≠ 0) (hr : X % Y ≠ 0) : qI x y = zaE true (X / Y + 1) ∧ rI x y = zaE b' (Y - X % Y) := by
 have hdm := Nat.div_add_mod X Y
 have hlt := Nat.mod_lt X (Nat.pos_of_ne_zero h0)
 have hY : y ≠ 0 := by subst hy; unfold zaE; split <;> omega
 have h := zdD (x := x) (y := y) (q := zaE true (X / Y + 1)) (r := zaE b' (Y - X % Y)) hY (by
  subst hx; subst hy
  have e : ((X / Y : Nat) : Int) * (Y : Int) + ((X % Y : Nat) : Int) = (X : Int) := by
   have h1 := congrArg (fun k : Nat => (k : Int)) hdm
   simp only [Int.natCast_add,Int.natCast_mul] at h1
   rw [Int.mul_comm]; exact h1
  generalize X / Y = u at *
  generalize X % Y = v at *
  have e2 : ((u + 1 : Nat) : Int) * (Y : Int) = (u : Int) * (Y : Int) + Y := by rw [Int.natCast_add,Int.add_mul]; simp
  unfold zaE
  cases b <;> cases b'
  ·exact absurd rfl hb
  ·simp only [if_true,Bool.false_eq_true,if_false,Int.neg_mul_neg]; omega
  ·simp only [if_true,Bool.false_eq_true,if_false,Int.neg_mul]; omega
  ·exact absurd rfl hb) (by
  subst hy
  generalize X % Y = v at *
  unfold zaE
  cases b' <;> simp <;> omega) (by rw [zbz]; subst hy; rw [zbz]; omega)
 exact ⟨h.1.symm,h.2.symm⟩
theorem ziW (x y : Int) (b b' : Bool) (A D : oA9) (n m c d : Nat) (w : World) (hA : zat w x b A n c) (hD : zat w y b' D m d) (hn : n ≤ 274877906944) (hm : m ≤ 274877906944) (hy : y ≠ 0) :
  Calls Tryz.prog 82 #[.agg #[.bool b,.slice A n c],.agg #[.bool b',.slice D m d]] w (zfl w (qI x y) (rI x y) true) := by
 have hx1 := zdc x
 have hy1 := zdc y
 rw [← hA.1] at hx1
 rw [← hD.1] at hy1
 have HDM := lh9 (fun w' (h : Below w.heap.size w w') => zcx x.natAbs y.natAbs A D n m c d w' (hA.2.below h) (hD.2.below h) hn hm (by omega))
 have HD := lh9 (fun w' (h : Below w.heap.size w w') => hD.2.below h)
 have HNQ : Hid (∀ k,(dg 18446744073709551616 (x.natAbs / y.natAbs)).length = k → k ≤ 274877906944) := fun k e => by
  have h1 := zaR (b := 18446744073709551616) (by decide) (Nat.div_le_self x.natAbs y.natAbs)
  have h2 := hA.2.len
  omega
 have HNR : Hid (∀ k,(dg 18446744073709551616 (x.natAbs % y.natAbs)).length = k → k ≤ 274877906944) := fun k e => by
  have h1 := zaR (b := 18446744073709551616) (by decide) (Nat.mod_le x.natAbs y.natAbs)
  have h2 := hA.2.len
  omega
 have h0 : y.natAbs ≠ 0 := by omega
 obtain ⟨X,hX⟩ : ∃ X,x.natAbs = X := ⟨_,rfl⟩
 obtain ⟨Y,hY⟩ : ∃ Y,y.natAbs = Y := ⟨_,rfl⟩
 rw [hX] at HDM HNQ HNR hx1
 rw [hY] at HDM HNQ HNR hy1 HD h0
 have HRL : Hid (X % Y < Y) := Nat.mod_lt X (Nat.pos_of_ne_zero h0)
 have HO1 : Hid (∀ w' r,Blk w' r 78 #[.int .u64 1] → Calls Tryz.prog 61 #[.slice (some ⟨r,0,none⟩) 1 1] w' (zaL w' 1)) := fun w' r hk => zfL _ [1] w' r 1 1 hk rfl rfl (dgs1 1 (by decide)) rfl (by decide)
 have hbd := hD.1
 clear hA hX hY
 by_cases hbs : b = b'
 ·subst hbs
  have HE := lh9 (div_same hx1 hy1 h0)
  clear hx1 hy1 h0 hbd
  cases b
  ·skip
   obtain ⟨hB,b2,b3,k4,k5,b6⟩ := box4 w 29 29 29 29 #[.bool false,.slice A n c] #[.bool false,.slice D m d] #[.bool false,.slice none 0 0] #[.bool false,.slice none 0 0]
   go_enter Tryz.func82,Tryz.ntmps82
   go_wp2_with fail
   generalize (((w.alloc (.cells #[.bool false,.slice A n c] 29)).alloc (.cells #[.bool false,.slice D m d] 29)).alloc (.cells #[.bool false,.slice none 0 0] 29)).alloc (.cells #[.bool false,.slice none 0 0] 29) = W0 at *
   have g0 : W0.cell? ⟨w.heap.size,0,none⟩ = some (.bool false) := b2.cell 0
   have g2 : W0.cell? ⟨w.heap.size + 1,0,none⟩ = some (.bool false) := b3.cell 0
   have g3 : W0.cell? ⟨w.heap.size + 1,1,none⟩ = some (.slice D m d) := b3.cell 1
   clear b2 b3 b6
   refine (HDM.out _ hB).mono ?_
   rintro e w1 ⟨Aq,nq,cq,Ar,nr,cr,rfl,hwq,hwr,hb⟩
   have hB := zad hB hb
   have k4 := zae hb k4
   have k5 := zae hb k5
   have g0 := zac hb g0
   have g2 := zac hb g2
   have g3 := zac hb g3
   have hlq := HNQ.out _ hwq.len
   have hp1 := hB.size
   have hz1 := k5.lt
   clear hb HDM
   obtain ⟨d1,dq,dr,d5⟩ := zaT w1 27 27 #[.slice Aq nq cq] #[.slice Ar nr cr]
   have hB := zad hB d1
   have k4 := zae d1 k4
   have k5 := zae d1 k5
   have g0 := zac d1 g0
   have g2 := zac d1 g2
   have g3 := zac d1 g3
   have hwq := hwq.below d1
   have hwr := hwr.below d1
   have gq : ((w1.alloc (.cells #[.slice Aq nq cq] 27)).alloc (.cells #[.slice Ar nr cr] 27)).cell? ⟨w1.heap.size,0,none⟩ = some (.slice Aq nq cq) := dq.cell 0
   have gr : ((w1.alloc (.cells #[.slice Aq nq cq] 27)).alloc (.cells #[.slice Ar nr cr] 27)).cell? ⟨w1.heap.size + 1,0,none⟩ = some (.slice Ar nr cr) := dr.cell 0
   clear d1 d5
   clear dq dr g3 HO1 HRL HD HNQ HNR
   go_wp2_with fail
   clear g0
   generalize (w1.alloc (.cells #[.slice Aq nq cq] 27)).alloc (.cells #[.slice Ar nr cr] 27) = W1 at *
   generalize w1.heap.size = p at *
   have hs4 : w.heap.size + 1 + 1 < W1.heap.size := k4.lt
   have hs5 : w.heap.size + 1 + 1 + 1 < W1.heap.size := k5.lt
   have HQS := lh9 (fun w' A n c (h : zah w' (X / Y) A n c) => zax false (X / Y) A n c w' h)
   have HRS := lh9 (fun w' A n c (h : zah w' (X % Y) A n c) => zax false (X % Y) A n c w' h)
   have HQ1 := lh9 (HQS.out W1.drew _ _ _ hwq)
   have HRW : zah W1.drew (X % Y) _ _ _ := hwr
   clear HQS
   have hb0 : Below w.heap.size w W1.drew := hB.drew
   have j0 : W1.drew.cell? ⟨p,0,none⟩ = _ := gq
   have j1 : W1.drew.cell? ⟨p + 1,0,none⟩ = _ := gr
   have j2 : W1.drew.cell? ⟨w.heap.size + 1,0,none⟩ = _ := g2
   have hk40 := k4.drew
   have hk50 := k5.drew
   have hne : w.heap.size + 1 + 1 + 1 ≠ w.heap.size + 1 + 1 := by omega
   go_region_held3 (fun w' => Below w.heap.size w w' ∧ w'.cell? ⟨p,0,none⟩ = some (.slice Aq nq cq) ∧ w'.cell? ⟨p + 1,0,none⟩ = some (.slice Ar nr cr) ∧ w'.cell? ⟨w.heap.size + 1,0,none⟩ = some (.bool false))
    (first | (exact ⟨hb0,j0,j1,j2⟩) | (go_split_ands; (repeat' apply And.intro); all_goals (first | with_reducible assumption | with_reducible exact zad (by with_reducible assumption) hb | with_reducible exact zac hb (by with_reducible assumption) | exact zag _ (by dsimp only; omega) (zag _ (by dsimp only; omega) (by with_reducible assumption)) | exact zaf _ (by dsimp only; omega) (zaf _ (by dsimp only; omega) (by with_reducible assumption)))))
    (first
      | (go_at_call 92; (with_reducible refine HQ1.out.mono ?_); rintro e w6 ⟨b3,A3,n3,c3,rfl,hi3,hb⟩; have HRW := HRW.below hb; have hk41 := zae hb hk40; have hk51 := zae hb hk50)
      | (go_at_call 92; (with_reducible refine (HRS.out _ _ _ _ HRW).mono ?_); rintro e w7 ⟨b5,A5,n5,c5,rfl,hi5,hb⟩; go_split_ands; have hi3 := hi3.below hb; have hk42 := zae hb hk41; have hk52 := zae hb hk51; have hbb : Below w.heap.size w w7 := zad (by with_reducible assumption) hb; obtain ⟨⟨u0,v0,u1,v1⟩,⟨u2,v2,u3,v3⟩,r0,r1,r2,r3⟩ := zcr b3 b5 A3 A5 n3 n5 c3 c5 hne hk42 hk52))
   have HG := lh9 (zdC (w := w) (t := true) hne (by omega) (by omega) hk42 hk52 hi3 hi5 hbb)
   rw [← HE.out.1,← HE.out.2] at HG
   clear hk42 hk52 hi3 hi5 hbb hb hk41 hk51 hk40 hk50 hb0 HQ1 HRS HRW j0 j1 j2 gq gr g2 k4 k5 hB HE
   go_wp2
   refine bodyPost_ret (v := .tuple #[.agg #[.bool b3,.slice A3 n3 c3],.agg #[.bool b5,.slice A5 n5 c5],.bool true]) (by simp [results,Tryz.results82,go_sem,r0,r1,r2,r3]) rfl ?_
   exact HG.out
  ·skip
   obtain ⟨hB,b2,b3,k4,k5,b6⟩ := box4 w 29 29 29 29 #[.bool true,.slice A n c] #[.bool true,.slice D m d] #[.bool false,.slice none 0 0] #[.bool false,.slice none 0 0]
   go_enter Tryz.func82,Tryz.ntmps82
   go_wp2_with fail
   generalize (((w.alloc (.cells #[.bool true,.slice A n c] 29)).alloc (.cells #[.bool true,.slice D m d] 29)).alloc (.cells #[.bool false,.slice none 0 0] 29)).alloc (.cells #[.bool false,.slice none 0 0] 29) = W0 at *
   have g0 : W0.cell? ⟨w.heap.size,0,none⟩ = some (.bool true) := b2.cell 0
   have g2 : W0.cell? ⟨w.heap.size + 1,0,none⟩ = some (.bool true) := b3.cell 0
   have g3 : W0.cell? ⟨w.heap.size + 1,1,none⟩ = some (.slice D m d) := b3.cell 1
   clear b2 b3 b6
   refine (HDM.out _ hB).mono ?_
   rintro e w1 ⟨Aq,nq,cq,Ar,nr,cr,rfl,hwq,hwr,hb⟩
   have hB := zad hB hb
   have k4 := zae hb k4
   have k5 := zae hb k5
   have g0 := zac hb g0
   have g2 := zac hb g2
   have g3 := zac hb g3
   have hlq := HNQ.out _ hwq.len
   have hp1 := hB.size
   have hz1 := k5.lt
   clear hb HDM
   obtain ⟨d1,dq,dr,d5⟩ := zaT w1 27 27 #[.slice Aq nq cq] #[.slice Ar nr cr]
   have hB := zad hB d1
   have k4 := zae d1 k4
   have k5 := zae d1 k5
   have g0 := zac d1 g0
   have g2 := zac d1 g2
   have g3 := zac d1 g3
   have hwq := hwq.below d1
   have hwr := hwr.below d1
   have gq : ((w1.alloc (.cells #[.slice Aq nq cq] 27)).alloc (.cells #[.slice Ar nr cr] 27)).cell? ⟨w1.heap.size,0,none⟩ = some (.slice Aq nq cq) := dq.cell 0
   have gr : ((w1.alloc (.cells #[.slice Aq nq cq] 27)).alloc (.cells #[.slice Ar nr cr] 27)).cell? ⟨w1.heap.size + 1,0,none⟩ = some (.slice Ar nr cr) := dr.cell 0
   clear d1 d5
   clear dq dr g3 HO1 HRL HD HNQ HNR
   go_wp2_with fail
   clear g0
   generalize (w1.alloc (.cells #[.slice Aq nq cq] 27)).alloc (.cells #[.slice Ar nr cr] 27) = W1 at *
   generalize w1.heap.size = p at *
   have hs4 : w.heap.size + 1 + 1 < W1.heap.size := k4.lt
   have hs5 : w.heap.size + 1 + 1 + 1 < W1.heap.size := k5.lt
   have HQS := lh9 (fun w' A n c (h : zah w' (X / Y) A n c) => zax false (X / Y) A n c w' h)
   have HRS := lh9 (fun w' A n c (h : zah w' (X % Y) A n c) => zax true (X % Y) A n c w' h)
   have HQ1 := lh9 (HQS.out W1.drew _ _ _ hwq)
   have HRW : zah W1.drew (X % Y) _ _ _ := hwr
   clear HQS
   have hb0 : Below w.heap.size w W1.drew := hB.drew
   have j0 : W1.drew.cell? ⟨p,0,none⟩ = _ := gq
   have j1 : W1.drew.cell? ⟨p + 1,0,none⟩ = _ := gr
   have j2 : W1.drew.cell? ⟨w.heap.size + 1,0,none⟩ = _ := g2
   have hk40 := k4.drew
   have hk50 := k5.drew
   have hne : w.heap.size + 1 + 1 + 1 ≠ w.heap.size + 1 + 1 := by omega
   go_region_held3 (fun w' => Below w.heap.size w w' ∧ w'.cell? ⟨p,0,none⟩ = some (.slice Aq nq cq) ∧ w'.cell? ⟨p + 1,0,none⟩ = some (.slice Ar nr cr) ∧ w'.cell? ⟨w.heap.size + 1,0,none⟩ = some (.bool true))
    (first | (exact ⟨hb0,j0,j1,j2⟩) | (go_split_ands; (repeat' apply And.intro); all_goals (first | with_reducible assumption | with_reducible exact zad (by with_reducible assumption) hb | with_reducible exact zac hb (by with_reducible assumption) | exact zag _ (by dsimp only; omega) (zag _ (by dsimp only; omega) (by with_reducible assumption)) | exact zaf _ (by dsimp only; omega) (zaf _ (by dsimp only; omega) (by with_reducible assumption)))))
    (first
      | (go_at_call 92; (with_reducible refine HQ1.out.mono ?_); rintro e w6 ⟨b3,A3,n3,c3,rfl,hi3,hb⟩; have HRW := HRW.below hb; have hk41 := zae hb hk40; have hk51 := zae hb hk50)
      | (go_at_call 92; (with_reducible refine (HRS.out _ _ _ _ HRW).mono ?_); rintro e w7 ⟨b5,A5,n5,c5,rfl,hi5,hb⟩; go_split_ands; have hi3 := hi3.below hb; have hk42 := zae hb hk41; have hk52 := zae hb hk51; have hbb : Below w.heap.size w w7 := zad (by with_reducible assumption) hb; obtain ⟨⟨u0,v0,u1,v1⟩,⟨u2,v2,u3,v3⟩,r0,r1,r2,r3⟩ := zcr b3 b5 A3 A5 n3 n5 c3 c5 hne hk42 hk52))
   have HG := lh9 (zdC (w := w) (t := true) hne (by omega) (by omega) hk42 hk52 hi3 hi5 hbb)
   rw [← HE.out.1,← HE.out.2] at HG
   clear hk42 hk52 hi3 hi5 hbb hb hk41 hk51 hk40 hk50 hb0 HQ1 HRS HRW j0 j1 j2 gq gr g2 k4 k5 hB HE
   go_wp2
   refine bodyPost_ret (v := .tuple #[.agg #[.bool b3,.slice A3 n3 c3],.agg #[.bool b5,.slice A5 n5 c5],.bool true]) (by simp [results,Tryz.results82,go_sem,r0,r1,r2,r3]) rfl ?_
   exact HG.out
 ·have hbv : (b = false ∧ b' = true) ∨ (b = true ∧ b' = false) := by cases b <;> cases b' <;> simp at hbs ⊢
  by_cases hr0 : X % Y = 0
  ·have HE := lh9 (zlo hbs hx1 hy1 h0 hr0)
   clear hx1 hy1 h0 hbd hbs
   rcases hbv with ⟨rfl,rfl⟩ | ⟨rfl,rfl⟩
   ·skip
    obtain ⟨hB,b2,b3,k4,k5,b6⟩ := box4 w 29 29 29 29 #[.bool false,.slice A n c] #[.bool true,.slice D m d] #[.bool false,.slice none 0 0] #[.bool false,.slice none 0 0]
    go_enter Tryz.func82,Tryz.ntmps82
    go_wp2_with fail
    generalize (((w.alloc (.cells #[.bool false,.slice A n c] 29)).alloc (.cells #[.bool true,.slice D m d] 29)).alloc (.cells #[.bool false,.slice none 0 0] 29)).alloc (.cells #[.bool false,.slice none 0 0] 29) = W0 at *
    have g0 : W0.cell? ⟨w.heap.size,0,none⟩ = some (.bool false) := b2.cell 0
    have g2 : W0.cell? ⟨w.heap.size + 1,0,none⟩ = some (.bool true) := b3.cell 0
    have g3 : W0.cell? ⟨w.heap.size + 1,1,none⟩ = some (.slice D m d) := b3.cell 1
    clear b2 b3 b6
    refine (HDM.out _ hB).mono ?_
    rintro e w1 ⟨Aq,nq,cq,Ar,nr,cr,rfl,hwq,hwr,hb⟩
    have hB := zad hB hb
    have k4 := zae hb k4
    have k5 := zae hb k5
    have g0 := zac hb g0
    have g2 := zac hb g2
    have g3 := zac hb g3
    have hlq := HNQ.out _ hwq.len
    have hp1 := hB.size
    have hz1 := k5.lt
    clear hb HDM
    obtain ⟨d1,dq,dr,d5⟩ := zaT w1 27 27 #[.slice Aq nq cq] #[.slice Ar nr cr]
    have hB := zad hB d1
    have k4 := zae d1 k4
    have k5 := zae d1 k5
    have g0 := zac d1 g0
    have g2 := zac d1 g2
    have g3 := zac d1 g3
    have hwq := hwq.below d1
    have hwr := hwr.below d1
    have gq : ((w1.alloc (.cells #[.slice Aq nq cq] 27)).alloc (.cells #[.slice Ar nr cr] 27)).cell? ⟨w1.heap.size,0,none⟩ = some (.slice Aq nq cq) := dq.cell 0
    have gr : ((w1.alloc (.cells #[.slice Aq nq cq] 27)).alloc (.cells #[.slice Ar nr cr] 27)).cell? ⟨w1.heap.size + 1,0,none⟩ = some (.slice Ar nr cr) := dr.cell 0
    clear d1 d5
    have HZ := lh9 (zbR hr0 hwr)
    go_wp2_with fail
    refine HZ.out.mono ?_
    rintro e w2 ⟨rfl,hb⟩
    have hB := zad hB hb
    have k4 := zae hb k4
    have k5 := zae hb k5
    have g2 := zac hb g2
    have g3 := zac hb g3
    have gq := zac hb gq
    have gr := zac hb gr
    have dq := zae hb dq
    have dr := zae hb dr
    have hwq := hwq.below hb
    have hwr := hwr.below hb
    clear hb HZ g0
    generalize w1.heap.size = p at *
    clear dq dr g3 HO1 HRL HD HNQ HNR hr0
    go_wp2_with fail
    have hs4 : w.heap.size + 1 + 1 < w2.heap.size := k4.lt
    have hs5 : w.heap.size + 1 + 1 + 1 < w2.heap.size := k5.lt
    obtain ⟨W1,hW1⟩ : ∃ x,x = w2 := ⟨_,rfl⟩
    subst hW1
    have HQS := lh9 (fun w' A n c (h : zah w' (X / Y) A n c) => zax true (X / Y) A n c w' h)
    have HRS := lh9 (fun w' A n c (h : zah w' (X % Y) A n c) => zax true (X % Y) A n c w' h)
    have HQ1 := lh9 (HQS.out W1.drew _ _ _ hwq)
    have HRW : zah W1.drew (X % Y) _ _ _ := hwr
    clear HQS
    have hb0 : Below w.heap.size w W1.drew := hB.drew
    have j0 : W1.drew.cell? ⟨p,0,none⟩ = _ := gq
    have j1 : W1.drew.cell? ⟨p + 1,0,none⟩ = _ := gr
    have j2 : W1.drew.cell? ⟨w.heap.size + 1,0,none⟩ = _ := g2
    have hk40 := k4.drew
    have hk50 := k5.drew
    have hne : w.heap.size + 1 + 1 + 1 ≠ w.heap.size + 1 + 1 := by omega
    go_region_held3 (fun w' => Below w.heap.size w w' ∧ w'.cell? ⟨p,0,none⟩ = some (.slice Aq nq cq) ∧ w'.cell? ⟨p + 1,0,none⟩ = some (.slice Ar nr cr) ∧ w'.cell? ⟨w.heap.size + 1,0,none⟩ = some (.bool true))
     (first | (exact ⟨hb0,j0,j1,j2⟩) | (go_split_ands; (repeat' apply And.intro); all_goals (first | with_reducible assumption | with_reducible exact zad (by with_reducible assumption) hb | with_reducible exact zac hb (by with_reducible assumption) | exact zag _ (by dsimp only; omega) (zag _ (by dsimp only; omega) (by with_reducible assumption)) | exact zaf _ (by dsimp only; omega) (zaf _ (by dsimp only; omega) (by with_reducible assumption)))))
     (first
       | (go_at_call 92; (with_reducible refine HQ1.out.mono ?_); rintro e w6 ⟨b3,A3,n3,c3,rfl,hi3,hb⟩; have HRW := HRW.below hb; have hk41 := zae hb hk40; have hk51 := zae hb hk50)
       | (go_at_call 92; (with_reducible refine (HRS.out _ _ _ _ HRW).mono ?_); rintro e w7 ⟨b5,A5,n5,c5,rfl,hi5,hb⟩; go_split_ands; have hi3 := hi3.below hb; have hk42 := zae hb hk41; have hk52 := zae hb hk51; have hbb : Below w.heap.size w w7 := zad (by with_reducible assumption) hb; obtain ⟨⟨u0,v0,u1,v1⟩,⟨u2,v2,u3,v3⟩,r0,r1,r2,r3⟩ := zcr b3 b5 A3 A5 n3 n5 c3 c5 hne hk42 hk52))
    have HG := lh9 (zdC (w := w) (t := true) hne (by omega) (by omega) hk42 hk52 hi3 hi5 hbb)
    rw [← HE.out.1,← HE.out.2] at HG
    clear hk42 hk52 hi3 hi5 hbb hb hk41 hk51 hk40 hk50 hb0 HQ1 HRS HRW j0 j1 j2 gq gr g2 k4 k5 hB HE
    go_wp2
    refine bodyPost_ret (v := .tuple #[.agg #[.bool b3,.slice A3 n3 c3],.agg #[.bool b5,.slice A5 n5 c5],.bool true]) (by simp [results,Tryz.results82,go_sem,r0,r1,r2,r3]) rfl ?_
    exact HG.out
   ·skip
    obtain ⟨hB,b2,b3,k4,k5,b6⟩ := box4 w 29 29 29 29 #[.bool true,.slice A n c] #[.bool false,.slice D m d] #[.bool false,.slice none 0 0] #[.bool false,.slice none 0 0]
    go_enter Tryz.func82,Tryz.ntmps82
    go_wp2_with fail
    generalize (((w.alloc (.cells #[.bool true,.slice A n c] 29)).alloc (.cells #[.bool false,.slice D m d] 29)).alloc (.cells #[.bool false,.slice none 0 0] 29)).alloc (.cells #[.bool false,.slice none 0 0] 29) = W0 at *
    have g0 : W0.cell? ⟨w.heap.size,0,none⟩ = some (.bool true) := b2.cell 0
    have g2 : W0.cell? ⟨w.heap.size + 1,0,none⟩ = some (.bool false) := b3.cell 0
    have g3 : W0.cell? ⟨w.heap.size + 1,1,none⟩ = some (.slice D m d) := b3.cell 1
    clear b2 b3 b6
    refine (HDM.out _ hB).mono ?_
    rintro e w1 ⟨Aq,nq,cq,Ar,nr,cr,rfl,hwq,hwr,hb⟩
    have hB := zad hB hb
    have k4 := zae hb k4
    have k5 := zae hb k5
    have g0 := zac hb g0
    have g2 := zac hb g2
    have g3 := zac hb g3
    have hlq := HNQ.out _ hwq.len
    have hp1 := hB.size
    have hz1 := k5.lt
    clear hb HDM
    obtain ⟨d1,dq,dr,d5⟩ := zaT w1 27 27 #[.slice Aq nq cq] #[.slice Ar nr cr]
    have hB := zad hB d1
    have k4 := zae d1 k4
    have k5 := zae d1 k5
    have g0 := zac d1 g0
    have g2 := zac d1 g2
    have g3 := zac d1 g3
    have hwq := hwq.below d1
    have hwr := hwr.below d1
    have gq : ((w1.alloc (.cells #[.slice Aq nq cq] 27)).alloc (.cells #[.slice Ar nr cr] 27)).cell? ⟨w1.heap.size,0,none⟩ = some (.slice Aq nq cq) := dq.cell 0
    have gr : ((w1.alloc (.cells #[.slice Aq nq cq] 27)).alloc (.cells #[.slice Ar nr cr] 27)).cell? ⟨w1.heap.size + 1,0,none⟩ = some (.slice Ar nr cr) := dr.cell 0
    clear d1 d5
    have HZ := lh9 (zbR hr0 hwr)
    go_wp2_with fail
    refine HZ.out.mono ?_
    rintro e w2 ⟨rfl,hb⟩
    have hB := zad hB hb
    have k4 := zae hb k4
    have k5 := zae hb k5
    have g2 := zac hb g2
    have g3 := zac hb g3
    have gq := zac hb gq
    have gr := zac hb gr
    have dq := zae hb dq
    have dr := zae hb dr
    have hwq := hwq.below hb
    have hwr := hwr.below hb
    clear hb HZ g0
    generalize w1.heap.size = p at *
    clear dq dr g3 HO1 HRL HD HNQ HNR hr0
    go_wp2_with fail
    have hs4 : w.heap.size + 1 + 1 < w2.heap.size := k4.lt
    have hs5 : w.heap.size + 1 + 1 + 1 < w2.heap.size := k5.lt
    obtain ⟨W1,hW1⟩ : ∃ x,x = w2 := ⟨_,rfl⟩
    subst hW1
    have HQS := lh9 (fun w' A n c (h : zah w' (X / Y) A n c) => zax true (X / Y) A n c w' h)
    have HRS := lh9 (fun w' A n c (h : zah w' (X % Y) A n c) => zax false (X % Y) A n c w' h)
    have HQ1 := lh9 (HQS.out W1.drew _ _ _ hwq)
    have HRW : zah W1.drew (X % Y) _ _ _ := hwr
    clear HQS
    have hb0 : Below w.heap.size w W1.drew := hB.drew
    have j0 : W1.drew.cell? ⟨p,0,none⟩ = _ := gq
    have j1 : W1.drew.cell? ⟨p + 1,0,none⟩ = _ := gr
    have j2 : W1.drew.cell? ⟨w.heap.size + 1,0,none⟩ = _ := g2
    have hk40 := k4.drew
    have hk50 := k5.drew
    have hne : w.heap.size + 1 + 1 + 1 ≠ w.heap.size + 1 + 1 := by omega
    go_region_held3 (fun w' => Below w.heap.size w w' ∧ w'.cell? ⟨p,0,none⟩ = some (.slice Aq nq cq) ∧ w'.cell? ⟨p + 1,0,none⟩ = some (.slice Ar nr cr) ∧ w'.cell? ⟨w.heap.size + 1,0,none⟩ = some (.bool false))
     (first | (exact ⟨hb0,j0,j1,j2⟩) | (go_split_ands; (repeat' apply And.intro); all_goals (first | with_reducible assumption | with_reducible exact zad (by with_reducible assumption) hb | with_reducible exact zac hb (by with_reducible assumption) | exact zag _ (by dsimp only; omega) (zag _ (by dsimp only; omega) (by with_reducible assumption)) | exact zaf _ (by dsimp only; omega) (zaf _ (by dsimp only; omega) (by with_reducible assumption)))))
     (first
       | (go_at_call 92; (with_reducible refine HQ1.out.mono ?_); rintro e w6 ⟨b3,A3,n3,c3,rfl,hi3,hb⟩; have HRW := HRW.below hb; have hk41 := zae hb hk40; have hk51 := zae hb hk50)
       | (go_at_call 92; (with_reducible refine (HRS.out _ _ _ _ HRW).mono ?_); rintro e w7 ⟨b5,A5,n5,c5,rfl,hi5,hb⟩; go_split_ands; have hi3 := hi3.below hb; have hk42 := zae hb hk41; have hk52 := zae hb hk51; have hbb : Below w.heap.size w w7 := zad (by with_reducible assumption) hb; obtain ⟨⟨u0,v0,u1,v1⟩,⟨u2,v2,u3,v3⟩,r0,r1,r2,r3⟩ := zcr b3 b5 A3 A5 n3 n5 c3 c5 hne hk42 hk52))
    have HG := lh9 (zdC (w := w) (t := true) hne (by omega) (by omega) hk42 hk52 hi3 hi5 hbb)
    rw [← HE.out.1,← HE.out.2] at HG
    clear hk42 hk52 hi3 hi5 hbb hb hk41 hk51 hk40 hk50 hb0 HQ1 HRS HRW j0 j1 j2 gq gr g2 k4 k5 hB HE
    go_wp2
    refine bodyPost_ret (v := .tuple #[.agg #[.bool b3,.slice A3 n3 c3],.agg #[.bool b5,.slice A5 n5 c5],.bool true]) (by simp [results,Tryz.results82,go_sem,r0,r1,r2,r3]) rfl ?_
    exact HG.out
  ·have HE := lh9 (div_more hbs hx1 hy1 h0 hr0)
   clear hx1 hy1 h0 hbd hbs
   rcases hbv with ⟨rfl,rfl⟩ | ⟨rfl,rfl⟩
   ·skip
    obtain ⟨hB,b2,b3,k4,k5,b6⟩ := box4 w 29 29 29 29 #[.bool false,.slice A n c] #[.bool true,.slice D m d] #[.bool false,.slice none 0 0] #[.bool false,.slice none 0 0]
    go_enter Tryz.func82,Tryz.ntmps82
    go_wp2_with fail
    generalize (((w.alloc (.cells #[.bool false,.slice A n c] 29)).alloc (.cells #[.bool true,.slice D m d] 29)).alloc (.cells #[.bool false,.slice none 0 0] 29)).alloc (.cells #[.bool false,.slice none 0 0] 29) = W0 at *
    have g0 : W0.cell? ⟨w.heap.size,0,none⟩ = some (.bool false) := b2.cell 0
    have g2 : W0.cell? ⟨w.heap.size + 1,0,none⟩ = some (.bool true) := b3.cell 0
    have g3 : W0.cell? ⟨w.heap.size + 1,1,none⟩ = some (.slice D m d) := b3.cell 1
    clear b2 b3 b6
    refine (HDM.out _ hB).mono ?_
    rintro e w1 ⟨Aq,nq,cq,Ar,nr,cr,rfl,hwq,hwr,hb⟩
    have hB := zad hB hb
    have k4 := zae hb k4
    have k5 := zae hb k5
    have g0 := zac hb g0
    have g2 := zac hb g2
    have g3 := zac hb g3
    have hlq := HNQ.out _ hwq.len
    have hp1 := hB.size
    have hz1 := k5.lt
    clear hb HDM
    obtain ⟨d1,dq,dr,d5⟩ := zaT w1 27 27 #[.slice Aq nq cq] #[.slice Ar nr cr]
    have hB := zad hB d1
    have k4 := zae d1 k4
    have k5 := zae d1 k5
    have g0 := zac d1 g0
    have g2 := zac d1 g2
    have g3 := zac d1 g3
    have hwq := hwq.below d1
    have hwr := hwr.below d1
    have gq : ((w1.alloc (.cells #[.slice Aq nq cq] 27)).alloc (.cells #[.slice Ar nr cr] 27)).cell? ⟨w1.heap.size,0,none⟩ = some (.slice Aq nq cq) := dq.cell 0
    have gr : ((w1.alloc (.cells #[.slice Aq nq cq] 27)).alloc (.cells #[.slice Ar nr cr] 27)).cell? ⟨w1.heap.size + 1,0,none⟩ = some (.slice Ar nr cr) := dr.cell 0
    clear d1 d5
    have hlr := HNR.out _ hwr.len
    have HZ := lh9 (zch hr0 hwr)
    go_wp2_with fail
    refine HZ.out.mono ?_
    rintro e w2 ⟨rfl,hb⟩
    have hB := zad hB hb
    have k4 := zae hb k4
    have k5 := zae hb k5
    have g2 := zac hb g2
    have g3 := zac hb g3
    have gq := zac hb gq
    have gr := zac hb gr
    have dq := zae hb dq
    have dr := zae hb dr
    have hwq := hwq.below hb
    have hwr := hwr.below hb
    clear hb HZ g0
    generalize w1.heap.size = p at *
    clear hr0 HNQ HNR
    go_wp2_with fail
    have HAD := lh9 (fun w' (h : zah w' (X / Y) Aq nq cq) B' m' d' (hw : zah w' 1 B' m' d') => zhU (X / Y) 1 Aq B' nq m' cq d' w' h hw (by omega) (by have h9 := hw.len; rw [zhs (by decide) (by decide)] at h9; simp at h9; omega))
    have hlt2 := k5.lt
    have hltp := dr.lt
    have gq1 : w2.drew.cell? ⟨p,0,none⟩ = some (.slice Aq nq cq) := gq
    have gq2 : (w2.alloc (.cells #[.int .u64 1] 78)).cell? ⟨p,0,none⟩ = some (.slice Aq nq cq) := zak _ gq
    have gq3 : (w2.alloc (.cells #[.int .u64 1] 78)).drew.cell? ⟨p,0,none⟩ = some (.slice Aq nq cq) := zak _ gq
    go_region_law (first
     | (go_simp; go_at_call 61; (first | refine (HO1.out _ _ (Blk.new _ _ _)).mono ?_ | refine (HO1.out _ _ ((Blk.new _ _ _).drew)).mono ?_); rintro e w3 ⟨A4,n4,c4,rfl,hw4,hb,_⟩; (first | have hb23 : Below w2.heap.size w2 w3 := zad (zaA _ _) hb | have hb23 : Below w2.heap.size w2 w3 := zad ((zaA _ _).drew) hb); have hwq1 := hwq.below hb23; have hk1 := zae hb23 dq; have gq4 := zac hb23 gq)
     | (go_simp; go_at_call 111; refine (HAD.out _ hwq1 _ _ _ hw4).mono ?_; rintro e w4 ⟨A6,n6,c6,rfl,hw6,hb,hf6⟩; have hbb : Below w2.heap.size w2 w4 := zad hb23 hb; have hk2 := zae hb hk1; have c0 := hk2.cell 0; have f0 := hk2.frozen 0))
    all_goals
     have hkq := zcg hk2 (.slice A6 n6 c6)
     have hbs := zag (w := w) (p := ⟨p,0,none⟩) (.slice A6 n6 c6) (by dsimp only; omega) (zad hB hbb)
     have hw7 := zaW hw6 hk2 (.slice A6 n6 c6)
     have hwr := zaW (hwr.below hbb) hk2 (.slice A6 n6 c6)
     have dr := Blk.far (p := ⟨p,0,none⟩) (zae hbb dr) (by dsimp only; omega) (.slice A6 n6 c6)
     have k4 := Blk.far (p := ⟨p,0,none⟩) (zae hbb k4) (by dsimp only; omega) (.slice A6 n6 c6)
     have k5 := Blk.far (p := ⟨p,0,none⟩) (zae hbb k5) (by dsimp only; omega) (.slice A6 n6 c6)
     have g2 := zaf (q := ⟨p,0,none⟩) (.slice A6 n6 c6) (by dsimp only; omega) (zac hbb g2)
     have g3 := zaf (q := ⟨p,0,none⟩) (.slice A6 n6 c6) (by dsimp only; omega) (zac hbb g3)
     have gr := zaf (q := ⟨p,0,none⟩) (.slice A6 n6 c6) (by dsimp only; omega) (zac hbb gr)
     clear hk2 hk1 hb hb23 hwq1 gq4 gq1 gq2 gq3 hbb hw6 hf6 hw4 HAD HO1 dq gq hB hwq
     generalize w4.setCell ⟨p,0,none⟩ (.slice A6 n6 c6) = W3 at *
     have HSB := lh9 (zfM Y (X % Y) D Ar m nr d cr W3 (HD.out _ hbs) hwr (by omega) (by omega) (Nat.le_of_lt HRL.out))
     have gq : W3.cell? ⟨p,0,none⟩ = some (.slice A6 n6 c6) := hkq.cell 0
     clear HD hwr
     go_wp2_with fail
     refine HSB.out.mono ?_
     rintro e w5 ⟨A7,n7,c7,rfl,hw8,hb,hf7⟩
     have hB := zad hbs hb
     have k4 := zae hb k4
     have k5 := zae hb k5
     have dr := zae hb dr
     have hkq := zae hb hkq
     have g2 := zac hb g2
     have hw7 := hw7.below hb
     have c0 := dr.cell 0
     have f0 := dr.frozen 0
     have hkr := zcg dr (.slice A7 n7 c7)
     have hB := zag (w := w) (p := ⟨p + 1,0,none⟩) (.slice A7 n7 c7) (by dsimp only; omega) hB
     have k4 := Blk.far (p := ⟨p + 1,0,none⟩) k4 (by dsimp only; omega) (.slice A7 n7 c7)
     have k5 := Blk.far (p := ⟨p + 1,0,none⟩) k5 (by dsimp only; omega) (.slice A7 n7 c7)
     have hkq := Blk.far (p := ⟨p + 1,0,none⟩) hkq (by dsimp only; omega) (.slice A7 n7 c7)
     have g2 := zaf (q := ⟨p + 1,0,none⟩) (.slice A7 n7 c7) (by dsimp only; omega) g2
     have hw7 := zaW hw7 dr (.slice A7 n7 c7)
     have hw8 := zaW hw8 dr (.slice A7 n7 c7)
     have gq : (w5.setCell ⟨p + 1,0,none⟩ (.slice A7 n7 c7)).cell? ⟨p,0,none⟩ = some (.slice A6 n6 c6) := hkq.cell 0
     have gr : (w5.setCell ⟨p + 1,0,none⟩ (.slice A7 n7 c7)).cell? ⟨p + 1,0,none⟩ = some (.slice A7 n7 c7) := hkr.cell 0
     clear hb hf7 HSB dr hbs hkq hkr g3
     go_wp2_with fail
     clear c0 f0
     generalize w5.setCell ⟨p + 1,0,none⟩ (.slice A7 n7 c7) = W1 at *
     have hs4 : w.heap.size + 1 + 1 < W1.heap.size := k4.lt
     have hs5 : w.heap.size + 1 + 1 + 1 < W1.heap.size := k5.lt
     have HQS := lh9 (fun w' A n c (h : zah w' (X / Y + 1) A n c) => zax true (X / Y + 1) A n c w' h)
     have HRS := lh9 (fun w' A n c (h : zah w' (Y - X % Y) A n c) => zax true (Y - X % Y) A n c w' h)
     have HQ1 := lh9 (HQS.out W1.drew _ _ _ hw7)
     have HRW : zah W1.drew (Y - X % Y) _ _ _ := hw8
     clear HQS
     have hb0 : Below w.heap.size w W1.drew := hB.drew
     have j0 : W1.drew.cell? ⟨p,0,none⟩ = _ := gq
     have j1 : W1.drew.cell? ⟨p + 1,0,none⟩ = _ := gr
     have j2 : W1.drew.cell? ⟨w.heap.size + 1,0,none⟩ = _ := g2
     have hk40 := k4.drew
     have hk50 := k5.drew
     have hne : w.heap.size + 1 + 1 + 1 ≠ w.heap.size + 1 + 1 := by omega
     go_region_held3 (fun w' => Below w.heap.size w w' ∧ w'.cell? ⟨p,0,none⟩ = some (.slice A6 n6 c6) ∧ w'.cell? ⟨p + 1,0,none⟩ = some (.slice A7 n7 c7) ∧ w'.cell? ⟨w.heap.size + 1,0,none⟩ = some (.bool true))
      (first | (exact ⟨hb0,j0,j1,j2⟩) | (go_split_ands; (repeat' apply And.intro); all_goals (first | with_reducible assumption | with_reducible exact zad (by with_reducible assumption) hb | with_reducible exact zac hb (by with_reducible assumption) | exact zag _ (by dsimp only; omega) (zag _ (by dsimp only; omega) (by with_reducible assumption)) | exact zaf _ (by dsimp only; omega) (zaf _ (by dsimp only; omega) (by with_reducible assumption)))))
      (first
        | (go_at_call 92; (with_reducible refine HQ1.out.mono ?_); rintro e w6 ⟨b3,A3,n3,c3,rfl,hi3,hb⟩; have HRW := HRW.below hb; have hk41 := zae hb hk40; have hk51 := zae hb hk50)
        | (go_at_call 92; (with_reducible refine (HRS.out _ _ _ _ HRW).mono ?_); rintro e w7 ⟨b5,A5,n5,c5,rfl,hi5,hb⟩; go_split_ands; have hi3 := hi3.below hb; have hk42 := zae hb hk41; have hk52 := zae hb hk51; have hbb : Below w.heap.size w w7 := zad (by with_reducible assumption) hb; obtain ⟨⟨u0,v0,u1,v1⟩,⟨u2,v2,u3,v3⟩,r0,r1,r2,r3⟩ := zcr b3 b5 A3 A5 n3 n5 c3 c5 hne hk42 hk52))
     have HG := lh9 (zdC (w := w) (t := true) hne (by omega) (by omega) hk42 hk52 hi3 hi5 hbb)
     rw [← HE.out.1,← HE.out.2] at HG
     clear hk42 hk52 hi3 hi5 hbb hb hk41 hk51 hk40 hk50 hb0 HQ1 HRS HRW j0 j1 j2 gq gr g2 k4 k5 hB HE
     go_wp2
     refine bodyPost_ret (v := .tuple #[.agg #[.bool b3,.slice A3 n3 c3],.agg #[.bool b5,.slice A5 n5 c5],.bool true]) (by simp [results,Tryz.results82,go_sem,r0,r1,r2,r3]) rfl ?_
     exact HG.out
   ·skip
    obtain ⟨hB,b2,b3,k4,k5,b6⟩ := box4 w 29 29 29 29 #[.bool true,.slice A n c] #[.bool false,.slice D m d] #[.bool false,.slice none 0 0] #[.bool false,.slice none 0 0]
    go_enter Tryz.func82,Tryz.ntmps82
    go_wp2_with fail
    generalize (((w.alloc (.cells #[.bool true,.slice A n c] 29)).alloc (.cells #[.bool false,.slice D m d] 29)).alloc (.cells #[.bool false,.slice none 0 0] 29)).alloc (.cells #[.bool false,.slice none 0 0] 29) = W0 at *
    have g0 : W0.cell? ⟨w.heap.size,0,none⟩ = some (.bool true) := b2.cell 0
    have g2 : W0.cell? ⟨w.heap.size + 1,0,none⟩ = some (.bool false) := b3.cell 0
    have g3 : W0.cell? ⟨w.heap.size + 1,1,none⟩ = some (.slice D m d) := b3.cell 1
    clear b2 b3 b6
    refine (HDM.out _ hB).mono ?_
    rintro e w1 ⟨Aq,nq,cq,Ar,nr,cr,rfl,hwq,hwr,hb⟩
    have hB := zad hB hb
    have k4 := zae hb k4
    have k5 := zae hb k5
    have g0 := zac hb g0
    have g2 := zac hb g2
    have g3 := zac hb g3
    have hlq := HNQ.out _ hwq.len
    have hp1 := hB.size
    have hz1 := k5.lt
    clear hb HDM
    obtain ⟨d1,dq,dr,d5⟩ := zaT w1 27 27 #[.slice Aq nq cq] #[.slice Ar nr cr]
    have hB := zad hB d1
    have k4 := zae d1 k4
    have k5 := zae d1 k5
    have g0 := zac d1 g0
    have g2 := zac d1 g2
    have g3 := zac d1 g3
    have hwq := hwq.below d1
    have hwr := hwr.below d1
    have gq : ((w1.alloc (.cells #[.slice Aq nq cq] 27)).alloc (.cells #[.slice Ar nr cr] 27)).cell? ⟨w1.heap.size,0,none⟩ = some (.slice Aq nq cq) := dq.cell 0
    have gr : ((w1.alloc (.cells #[.slice Aq nq cq] 27)).alloc (.cells #[.slice Ar nr cr] 27)).cell? ⟨w1.heap.size + 1,0,none⟩ = some (.slice Ar nr cr) := dr.cell 0
    clear d1 d5
    have hlr := HNR.out _ hwr.len
    have HZ := lh9 (zch hr0 hwr)
    go_wp2_with fail
    refine HZ.out.mono ?_
    rintro e w2 ⟨rfl,hb⟩
    have hB := zad hB hb
    have k4 := zae hb k4
    have k5 := zae hb k5
    have g2 := zac hb g2
    have g3 := zac hb g3
    have gq := zac hb gq
    have gr := zac hb gr
    have dq := zae hb dq
    have dr := zae hb dr
    have hwq := hwq.below hb
    have hwr := hwr.below hb
    clear hb HZ g0
    generalize w1.heap.size = p at *
    clear hr0 HNQ HNR
    go_wp2_with fail
    have HAD := lh9 (fun w' (h : zah w' (X / Y) Aq nq cq) B' m' d' (hw : zah w' 1 B' m' d') => zhU (X / Y) 1 Aq B' nq m' cq d' w' h hw (by omega) (by have h9 := hw.len; rw [zhs (by decide) (by decide)] at h9; simp at h9; omega))
    have hlt2 := k5.lt
    have hltp := dr.lt
    have gq1 : w2.drew.cell? ⟨p,0,none⟩ = some (.slice Aq nq cq) := gq
    have gq2 : (w2.alloc (.cells #[.int .u64 1] 78)).cell? ⟨p,0,none⟩ = some (.slice Aq nq cq) := zak _ gq
    have gq3 : (w2.alloc (.cells #[.int .u64 1] 78)).drew.cell? ⟨p,0,none⟩ = some (.slice Aq nq cq) := zak _ gq
    go_region_law (first
     | (go_simp; go_at_call 61; (first | refine (HO1.out _ _ (Blk.new _ _ _)).mono ?_ | refine (HO1.out _ _ ((Blk.new _ _ _).drew)).mono ?_); rintro e w3 ⟨A4,n4,c4,rfl,hw4,hb,_⟩; (first | have hb23 : Below w2.heap.size w2 w3 := zad (zaA _ _) hb | have hb23 : Below w2.heap.size w2 w3 := zad ((zaA _ _).drew) hb); have hwq1 := hwq.below hb23; have hk1 := zae hb23 dq; have gq4 := zac hb23 gq)
     | (go_simp; go_at_call 111; refine (HAD.out _ hwq1 _ _ _ hw4).mono ?_; rintro e w4 ⟨A6,n6,c6,rfl,hw6,hb,hf6⟩; have hbb : Below w2.heap.size w2 w4 := zad hb23 hb; have hk2 := zae hb hk1; have c0 := hk2.cell 0; have f0 := hk2.frozen 0))
    all_goals
     have hkq := zcg hk2 (.slice A6 n6 c6)
     have hbs := zag (w := w) (p := ⟨p,0,none⟩) (.slice A6 n6 c6) (by dsimp only; omega) (zad hB hbb)
     have hw7 := zaW hw6 hk2 (.slice A6 n6 c6)
     have hwr := zaW (hwr.below hbb) hk2 (.slice A6 n6 c6)
     have dr := Blk.far (p := ⟨p,0,none⟩) (zae hbb dr) (by dsimp only; omega) (.slice A6 n6 c6)
     have k4 := Blk.far (p := ⟨p,0,none⟩) (zae hbb k4) (by dsimp only; omega) (.slice A6 n6 c6)
     have k5 := Blk.far (p := ⟨p,0,none⟩) (zae hbb k5) (by dsimp only; omega) (.slice A6 n6 c6)
     have g2 := zaf (q := ⟨p,0,none⟩) (.slice A6 n6 c6) (by dsimp only; omega) (zac hbb g2)
     have g3 := zaf (q := ⟨p,0,none⟩) (.slice A6 n6 c6) (by dsimp only; omega) (zac hbb g3)
     have gr := zaf (q := ⟨p,0,none⟩) (.slice A6 n6 c6) (by dsimp only; omega) (zac hbb gr)
     clear hk2 hk1 hb hb23 hwq1 gq4 gq1 gq2 gq3 hbb hw6 hf6 hw4 HAD HO1 dq gq hB hwq
     generalize w4.setCell ⟨p,0,none⟩ (.slice A6 n6 c6) = W3 at *
     have HSB := lh9 (zfM Y (X % Y) D Ar m nr d cr W3 (HD.out _ hbs) hwr (by omega) (by omega) (Nat.le_of_lt HRL.out))
     have gq : W3.cell? ⟨p,0,none⟩ = some (.slice A6 n6 c6) := hkq.cell 0
     clear HD hwr
     go_wp2_with fail
     refine HSB.out.mono ?_
     rintro e w5 ⟨A7,n7,c7,rfl,hw8,hb,hf7⟩
     have hB := zad hbs hb
     have k4 := zae hb k4
     have k5 := zae hb k5
     have dr := zae hb dr
     have hkq := zae hb hkq
     have g2 := zac hb g2
     have hw7 := hw7.below hb
     have c0 := dr.cell 0
     have f0 := dr.frozen 0
     have hkr := zcg dr (.slice A7 n7 c7)
     have hB := zag (w := w) (p := ⟨p + 1,0,none⟩) (.slice A7 n7 c7) (by dsimp only; omega) hB
     have k4 := Blk.far (p := ⟨p + 1,0,none⟩) k4 (by dsimp only; omega) (.slice A7 n7 c7)
     have k5 := Blk.far (p := ⟨p + 1,0,none⟩) k5 (by dsimp only; omega) (.slice A7 n7 c7)
     have hkq := Blk.far (p := ⟨p + 1,0,none⟩) hkq (by dsimp only; omega) (.slice A7 n7 c7)
     have g2 := zaf (q := ⟨p + 1,0,none⟩) (.slice A7 n7 c7) (by dsimp only; omega) g2
     have hw7 := zaW hw7 dr (.slice A7 n7 c7)
     have hw8 := zaW hw8 dr (.slice A7 n7 c7)
     have gq : (w5.setCell ⟨p + 1,0,none⟩ (.slice A7 n7 c7)).cell? ⟨p,0,none⟩ = some (.slice A6 n6 c6) := hkq.cell 0
     have gr : (w5.setCell ⟨p + 1,0,none⟩ (.slice A7 n7 c7)).cell? ⟨p + 1,0,none⟩ = some (.slice A7 n7 c7) := hkr.cell 0
     clear hb hf7 HSB dr hbs hkq hkr g3
     go_wp2_with fail
     clear c0 f0
     generalize w5.setCell ⟨p + 1,0,none⟩ (.slice A7 n7 c7) = W1 at *
     have hs4 : w.heap.size + 1 + 1 < W1.heap.size := k4.lt
     have hs5 : w.heap.size + 1 + 1 + 1 < W1.heap.size := k5.lt
     have HQS := lh9 (fun w' A n c (h : zah w' (X / Y + 1) A n c) => zax true (X / Y + 1) A n c w' h)
     have HRS := lh9 (fun w' A n c (h : zah w' (Y - X % Y) A n c) => zax false (Y - X % Y) A n c w' h)
     have HQ1 := lh9 (HQS.out W1.drew _ _ _ hw7)
     have HRW : zah W1.drew (Y - X % Y) _ _ _ := hw8
     clear HQS
     have hb0 : Below w.heap.size w W1.drew := hB.drew
     have j0 : W1.drew.cell? ⟨p,0,none⟩ = _ := gq
     have j1 : W1.drew.cell? ⟨p + 1,0,none⟩ = _ := gr
     have j2 : W1.drew.cell? ⟨w.heap.size + 1,0,none⟩ = _ := g2
     have hk40 := k4.drew
     have hk50 := k5.drew
     have hne : w.heap.size + 1 + 1 + 1 ≠ w.heap.size + 1 + 1 := by omega
     go_region_held3 (fun w' => Below w.heap.size w w' ∧ w'.cell? ⟨p,0,none⟩ = some (.slice A6 n6 c6) ∧ w'.cell? ⟨p + 1,0,none⟩ = some (.slice A7 n7 c7) ∧ w'.cell? ⟨w.heap.size + 1,0,none⟩ = some (.bool false))
      (first | (exact ⟨hb0,j0,j1,j2⟩) | (go_split_ands; (repeat' apply And.intro); all_goals (first | with_reducible assumption | with_reducible exact zad (by with_reducible assumption) hb | with_reducible exact zac hb (by with_reducible assumption) | exact zag _ (by dsimp only; omega) (zag _ (by dsimp only; omega) (by with_reducible assumption)) | exact zaf _ (by dsimp only; omega) (zaf _ (by dsimp only; omega) (by with_reducible assumption)))))
      (first
        | (go_at_call 92; (with_reducible refine HQ1.out.mono ?_); rintro e w6 ⟨b3,A3,n3,c3,rfl,hi3,hb⟩; have HRW := HRW.below hb; have hk41 := zae hb hk40; have hk51 := zae hb hk50)
        | (go_at_call 92; (with_reducible refine (HRS.out _ _ _ _ HRW).mono ?_); rintro e w7 ⟨b5,A5,n5,c5,rfl,hi5,hb⟩; go_split_ands; have hi3 := hi3.below hb; have hk42 := zae hb hk41; have hk52 := zae hb hk51; have hbb : Below w.heap.size w w7 := zad (by with_reducible assumption) hb; obtain ⟨⟨u0,v0,u1,v1⟩,⟨u2,v2,u3,v3⟩,r0,r1,r2,r3⟩ := zcr b3 b5 A3 A5 n3 n5 c3 c5 hne hk42 hk52))
     have HG := lh9 (zdC (w := w) (t := true) hne (by omega) (by omega) hk42 hk52 hi3 hi5 hbb)
     rw [← HE.out.1,← HE.out.2] at HG
     clear hk42 hk52 hi3 hi5 hbb hb hk41 hk51 hk40 hk50 hb0 HQ1 HRS HRW j0 j1 j2 gq gr g2 k4 k5 hB HE
     go_wp2
     refine bodyPost_ret (v := .tuple #[.agg #[.bool b3,.slice A3 n3 c3],.agg #[.bool b5,.slice A5 n5 c5],.bool true]) (by simp [results,Tryz.results82,go_sem,r0,r1,r2,r3]) rfl ?_
     exact HG.out
theorem intC {T : World → Prop} : IntC T where
 new s x A n c w _ hA hn := zjg s x A n c w hA (by omega)
 of z w _ h1 h2 := zkk z w h1 h2
 belowI z b A n c w _ hA hn := zgJ z b A n c w hA
 abs z b A n c w _ hA hn := (ziq z b A n c w hA (by omega)).mono fun _ _ ⟨A',n',c',he,hw,hb,_⟩ => ⟨A',n',c',he,hw,hb⟩
 sign z b A n c w _ hA hn := zhA z b A n c w hA
 neg z b A n c w _ hA hn := ziI z b A n c w hA (by omega)
 cmp x y b b' A D n m c d w _ hA hD hn hm := zjn x y b b' A D n m c d w hA hD (by omega) (by omega)
 add x y b b' A D n m c d w _ hA hD hn hm := ziz x y b b' A D n m c d w hA hD (by omega) (by omega)
 mul x y b b' A D n m c d w _ hA hD hn hm := ziL x y b b' A D n m c d w hA hD (by omega) (by omega)
 div x y b b' A D n m c d w _ hA hD hn hm hy := ziW x y b b' A D n m c d w hA hD (by omega) (by omega) hy
 divNo x y b b' A D n m c d w _ hA hD hn hm hy := zfV x y b b' A D n m c d w hA hD (by omega) (by omega) hy
end Go.Proofs.YtgigccjiblaefaaGreatDoor
