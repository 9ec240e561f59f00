/- What this claim leans on. -/
import Derived.Test.YtgigccjiblaefaaGreatDoorOR7Ref
namespace Go.Proofs.YtgigccjiblaefaaGreatDoor
open Go Go.RowKit
set_option maxHeartbeats 16000000
set_option maxRecDepth 100000
set_option linter.unusedVariables false
set_option linter.unusedSimpArgs false
def zbu (w : World) (q r : Int) (e : Ending) (w' : World) : Prop := ∃ (b : Bool) (A : oA9) (n c : Nat) (b' : Bool) (B : oA9) (m d : Nat),e = .returned (.tuple #[.agg #[.bool b,.slice A n c],.agg #[.bool b',.slice B m d]]) ∧ zaz w' q b A n c ∧ zaz w' r b' B m d ∧ Below w.heap.size w w'
theorem zfv (X Y : Nat) : ((X / Y : Nat) : Int) * (Y : Int) + ((X % Y : Nat) : Int) = (X : Int) := by
 have h := Nat.div_add_mod X Y
 rw [Nat.mul_comm] at h
 rw [← Int.natCast_mul,← Int.natCast_add,h]
theorem dv_same {x y : Int} {s : Bool} (hy : y ≠ 0) (h1 : s = decide (x < 0)) (h2 : s = decide (y < 0)) : qI x y = sgI false (x.natAbs / y.natAbs) ∧ rI x y = sgI s (x.natAbs % y.natAbs) := by
 have hp := zfv x.natAbs y.natAbs
 have hl := Nat.mod_lt x.natAbs (show 0 < y.natAbs by omega)
 generalize x.natAbs / y.natAbs = Q at *
 generalize hR : x.natAbs % y.natAbs = R at *
 unfold sgI
 cases s
 ·have a : 0 ≤ x := by simpa using h1
  have b : 0 ≤ y := by simpa using h2
  rw [show ((y.natAbs : Nat) : Int) = y by omega] at hp
  have := zdD (x := x) (y := y) (q := (Q : Int)) (r := (R : Int)) hy (by omega) (by omega) (by omega)
  exact ⟨this.1.symm,this.2.symm⟩
 ·have a : x < 0 := by simpa using h1
  have b : y < 0 := by simpa using h2
  rw [show ((y.natAbs : Nat) : Int) = -y by omega,Int.mul_neg] at hp
  have := zdD (x := x) (y := y) (q := (Q : Int)) (r := -(R : Int)) hy (by omega) (by omega) (by omega)
  exact ⟨this.1.symm,this.2.symm⟩
theorem dv_diff0 {x y : Int} {s : Bool} (hy : y ≠ 0) (h1 : (!s) = decide (x < 0)) (h2 : s = decide (y < 0)) (h0 : x.natAbs % y.natAbs = 0) : qI x y = sgI true (x.natAbs / y.natAbs) ∧ rI x y = 0 := by
 have hp := zfv x.natAbs y.natAbs
 rw [h0] at hp
 generalize x.natAbs / y.natAbs = Q at *
 unfold sgI
 cases s
 ·have a : x < 0 := by simpa using h1
  have b : 0 ≤ y := by simpa using h2
  rw [show ((y.natAbs : Nat) : Int) = y by omega] at hp
  have := zdD (x := x) (y := y) (q := -(Q : Int)) (r := 0) hy (by rw [Int.neg_mul]; omega) (by omega) (by omega)
  exact ⟨this.1.symm,this.2.symm⟩
 ·have a : 0 ≤ x := by simpa using h1
  have b : y < 0 := by simpa using h2
  rw [show ((y.natAbs : Nat) : Int) = -y by omega,Int.mul_neg] at hp
  have := zdD (x := x) (y := y) (q := -(Q : Int)) (r := 0) hy (by rw [Int.neg_mul]; omega) (by omega) (by omega)
  exact ⟨this.1.symm,this.2.symm⟩
theorem dv_diff1 {x y : Int} {s : Bool} (hy : y ≠ 0) (h1 : (!s) = decide (x < 0)) (h2 : s = decide (y < 0)) (h0 : x.natAbs % y.natAbs ≠ 0) : qI x y = sgI true (x.natAbs / y.natAbs + 1) ∧ rI x y = sgI s (y.natAbs - x.natAbs % y.natAbs) := by
 have hp := zfv x.natAbs y.natAbs
 have hl := Nat.mod_lt x.natAbs (show 0 < y.natAbs by omega)
 generalize x.natAbs / y.natAbs = Q at *
 generalize hR : x.natAbs % y.natAbs = R at *
 unfold sgI
 cases s
 ·have a : x < 0 := by simpa using h1
  have b : 0 ≤ y := by simpa using h2
  rw [show ((y.natAbs : Nat) : Int) = y by omega] at hp
  have := zdD (x := x) (y := y) (q := -((Q + 1 : Nat) : Int)) (r := ((y.natAbs - R : Nat) : Int)) hy (by rw [Int.natCast_add,Int.neg_mul,Int.add_mul]; omega) (by omega) (by omega)
  exact ⟨this.1.symm,this.2.symm⟩
 ·have a : 0 ≤ x := by simpa using h1
  have b : y < 0 := by simpa using h2
  rw [show ((y.natAbs : Nat) : Int) = -y by omega,Int.mul_neg] at hp
  have := zdD (x := x) (y := y) (q := -((Q + 1 : Nat) : Int)) (r := -((y.natAbs - R : Nat) : Int)) hy (by rw [Int.natCast_add,Int.neg_mul,Int.add_mul]; omega) (by omega) (by omega)
  exact ⟨this.1.symm,this.2.symm⟩
theorem zfS {w : World} {g : Nat} (hk : Blk w g 3 #[.int .i64 1]) : zal w 1 (some ⟨g,0,none⟩) 1 1 := by
 refine ⟨⟨rfl,fun _ => ⟨_,rfl,hk.lt,fun j u hu => ?_⟩⟩,Nat.le_refl _,by omega⟩
 have e : (⟨g,0,none⟩ : Addr).add j = ⟨g,j,none⟩ := by unfold Addr.add; split <;> simp_all
 rw [e,hk.cell j,← Array.getElem?_toList]
 exact hu
theorem ref7_div (x y : Int) (b b' : Bool) (A D : oA9) (n m c d : Nat) (w : World) (hA : zaz w x b A n c) (hD : zaz w y b' D m d) (hn : n ≤ 4294967296) (hm : m ≤ 4294967296) (hy : y ≠ 0) :
  Calls Tryz.prog 83 #[.agg #[.bool b,.slice A n c],.agg #[.bool b',.slice D m d]] w (zbu w (qI x y) (rI x y)) := by
 obtain ⟨hB,x1,x2,hkA,hkB,x5⟩ := box4 w 38 38 38 38 #[.bool b,.slice A n c] #[.bool b',.slice D m d] #[.bool false,.slice none 0 0] #[.bool false,.slice none 0 0]
 have HHA := lh9 (fun w' (h : Below w.heap.size w w') => hA.2.below h)
 have HHD := lh9 (fun w' (h : Below w.heap.size w w') => hD.2.below h)
 have hba := hA.1
 have hbd := hD.1
 have hY0 : y.natAbs ≠ 0 := by omega
 have HDM := lh9 (fun w' (h : Below w.heap.size w w') => zdT x.natAbs y.natAbs A D n m c d w' (HHA.out w' h) (HHD.out w' h) (by omega) (by omega) hY0)
 have lX : x.natAbs < 65536 ^ n := by have h := hA.2.len; rw [h]; exact zaN (by decide) _
 have lY : y.natAbs < 65536 ^ m := by have h := hD.2.len; rw [h]; exact zaN (by decide) _
 have HLQ : Hid (∀ v q,v ≤ x.natAbs + 1 → q = (dg 65536 v).length → q ≤ 549755813888) := fun v q hv hq => by
  rw [hq]
  refine Nat.le_trans (zaB (by decide) _ (n + 1) ?_) (by omega)
  rw [Nat.pow_succ]
  omega
 have HLR : Hid (∀ v q,v ≤ y.natAbs → q = (dg 65536 v).length → q ≤ 549755813888) := fun v q hv hq => by
  rw [hq]
  refine Nat.le_trans (zaB (by decide) _ m (by omega)) (by omega)
 have HS := lh9 (fun s (h1 : s = decide (x < 0)) (h2 : s = decide (y < 0)) => dv_same hy h1 h2)
 have HE := lh9 (fun s (h1 : (!s) = decide (x < 0)) (h2 : s = decide (y < 0)) (h0 : x.natAbs % y.natAbs = 0) => dv_diff0 hy h1 h2 h0)
 have HF := lh9 (fun s (h1 : (!s) = decide (x < 0)) (h2 : s = decide (y < 0)) (h0 : x.natAbs % y.natAbs ≠ 0) => dv_diff1 hy h1 h2 h0)
 have hq1 : x.natAbs / y.natAbs ≤ x.natAbs := Nat.div_le_self _ _
 have hr1 : x.natAbs % y.natAbs < y.natAbs := Nat.mod_lt _ (by omega)
 obtain ⟨X,hX⟩ : ∃ q,x.natAbs = q := ⟨_,rfl⟩
 obtain ⟨Y,hY⟩ : ∃ q,y.natAbs = q := ⟨_,rfl⟩
 rw [hX] at HLQ
 rw [hY] at HHD HLR
 rw [hX,hY] at HDM HS HE HF hq1 hr1
 obtain ⟨U,hU⟩ : ∃ q,X / Y = q := ⟨_,rfl⟩
 obtain ⟨V,hV⟩ : ∃ q,X % Y = q := ⟨_,rfl⟩
 rw [hU] at HDM HS HE HF hq1
 rw [hV] at HDM HS HE HF hr1
 obtain ⟨qz,hqz⟩ : ∃ q,qI x y = q := ⟨_,rfl⟩
 obtain ⟨rz,hrz⟩ : ∃ q,rI x y = q := ⟨_,rfl⟩
 rw [hqz,hrz] at HS HE HF ⊢
 clear hA hD lX lY hX hY hU hV hqz hrz hY0 hy
 cases b <;> cases b'
 ·obtain ⟨z1,z2⟩ := HS.out false hba hbd
  have HZ1 := lh9 z1
  have HZ2 := lh9 z2
  clear HS HE HF z1 z2 hba hbd
  go_enter Tryz.func83,Tryz.ntmps83
  go_wp2_with fail
  generalize (((w.alloc (.cells #[.bool false,.slice A n c] 38)).alloc (.cells #[.bool false,.slice D m d] 38)).alloc (.cells #[.bool false,.slice none 0 0] 38)).alloc (.cells #[.bool false,.slice none 0 0] 38) = W0 at *
  have g1 : W0.cell? ⟨w.heap.size,0,none⟩ = some (.bool false) := x1.cell 0
  have e1 : W0.cell? ⟨w.heap.size,1,none⟩ = some (.slice A n c) := x1.cell 1
  have g2 : W0.cell? ⟨w.heap.size + 1,0,none⟩ = some (.bool false) := x2.cell 0
  have e2 : W0.cell? ⟨w.heap.size + 1,1,none⟩ = some (.slice D m d) := x2.cell 1
  clear x1 x2 x5
  go_wp2_with fail
  refine (HDM.out _ hB).mono ?_
  rintro e W1 ⟨A5,n5,c5,A6,n6,c6,rfl,hq5,hr5,hb⟩
  have hB := zad hB hb
  have g1 := zac hb g1
  have e1 := zac hb e1
  have g2 := zac hb g2
  have e2 := zac hb e2
  have hkA := zae hb hkA
  have hkB := zae hb hkB
  have HBW := lh9 hB
  have l5 := HLQ.out U n5 (by omega) hq5.len
  have l6 := HLR.out V n6 (by omega) hr5.len
  clear hb HDM
  have hk0A := hkA.drew
  have hk0B := hkB.drew
  have HNQ := lh9 (fun w' (h : Below W1.heap.size W1 w') => zaI false U A5 n5 c5 w' (hq5.below h) (by omega))
  have HNR := lh9 (fun w' (h : Below W1.heap.size W1 w') => zaI false V A6 n6 c6 w' (hr5.below h) (by omega))
  have hlw := hB.size
  have hb0 := (Below.refl W1.heap.size W1).drew
  have hbw0 := hB.drew
  have hz3 : w.heap.size + 1 + 1 + 1 < W1.heap.size := hkB.lt
  have j0 : W1.drew.cell? ⟨w.heap.size + 1,0,none⟩ = some (.bool false) := g2
  go_wp2_with fail
  go_region_held3 (fun w' => Below w.heap.size w w' ∧ w'.cell? ⟨w.heap.size + 1,0,none⟩ = some (.bool false))
   (first | (exact ⟨hbw0,j0⟩) | (go_split_ands; (repeat' apply And.intro); all_goals (first | with_reducible assumption | with_reducible exact zad (by with_reducible assumption) hb | with_reducible exact zac hb (by with_reducible assumption) | with_reducible exact zaj _ (by with_reducible assumption) | with_reducible exact zak _ (by with_reducible assumption) | with_reducible exact zag _ (by dsimp only; omega) (zag _ (by dsimp only; omega) (by with_reducible assumption)) | with_reducible exact zaf _ (by dsimp only; omega) (zaf _ (by dsimp only; omega) (by with_reducible assumption)) | fail)))
   (first
     | (go_at_call 62; (with_reducible refine (HNQ.out _ hb0).mono ?_); rintro e w2 ⟨bq,Aq,nq,cq,rfl,hwq,hb⟩; have hk1A := zae hb hk0A; have hk1B := zae hb hk0B; have hbb1 : Below W1.heap.size W1 w2 := zad hb0 hb)
     | (go_at_call 62; (with_reducible refine (HNR.out _ hbb1).mono ?_); rintro e w3 ⟨br,Ar,nr,cr,rfl,hwr,hb⟩; have hk2A := zae hb hk1A; have hk2B := zae hb hk1B; have hwq3 := hwq.below hb; have hbb : Below W1.heap.size W1 w3 := zad hbb1 hb; have c0 := hk2A.cell 0; have f0 := hk2A.frozen 0; have c1 : (w3.setCell ⟨w.heap.size + 1 + 1,0,none⟩ (.bool bq)).cell? ⟨w.heap.size + 1 + 1,1,none⟩ = some (.slice none 0 0) := (hk2A.set_ 0 (.bool bq)).cell 1; have f1 := (hk2A.set_ 0 (.bool bq)).frozen 1; have kB0 : Blk ((w3.setCell ⟨w.heap.size + 1 + 1,0,none⟩ (.bool bq)).setCell ⟨w.heap.size + 1 + 1,1,none⟩ (.slice Aq nq cq)) (w.heap.size + 1 + 1 + 1) 38 #[.bool false,.slice none 0 0] := (hk2B.far (p := ⟨w.heap.size + 1 + 1,0,none⟩) (by dsimp only; omega) (.bool bq)).far (p := ⟨w.heap.size + 1 + 1,1,none⟩) (by dsimp only; omega) (.slice Aq nq cq); have c2 := kB0.cell 0; have f2 := kB0.frozen 0; have c3 : (((w3.setCell ⟨w.heap.size + 1 + 1,0,none⟩ (.bool bq)).setCell ⟨w.heap.size + 1 + 1,1,none⟩ (.slice Aq nq cq)).setCell ⟨w.heap.size + 1 + 1 + 1,0,none⟩ (.bool br)).cell? ⟨w.heap.size + 1 + 1 + 1,1,none⟩ = some (.slice none 0 0) := (kB0.set_ 0 (.bool br)).cell 1; have f3 := (kB0.set_ 0 (.bool br)).frozen 1))
  have kA1 : Blk ((w3.setCell ⟨w.heap.size + 1 + 1,0,none⟩ (.bool bq)).setCell ⟨w.heap.size + 1 + 1,1,none⟩ (.slice Aq nq cq)) (w.heap.size + 1 + 1) 38 #[.bool bq,.slice Aq nq cq] := (hk2A.set_ 0 (.bool bq)).set_ 1 (.slice Aq nq cq)
  have kB1 : Blk ((w3.setCell ⟨w.heap.size + 1 + 1,0,none⟩ (.bool bq)).setCell ⟨w.heap.size + 1 + 1,1,none⟩ (.slice Aq nq cq)) (w.heap.size + 1 + 1 + 1) 38 #[.bool false,.slice none 0 0] := (hk2B.far (p := ⟨w.heap.size + 1 + 1,0,none⟩) (by dsimp only; omega) (.bool bq)).far (p := ⟨w.heap.size + 1 + 1,1,none⟩) (by dsimp only; omega) (.slice Aq nq cq)
  have kB2 := (kB1.set_ 0 (.bool br)).set_ 1 (.slice Ar nr cr)
  have kA2 := (kA1.far (p := ⟨w.heap.size + 1 + 1 + 1,0,none⟩) (by dsimp only; omega) (.bool br)).far (p := ⟨w.heap.size + 1 + 1 + 1,1,none⟩) (by dsimp only; omega) (.slice Ar nr cr)
  have r0 := kA2.cell 0
  have r1 := kA2.cell 1
  have r2 := kB2.cell 0
  have r3 := kB2.cell 1
  have uq := zay (zay hwq3 hk2A bq Aq nq cq) kB1 br Ar nr cr
  have ur := zay (zay hwr hk2A bq Aq nq cq) kB1 br Ar nr cr
  have ub := zad HBW.out hbb
  have ub := zag (p := ⟨w.heap.size + 1 + 1 + 1,1,none⟩) (.slice Ar nr cr) (by dsimp only; omega) (zag (p := ⟨w.heap.size + 1 + 1 + 1,0,none⟩) (.bool br) (by dsimp only; omega) (zag (p := ⟨w.heap.size + 1 + 1,1,none⟩) (.slice Aq nq cq) (by dsimp only; omega) (zag (p := ⟨w.heap.size + 1 + 1,0,none⟩) (.bool bq) (by dsimp only; omega) ub)))
  have HG : Hid (zbu w qz rz (.returned (.tuple #[.agg #[.bool bq,.slice Aq nq cq],.agg #[.bool br,.slice Ar nr cr]])) ((((w3.setCell ⟨w.heap.size + 1 + 1,0,none⟩ (.bool bq)).setCell ⟨w.heap.size + 1 + 1,1,none⟩ (.slice Aq nq cq)).setCell ⟨w.heap.size + 1 + 1 + 1,0,none⟩ (.bool br)).setCell ⟨w.heap.size + 1 + 1 + 1,1,none⟩ (.slice Ar nr cr))) := by
   show zbu _ _ _ _ _
   rw [HZ1.out,HZ2.out]
   exact ⟨_,_,_,_,_,_,_,_,rfl,uq,ur,ub⟩
  clear kA1 kB1 kB2 kA2 uq ur ub
  go_wp2
  refine bodyPost_ret (v := .tuple #[.agg #[.bool bq,.slice Aq nq cq],.agg #[.bool br,.slice Ar nr cr]]) (by simp [results,Tryz.results83,go_sem,r0,r1,r2,r3]) rfl ?_
  exact HG.out
 ·by_cases h0 : V = 0
  ·obtain ⟨z1,z2⟩ := HE.out true (by simpa using hba) hbd h0
   have HZ1 := lh9 z1
   have HZ2 := lh9 z2
   clear HS HE HF z1 z2 hba hbd
   go_enter Tryz.func83,Tryz.ntmps83
   go_wp2_with fail
   generalize (((w.alloc (.cells #[.bool false,.slice A n c] 38)).alloc (.cells #[.bool true,.slice D m d] 38)).alloc (.cells #[.bool false,.slice none 0 0] 38)).alloc (.cells #[.bool false,.slice none 0 0] 38) = W0 at *
   have g1 : W0.cell? ⟨w.heap.size,0,none⟩ = some (.bool false) := x1.cell 0
   have e1 : W0.cell? ⟨w.heap.size,1,none⟩ = some (.slice A n c) := x1.cell 1
   have g2 : W0.cell? ⟨w.heap.size + 1,0,none⟩ = some (.bool true) := x2.cell 0
   have e2 : W0.cell? ⟨w.heap.size + 1,1,none⟩ = some (.slice D m d) := x2.cell 1
   clear x1 x2 x5
   go_wp2_with fail
   refine (HDM.out _ hB).mono ?_
   rintro e W1 ⟨A5,n5,c5,A6,n6,c6,rfl,hq5,hr5,hb⟩
   have hB := zad hB hb
   have g1 := zac hb g1
   have e1 := zac hb e1
   have g2 := zac hb g2
   have e2 := zac hb e2
   have hkA := zae hb hkA
   have hkB := zae hb hkB
   have HBW := lh9 hB
   have l5 := HLQ.out U n5 (by omega) hq5.len
   have l6 := HLR.out V n6 (by omega) hr5.len
   have hn6 : ((n6 : Int) == 0) = true := by rw [beq_iff_eq,hr5.len,h0]; rfl
   clear hb HDM
   have HNQ := lh9 (zaI true U A5 n5 c5 W1 hq5 (by omega))
   go_wp2_with fail
   refine HNQ.out.mono ?_
   rintro e w3 ⟨bq,Aq,nq,cq,rfl,hwq,hb⟩
   have hkA := zae hb hkA
   have hkB := zae hb hkB
   have hwr : zaz w3 0 false none 0 0 := ⟨rfl,⟨zaq.none_,Nat.le_refl _,by omega⟩⟩
   clear g1 e1 g2 e2 HNQ
   have kA1 : Blk ((w3.setCell ⟨w.heap.size + 1 + 1,0,none⟩ (.bool bq)).setCell ⟨w.heap.size + 1 + 1,1,none⟩ (.slice Aq nq cq)) (w.heap.size + 1 + 1) 38 #[.bool bq,.slice Aq nq cq] := (hkA.set_ 0 (.bool bq)).set_ 1 (.slice Aq nq cq)
   have kB1 : Blk ((w3.setCell ⟨w.heap.size + 1 + 1,0,none⟩ (.bool bq)).setCell ⟨w.heap.size + 1 + 1,1,none⟩ (.slice Aq nq cq)) (w.heap.size + 1 + 1 + 1) 38 #[.bool false,.slice none 0 0] := (hkB.far (p := ⟨w.heap.size + 1 + 1,0,none⟩) (by dsimp only; omega) (.bool bq)).far (p := ⟨w.heap.size + 1 + 1,1,none⟩) (by dsimp only; omega) (.slice Aq nq cq)
   have kB2 := (kB1.set_ 0 (.bool false)).set_ 1 (.slice none 0 0)
   have kA2 := (kA1.far (p := ⟨w.heap.size + 1 + 1 + 1,0,none⟩) (by dsimp only; omega) (.bool false)).far (p := ⟨w.heap.size + 1 + 1 + 1,1,none⟩) (by dsimp only; omega) (.slice none 0 0)
   have r0 := kA2.cell 0
   have r1 := kA2.cell 1
   have r2 := kB2.cell 0
   have r3 := kB2.cell 1
   have uq := zay (zay hwq hkA bq Aq nq cq) kB1 false none 0 0
   have ur := zay (zay hwr hkA bq Aq nq cq) kB1 false none 0 0
   have ub := zad HBW.out hb
   have ub := zag (p := ⟨w.heap.size + 1 + 1 + 1,1,none⟩) (.slice none 0 0) (by dsimp only; omega) (zag (p := ⟨w.heap.size + 1 + 1 + 1,0,none⟩) (.bool false) (by dsimp only; omega) (zag (p := ⟨w.heap.size + 1 + 1,1,none⟩) (.slice Aq nq cq) (by dsimp only; omega) (zag (p := ⟨w.heap.size + 1 + 1,0,none⟩) (.bool bq) (by dsimp only; omega) ub)))
   have HG : Hid (zbu w qz rz (.returned (.tuple #[.agg #[.bool bq,.slice Aq nq cq],.agg #[.bool false,.slice none 0 0]])) ((((w3.setCell ⟨w.heap.size + 1 + 1,0,none⟩ (.bool bq)).setCell ⟨w.heap.size + 1 + 1,1,none⟩ (.slice Aq nq cq)).setCell ⟨w.heap.size + 1 + 1 + 1,0,none⟩ (.bool false)).setCell ⟨w.heap.size + 1 + 1 + 1,1,none⟩ (.slice none 0 0))) := by
    show zbu _ _ _ _ _
    rw [HZ1.out,HZ2.out]
    exact ⟨_,_,_,_,_,_,_,_,rfl,uq,ur,ub⟩
   have c0 := hkA.cell 0
   have f0 := hkA.frozen 0
   have c1 : (w3.setCell ⟨w.heap.size + 1 + 1,0,none⟩ (.bool bq)).cell? ⟨w.heap.size + 1 + 1,1,none⟩ = some (.slice none 0 0) := (hkA.set_ 0 (.bool bq)).cell 1
   have f1 := (hkA.set_ 0 (.bool bq)).frozen 1
   have c2 := kB1.cell 0
   have f2 := kB1.frozen 0
   have c3 : (((w3.setCell ⟨w.heap.size + 1 + 1,0,none⟩ (.bool bq)).setCell ⟨w.heap.size + 1 + 1,1,none⟩ (.slice Aq nq cq)).setCell ⟨w.heap.size + 1 + 1 + 1,0,none⟩ (.bool false)).cell? ⟨w.heap.size + 1 + 1 + 1,1,none⟩ = some (.slice none 0 0) := (kB1.set_ 0 (.bool false)).cell 1
   have f3 := (kB1.set_ 0 (.bool false)).frozen 1
   clear kA1 kB1 kB2 kA2 uq ur ub
   go_wp2
   refine bodyPost_ret (v := .tuple #[.agg #[.bool bq,.slice Aq nq cq],.agg #[.bool false,.slice none 0 0]]) (by simp [results,Tryz.results83,go_sem,r0,r1,r2,r3]) rfl ?_
   exact HG.out
  ·obtain ⟨z1,z2⟩ := HF.out true (by simpa using hba) hbd h0
   have HZ1 := lh9 z1
   have HZ2 := lh9 z2
   clear HS HE HF z1 z2 hba hbd
   go_enter Tryz.func83,Tryz.ntmps83
   go_wp2_with fail
   generalize (((w.alloc (.cells #[.bool false,.slice A n c] 38)).alloc (.cells #[.bool true,.slice D m d] 38)).alloc (.cells #[.bool false,.slice none 0 0] 38)).alloc (.cells #[.bool false,.slice none 0 0] 38) = W0 at *
   have g1 : W0.cell? ⟨w.heap.size,0,none⟩ = some (.bool false) := x1.cell 0
   have e1 : W0.cell? ⟨w.heap.size,1,none⟩ = some (.slice A n c) := x1.cell 1
   have g2 : W0.cell? ⟨w.heap.size + 1,0,none⟩ = some (.bool true) := x2.cell 0
   have e2 : W0.cell? ⟨w.heap.size + 1,1,none⟩ = some (.slice D m d) := x2.cell 1
   clear x1 x2 x5
   go_wp2_with fail
   refine (HDM.out _ hB).mono ?_
   rintro e W1 ⟨A5,n5,c5,A6,n6,c6,rfl,hq5,hr5,hb⟩
   have hB := zad hB hb
   have g1 := zac hb g1
   have e1 := zac hb e1
   have g2 := zac hb g2
   have e2 := zac hb e2
   have hkA := zae hb hkA
   have hkB := zae hb hkB
   have HBW := lh9 hB
   have l5 := HLQ.out U n5 (by omega) hq5.len
   have l6 := HLR.out V n6 (by omega) hr5.len
   have hn6 : ((n6 : Int) == 0) = false := by
    have h9 := (zfi (b := 65536) (by decide) V h0).1
    rw [← hr5.len] at h9
    rw [beq_eq_false_iff_ne]
    omega
   clear hb HDM
   have hk0A := hkA.drew
   have hk0B := hkB.drew
   have HADQ := lh9 (fun w' (h : Below W1.heap.size W1 w') g (hk : Blk w' g 3 #[.int .i64 1]) => zdW U 1 A5 (some ⟨g,0,none⟩) n5 1 c5 1 w' (hq5.below h) (zfS hk) (by omega) (by omega))
   have HNQ := lh9 (fun w' A n c (h : zal w' (U + 1) A n c) (hl : n ≤ 549755813888) => zaI true (U + 1) A n c w' h (by omega))
   have HSU := lh9 (fun w' (h : Below W1.heap.size W1 w') => zbK Y V (by omega) D A6 m n6 d c6 w' (HHD.out w' (zad HBW.out h)) (hr5.below h) (by omega) (by omega))
   have HNR := lh9 (fun w' A n c (h : zal w' (Y - V) A n c) (hl : n ≤ 549755813888) => zaI true (Y - V) A n c w' h (by omega))
   have hlw := hB.size
   have hb0 := (Below.refl W1.heap.size W1).drew
   have hbw0 := hB.drew
   have hz3 : w.heap.size + 1 + 1 + 1 < W1.heap.size := hkB.lt
   have j0 : W1.drew.cell? ⟨w.heap.size + 1,0,none⟩ = some (.bool true) := g2
   have j1 : W1.drew.cell? ⟨w.heap.size + 1,1,none⟩ = some (.slice D m d) := e2
   go_wp2_with fail
   go_region_held3 (fun w' => Below w.heap.size w w' ∧ w'.cell? ⟨w.heap.size + 1,0,none⟩ = some (.bool true) ∧ w'.cell? ⟨w.heap.size + 1,1,none⟩ = some (.slice D m d))
    (first | (exact ⟨hbw0,j0,j1⟩) | (go_split_ands; (repeat' apply And.intro); all_goals (first | with_reducible assumption | with_reducible exact zad (by with_reducible assumption) hb | with_reducible exact zac hb (by with_reducible assumption) | with_reducible exact zaj _ (by with_reducible assumption) | with_reducible exact zak _ (by with_reducible assumption) | with_reducible exact zag _ (by dsimp only; omega) (zag _ (by dsimp only; omega) (by with_reducible assumption)) | with_reducible exact zaf _ (by dsimp only; omega) (zaf _ (by dsimp only; omega) (by with_reducible assumption)) | with_reducible exact Below.drew (zaj _ hB) | exact zak _ g2 | exact zak _ e2 | fail)))
    (first
      | (go_at_call 107; (first | (with_reducible refine (HADQ.out _ (zaj _ hb0) _ (Blk.newAt (by simp))).mono ?_) | (with_reducible refine (HADQ.out _ (Below.drew (zaA _ _)) _ (Blk.drew (Blk.new _ _ _))).mono ?_) | (with_reducible refine (HADQ.out _ (Below.drew (zaA _ _)) _ (Blk.drew (Blk.newAt (by simp)))).mono ?_)); intro e w7 hg; obtain ⟨A7,n7,c7,rfl,hh7,hb⟩ := hg.elim; have hbb7 : Below W1.heap.size W1 w7 := zad (by first | (with_reducible exact zaj _ hb0) | (with_reducible exact Below.drew (zaA _ _))) hb; have hl7 := HLQ.out _ _ (by omega) hh7.len; have hk7A := zae hb (by first | (with_reducible exact Blk.alloc hk0A _) | (with_reducible exact Blk.drew (Blk.alloc hkA _))); have hk7B := zae hb (by first | (with_reducible exact Blk.alloc hk0B _) | (with_reducible exact Blk.drew (Blk.alloc hkB _))))
      | (go_at_call 62; (with_reducible refine (HNQ.out _ _ _ _ hh7 hl7).mono ?_); rintro e w8 ⟨bq,Aq,nq,cq,rfl,hwq8,hb⟩; have hk8A := zae hb hk7A; have hk8B := zae hb hk7B; have hbb8 : Below W1.heap.size W1 w8 := zad hbb7 hb)
      | (go_at_call 103; (with_reducible refine (HSU.out _ hbb8).mono ?_); intro e w2 hg; obtain ⟨A9,n9,c9,rfl,hh9,hb⟩ := hg.elim; have hl9 := HLR.out _ _ (by omega) hh9.len; have hk1A := zae hb hk8A; have hk1B := zae hb hk8B; have hwq := hwq8.below hb; have hbb1 : Below W1.heap.size W1 w2 := zad hbb8 hb)
      | (go_at_call 62; (with_reducible refine (HNR.out _ _ _ _ hh9 hl9).mono ?_); rintro e w3 ⟨br,Ar,nr,cr,rfl,hwr,hb⟩; have hk2A := zae hb hk1A; have hk2B := zae hb hk1B; have hwq3 := hwq.below hb; have hbb : Below W1.heap.size W1 w3 := zad hbb1 hb; have c0 := hk2A.cell 0; have f0 := hk2A.frozen 0; have c1 : (w3.setCell ⟨w.heap.size + 1 + 1,0,none⟩ (.bool bq)).cell? ⟨w.heap.size + 1 + 1,1,none⟩ = some (.slice none 0 0) := (hk2A.set_ 0 (.bool bq)).cell 1; have f1 := (hk2A.set_ 0 (.bool bq)).frozen 1; have kB0 : Blk ((w3.setCell ⟨w.heap.size + 1 + 1,0,none⟩ (.bool bq)).setCell ⟨w.heap.size + 1 + 1,1,none⟩ (.slice Aq nq cq)) (w.heap.size + 1 + 1 + 1) 38 #[.bool false,.slice none 0 0] := (hk2B.far (p := ⟨w.heap.size + 1 + 1,0,none⟩) (by dsimp only; omega) (.bool bq)).far (p := ⟨w.heap.size + 1 + 1,1,none⟩) (by dsimp only; omega) (.slice Aq nq cq); have c2 := kB0.cell 0; have f2 := kB0.frozen 0; have c3 : (((w3.setCell ⟨w.heap.size + 1 + 1,0,none⟩ (.bool bq)).setCell ⟨w.heap.size + 1 + 1,1,none⟩ (.slice Aq nq cq)).setCell ⟨w.heap.size + 1 + 1 + 1,0,none⟩ (.bool br)).cell? ⟨w.heap.size + 1 + 1 + 1,1,none⟩ = some (.slice none 0 0) := (kB0.set_ 0 (.bool br)).cell 1; have f3 := (kB0.set_ 0 (.bool br)).frozen 1))
   have kA1 : Blk ((w3.setCell ⟨w.heap.size + 1 + 1,0,none⟩ (.bool bq)).setCell ⟨w.heap.size + 1 + 1,1,none⟩ (.slice Aq nq cq)) (w.heap.size + 1 + 1) 38 #[.bool bq,.slice Aq nq cq] := (hk2A.set_ 0 (.bool bq)).set_ 1 (.slice Aq nq cq)
   have kB1 : Blk ((w3.setCell ⟨w.heap.size + 1 + 1,0,none⟩ (.bool bq)).setCell ⟨w.heap.size + 1 + 1,1,none⟩ (.slice Aq nq cq)) (w.heap.size + 1 + 1 + 1) 38 #[.bool false,.slice none 0 0] := (hk2B.far (p := ⟨w.heap.size + 1 + 1,0,none⟩) (by dsimp only; omega) (.bool bq)).far (p := ⟨w.heap.size + 1 + 1,1,none⟩) (by dsimp only; omega) (.slice Aq nq cq)
   have kB2 := (kB1.set_ 0 (.bool br)).set_ 1 (.slice Ar nr cr)
   have kA2 := (kA1.far (p := ⟨w.heap.size + 1 + 1 + 1,0,none⟩) (by dsimp only; omega) (.bool br)).far (p := ⟨w.heap.size + 1 + 1 + 1,1,none⟩) (by dsimp only; omega) (.slice Ar nr cr)
   have r0 := kA2.cell 0
   have r1 := kA2.cell 1
   have r2 := kB2.cell 0
   have r3 := kB2.cell 1
   have uq := zay (zay hwq3 hk2A bq Aq nq cq) kB1 br Ar nr cr
   have ur := zay (zay hwr hk2A bq Aq nq cq) kB1 br Ar nr cr
   have ub := zad HBW.out hbb
   have ub := zag (p := ⟨w.heap.size + 1 + 1 + 1,1,none⟩) (.slice Ar nr cr) (by dsimp only; omega) (zag (p := ⟨w.heap.size + 1 + 1 + 1,0,none⟩) (.bool br) (by dsimp only; omega) (zag (p := ⟨w.heap.size + 1 + 1,1,none⟩) (.slice Aq nq cq) (by dsimp only; omega) (zag (p := ⟨w.heap.size + 1 + 1,0,none⟩) (.bool bq) (by dsimp only; omega) ub)))
   have HG : Hid (zbu w qz rz (.returned (.tuple #[.agg #[.bool bq,.slice Aq nq cq],.agg #[.bool br,.slice Ar nr cr]])) ((((w3.setCell ⟨w.heap.size + 1 + 1,0,none⟩ (.bool bq)).setCell ⟨w.heap.size + 1 + 1,1,none⟩ (.slice Aq nq cq)).setCell ⟨w.heap.size + 1 + 1 + 1,0,none⟩ (.bool br)).setCell ⟨w.heap.size + 1 + 1 + 1,1,none⟩ (.slice Ar nr cr))) := by
    show zbu _ _ _ _ _
    rw [HZ1.out,HZ2.out]
    exact ⟨_,_,_,_,_,_,_,_,rfl,uq,ur,ub⟩
   clear kA1 kB1 kB2 kA2 uq ur ub
   go_wp2
   refine bodyPost_ret (v := .tuple #[.agg #[.bool bq,.slice Aq nq cq],.agg #[.bool br,.slice Ar nr cr]]) (by simp [results,Tryz.results83,go_sem,r0,r1,r2,r3]) rfl ?_
   exact HG.out
 ·by_cases h0 : V = 0
  ·obtain ⟨z1,z2⟩ := HE.out false (by simpa using hba) hbd h0
   have HZ1 := lh9 z1
   have HZ2 := lh9 z2
   clear HS HE HF z1 z2 hba hbd
   go_enter Tryz.func83,Tryz.ntmps83
   go_wp2_with fail
   generalize (((w.alloc (.cells #[.bool true,.slice A n c] 38)).alloc (.cells #[.bool false,.slice D m d] 38)).alloc (.cells #[.bool false,.slice none 0 0] 38)).alloc (.cells #[.bool false,.slice none 0 0] 38) = W0 at *
   have g1 : W0.cell? ⟨w.heap.size,0,none⟩ = some (.bool true) := x1.cell 0
   have e1 : W0.cell? ⟨w.heap.size,1,none⟩ = some (.slice A n c) := x1.cell 1
   have g2 : W0.cell? ⟨w.heap.size + 1,0,none⟩ = some (.bool false) := x2.cell 0
   have e2 : W0.cell? ⟨w.heap.size + 1,1,none⟩ = some (.slice D m d) := x2.cell 1
   clear x1 x2 x5
   go_wp2_with fail
   refine (HDM.out _ hB).mono ?_
   rintro e W1 ⟨A5,n5,c5,A6,n6,c6,rfl,hq5,hr5,hb⟩
   have hB := zad hB hb
   have g1 := zac hb g1
   have e1 := zac hb e1
   have g2 := zac hb g2
   have e2 := zac hb e2
   have hkA := zae hb hkA
   have hkB := zae hb hkB
   have HBW := lh9 hB
   have l5 := HLQ.out U n5 (by omega) hq5.len
   have l6 := HLR.out V n6 (by omega) hr5.len
   have hn6 : ((n6 : Int) == 0) = true := by rw [beq_iff_eq,hr5.len,h0]; rfl
   clear hb HDM
   have HNQ := lh9 (zaI true U A5 n5 c5 W1 hq5 (by omega))
   go_wp2_with fail
   refine HNQ.out.mono ?_
   rintro e w3 ⟨bq,Aq,nq,cq,rfl,hwq,hb⟩
   have hkA := zae hb hkA
   have hkB := zae hb hkB
   have hwr : zaz w3 0 false none 0 0 := ⟨rfl,⟨zaq.none_,Nat.le_refl _,by omega⟩⟩
   clear g1 e1 g2 e2 HNQ
   have kA1 : Blk ((w3.setCell ⟨w.heap.size + 1 + 1,0,none⟩ (.bool bq)).setCell ⟨w.heap.size + 1 + 1,1,none⟩ (.slice Aq nq cq)) (w.heap.size + 1 + 1) 38 #[.bool bq,.slice Aq nq cq] := (hkA.set_ 0 (.bool bq)).set_ 1 (.slice Aq nq cq)
   have kB1 : Blk ((w3.setCell ⟨w.heap.size + 1 + 1,0,none⟩ (.bool bq)).setCell ⟨w.heap.size + 1 + 1,1,none⟩ (.slice Aq nq cq)) (w.heap.size + 1 + 1 + 1) 38 #[.bool false,.slice none 0 0] := (hkB.far (p := ⟨w.heap.size + 1 + 1,0,none⟩) (by dsimp only; omega) (.bool bq)).far (p := ⟨w.heap.size + 1 + 1,1,none⟩) (by dsimp only; omega) (.slice Aq nq cq)
   have kB2 := (kB1.set_ 0 (.bool false)).set_ 1 (.slice none 0 0)
   have kA2 := (kA1.far (p := ⟨w.heap.size + 1 + 1 + 1,0,none⟩) (by dsimp only; omega) (.bool false)).far (p := ⟨w.heap.size + 1 + 1 + 1,1,none⟩) (by dsimp only; omega) (.slice none 0 0)
   have r0 := kA2.cell 0
   have r1 := kA2.cell 1
   have r2 := kB2.cell 0
   have r3 := kB2.cell 1
   have uq := zay (zay hwq hkA bq Aq nq cq) kB1 false none 0 0
   have ur := zay (zay hwr hkA bq Aq nq cq) kB1 false none 0 0
   have ub := zad HBW.out hb
   have ub := zag (p := ⟨w.heap.size + 1 + 1 + 1,1,none⟩) (.slice none 0 0) (by dsimp only; omega) (zag (p := ⟨w.heap.size + 1 + 1 + 1,0,none⟩) (.bool false) (by dsimp only; omega) (zag (p := ⟨w.heap.size + 1 + 1,1,none⟩) (.slice Aq nq cq) (by dsimp only; omega) (zag (p := ⟨w.heap.size + 1 + 1,0,none⟩) (.bool bq) (by dsimp only; omega) ub)))
   have HG : Hid (zbu w qz rz (.returned (.tuple #[.agg #[.bool bq,.slice Aq nq cq],.agg #[.bool false,.slice none 0 0]])) ((((w3.setCell ⟨w.heap.size + 1 + 1,0,none⟩ (.bool bq)).setCell ⟨w.heap.size + 1 + 1,1,none⟩ (.slice Aq nq cq)).setCell ⟨w.heap.size + 1 + 1 + 1,0,none⟩ (.bool false)).setCell ⟨w.heap.size + 1 + 1 + 1,1,none⟩ (.slice none 0 0))) := by
    show zbu _ _ _ _ _
    rw [HZ1.out,HZ2.out]
    exact ⟨_,_,_,_,_,_,_,_,rfl,uq,ur,ub⟩
   have c0 := hkA.cell 0
   have f0 := hkA.frozen 0
   have c1 : (w3.setCell ⟨w.heap.size + 1 + 1,0,none⟩ (.bool bq)).cell? ⟨w.heap.size + 1 + 1,1,none⟩ = some (.slice none 0 0) := (hkA.set_ 0 (.bool bq)).cell 1
   have f1 := (hkA.set_ 0 (.bool bq)).frozen 1
   have c2 := kB1.cell 0
   have f2 := kB1.frozen 0
   have c3 : (((w3.setCell ⟨w.heap.size + 1 + 1,0,none⟩ (.bool bq)).setCell ⟨w.heap.size + 1 + 1,1,none⟩ (.slice Aq nq cq)).setCell ⟨w.heap.size + 1 + 1 + 1,0,none⟩ (.bool false)).cell? ⟨w.heap.size + 1 + 1 + 1,1,none⟩ = some (.slice none 0 0) := (kB1.set_ 0 (.bool false)).cell 1
   have f3 := (kB1.set_ 0 (.bool false)).frozen 1
   clear kA1 kB1 kB2 kA2 uq ur ub
   go_wp2
   refine bodyPost_ret (v := .tuple #[.agg #[.bool bq,.slice Aq nq cq],.agg #[.bool false,.slice none 0 0]]) (by simp [results,Tryz.results83,go_sem,r0,r1,r2,r3]) rfl ?_
   exact HG.out
  ·obtain ⟨z1,z2⟩ := HF.out false (by simpa using hba) hbd h0
   have HZ1 := lh9 z1
   have HZ2 := lh9 z2
   clear HS HE HF z1 z2 hba hbd
   go_enter Tryz.func83,Tryz.ntmps83
   go_wp2_with fail
   generalize (((w.alloc (.cells #[.bool true,.slice A n c] 38)).alloc (.cells #[.bool false,.slice D m d] 38)).alloc (.cells #[.bool false,.slice none 0 0] 38)).alloc (.cells #[.bool false,.slice none 0 0] 38) = W0 at *
   have g1 : W0.cell? ⟨w.heap.size,0,none⟩ = some (.bool true) := x1.cell 0
   have e1 : W0.cell? ⟨w.heap.size,1,none⟩ = some (.slice A n c) := x1.cell 1
   have g2 : W0.cell? ⟨w.heap.size + 1,0,none⟩ = some (.bool false) := x2.cell 0
   have e2 : W0.cell? ⟨w.heap.size + 1,1,none⟩ = some (.slice D m d) := x2.cell 1
   clear x1 x2 x5
   go_wp2_with fail
   refine (HDM.out _ hB).mono ?_
   rintro e W1 ⟨A5,n5,c5,A6,n6,c6,rfl,hq5,hr5,hb⟩
   have hB := zad hB hb
   have g1 := zac hb g1
   have e1 := zac hb e1
   have g2 := zac hb g2
   have e2 := zac hb e2
   have hkA := zae hb hkA
   have hkB := zae hb hkB
   have HBW := lh9 hB
   have l5 := HLQ.out U n5 (by omega) hq5.len
   have l6 := HLR.out V n6 (by omega) hr5.len
   have hn6 : ((n6 : Int) == 0) = false := by
    have h9 := (zfi (b := 65536) (by decide) V h0).1
    rw [← hr5.len] at h9
    rw [beq_eq_false_iff_ne]
    omega
   clear hb HDM
   have hk0A := hkA.drew
   have hk0B := hkB.drew
   have HADQ := lh9 (fun w' (h : Below W1.heap.size W1 w') g (hk : Blk w' g 3 #[.int .i64 1]) => zdW U 1 A5 (some ⟨g,0,none⟩) n5 1 c5 1 w' (hq5.below h) (zfS hk) (by omega) (by omega))
   have HNQ := lh9 (fun w' A n c (h : zal w' (U + 1) A n c) (hl : n ≤ 549755813888) => zaI true (U + 1) A n c w' h (by omega))
   have HSU := lh9 (fun w' (h : Below W1.heap.size W1 w') => zbK Y V (by omega) D A6 m n6 d c6 w' (HHD.out w' (zad HBW.out h)) (hr5.below h) (by omega) (by omega))
   have HNR := lh9 (fun w' A n c (h : zal w' (Y - V) A n c) (hl : n ≤ 549755813888) => zaI false (Y - V) A n c w' h (by omega))
   have hlw := hB.size
   have hb0 := (Below.refl W1.heap.size W1).drew
   have hbw0 := hB.drew
   have hz3 : w.heap.size + 1 + 1 + 1 < W1.heap.size := hkB.lt
   have j0 : W1.drew.cell? ⟨w.heap.size + 1,0,none⟩ = some (.bool false) := g2
   have j1 : W1.drew.cell? ⟨w.heap.size + 1,1,none⟩ = some (.slice D m d) := e2
   go_wp2_with fail
   go_region_held3 (fun w' => Below w.heap.size w w' ∧ w'.cell? ⟨w.heap.size + 1,0,none⟩ = some (.bool false) ∧ w'.cell? ⟨w.heap.size + 1,1,none⟩ = some (.slice D m d))
    (first | (exact ⟨hbw0,j0,j1⟩) | (go_split_ands; (repeat' apply And.intro); all_goals (first | with_reducible assumption | with_reducible exact zad (by with_reducible assumption) hb | with_reducible exact zac hb (by with_reducible assumption) | with_reducible exact zaj _ (by with_reducible assumption) | with_reducible exact zak _ (by with_reducible assumption) | with_reducible exact zag _ (by dsimp only; omega) (zag _ (by dsimp only; omega) (by with_reducible assumption)) | with_reducible exact zaf _ (by dsimp only; omega) (zaf _ (by dsimp only; omega) (by with_reducible assumption)) | with_reducible exact Below.drew (zaj _ hB) | exact zak _ g2 | exact zak _ e2 | fail)))
    (first
      | (go_at_call 107; (first | (with_reducible refine (HADQ.out _ (zaj _ hb0) _ (Blk.newAt (by simp))).mono ?_) | (with_reducible refine (HADQ.out _ (Below.drew (zaA _ _)) _ (Blk.drew (Blk.new _ _ _))).mono ?_) | (with_reducible refine (HADQ.out _ (Below.drew (zaA _ _)) _ (Blk.drew (Blk.newAt (by simp)))).mono ?_)); intro e w7 hg; obtain ⟨A7,n7,c7,rfl,hh7,hb⟩ := hg.elim; have hbb7 : Below W1.heap.size W1 w7 := zad (by first | (with_reducible exact zaj _ hb0) | (with_reducible exact Below.drew (zaA _ _))) hb; have hl7 := HLQ.out _ _ (by omega) hh7.len; have hk7A := zae hb (by first | (with_reducible exact Blk.alloc hk0A _) | (with_reducible exact Blk.drew (Blk.alloc hkA _))); have hk7B := zae hb (by first | (with_reducible exact Blk.alloc hk0B _) | (with_reducible exact Blk.drew (Blk.alloc hkB _))))
      | (go_at_call 62; (with_reducible refine (HNQ.out _ _ _ _ hh7 hl7).mono ?_); rintro e w8 ⟨bq,Aq,nq,cq,rfl,hwq8,hb⟩; have hk8A := zae hb hk7A; have hk8B := zae hb hk7B; have hbb8 : Below W1.heap.size W1 w8 := zad hbb7 hb)
      | (go_at_call 103; (with_reducible refine (HSU.out _ hbb8).mono ?_); intro e w2 hg; obtain ⟨A9,n9,c9,rfl,hh9,hb⟩ := hg.elim; have hl9 := HLR.out _ _ (by omega) hh9.len; have hk1A := zae hb hk8A; have hk1B := zae hb hk8B; have hwq := hwq8.below hb; have hbb1 : Below W1.heap.size W1 w2 := zad hbb8 hb)
      | (go_at_call 62; (with_reducible refine (HNR.out _ _ _ _ hh9 hl9).mono ?_); rintro e w3 ⟨br,Ar,nr,cr,rfl,hwr,hb⟩; have hk2A := zae hb hk1A; have hk2B := zae hb hk1B; have hwq3 := hwq.below hb; have hbb : Below W1.heap.size W1 w3 := zad hbb1 hb; have c0 := hk2A.cell 0; have f0 := hk2A.frozen 0; have c1 : (w3.setCell ⟨w.heap.size + 1 + 1,0,none⟩ (.bool bq)).cell? ⟨w.heap.size + 1 + 1,1,none⟩ = some (.slice none 0 0) := (hk2A.set_ 0 (.bool bq)).cell 1; have f1 := (hk2A.set_ 0 (.bool bq)).frozen 1; have kB0 : Blk ((w3.setCell ⟨w.heap.size + 1 + 1,0,none⟩ (.bool bq)).setCell ⟨w.heap.size + 1 + 1,1,none⟩ (.slice Aq nq cq)) (w.heap.size + 1 + 1 + 1) 38 #[.bool false,.slice none 0 0] := (hk2B.far (p := ⟨w.heap.size + 1 + 1,0,none⟩) (by dsimp only; omega) (.bool bq)).far (p := ⟨w.heap.size + 1 + 1,1,none⟩) (by dsimp only; omega) (.slice Aq nq cq); have c2 := kB0.cell 0; have f2 := kB0.frozen 0; have c3 : (((w3.setCell ⟨w.heap.size + 1 + 1,0,none⟩ (.bool bq)).setCell ⟨w.heap.size + 1 + 1,1,none⟩ (.slice Aq nq cq)).setCell ⟨w.heap.size + 1 + 1 + 1,0,none⟩ (.bool br)).cell? ⟨w.heap.size + 1 + 1 + 1,1,none⟩ = some (.slice none 0 0) := (kB0.set_ 0 (.bool br)).cell 1; have f3 := (kB0.set_ 0 (.bool br)).frozen 1))
   have kA1 : Blk ((w3.setCell ⟨w.heap.size + 1 + 1,0,none⟩ (.bool bq)).setCell ⟨w.heap.size + 1 + 1,1,none⟩ (.slice Aq nq cq)) (w.heap.size + 1 + 1) 38 #[.bool bq,.slice Aq nq cq] := (hk2A.set_ 0 (.bool bq)).set_ 1 (.slice Aq nq cq)
   have kB1 : Blk ((w3.setCell ⟨w.heap.size + 1 + 1,0,none⟩ (.bool bq)).setCell ⟨w.heap.size + 1 + 1,1,none⟩ (.slice Aq nq cq)) (w.heap.size + 1 + 1 + 1) 38 #[.bool false,.slice none 0 0] := (hk2B.far (p := ⟨w.heap.size + 1 + 1,0,none⟩) (by dsimp only; omega) (.bool bq)).far (p := ⟨w.heap.size + 1 + 1,1,none⟩) (by dsimp only; omega) (.slice Aq nq cq)
   have kB2 := (kB1.set_ 0 (.bool br)).set_ 1 (.slice Ar nr cr)
   have kA2 := (kA1.far (p := ⟨w.heap.size + 1 + 1 + 1,0,none⟩) (by dsimp only; omega) (.bool br)).far (p := ⟨w.heap.size + 1 + 1 + 1,1,none⟩) (by dsimp only; omega) (.slice Ar nr cr)
   have r0 := kA2.cell 0
   have r1 := kA2.cell 1
   have r2 := kB2.cell 0
   have r3 := kB2.cell 1
   have uq := zay (zay hwq3 hk2A bq Aq nq cq) kB1 br Ar nr cr
   have ur := zay (zay hwr hk2A bq Aq nq cq) kB1 br Ar nr cr
   have ub := zad HBW.out hbb
   have ub := zag (p := ⟨w.heap.size + 1 + 1 + 1,1,none⟩) (.slice Ar nr cr) (by dsimp only; omega) (zag (p := ⟨w.heap.size + 1 + 1 + 1,0,none⟩) (.bool br) (by dsimp only; omega) (zag (p := ⟨w.heap.size + 1 + 1,1,none⟩) (.slice Aq nq cq) (by dsimp only; omega) (zag (p := ⟨w.heap.size + 1 + 1,0,none⟩) (.bool bq) (by dsimp only; omega) ub)))
   have HG : Hid (zbu w qz rz (.returned (.tuple #[.agg #[.bool bq,.slice Aq nq cq],.agg #[.bool br,.slice Ar nr cr]])) ((((w3.setCell ⟨w.heap.size + 1 + 1,0,none⟩ (.bool bq)).setCell ⟨w.heap.size + 1 + 1,1,none⟩ (.slice Aq nq cq)).setCell ⟨w.heap.size + 1 + 1 + 1,0,none⟩ (.bool br)).setCell ⟨w.heap.size + 1 + 1 + 1,1,none⟩ (.slice Ar nr cr))) := by
    show zbu _ _ _ _ _
    rw [HZ1.out,HZ2.out]
    exact ⟨_,_,_,_,_,_,_,_,rfl,uq,ur,ub⟩
   clear kA1 kB1 kB2 kA2 uq ur ub
   go_wp2
   refine bodyPost_ret (v := .tuple #[.agg #[.bool bq,.slice Aq nq cq],.agg #[.bool br,.slice Ar nr cr]]) (by simp [results,Tryz.results83,go_sem,r0,r1,r2,r3]) rfl ?_
   exact HG.out
 ·obtain ⟨z1,z2⟩ := HS.out true hba hbd
  have HZ1 := lh9 z1
  have HZ2 := lh9 z2
  clear HS HE HF z1 z2 hba hbd
  go_enter Tryz.func83,Tryz.ntmps83
  go_wp2_with fail
  generalize (((w.alloc (.cells #[.bool true,.slice A n c] 38)).alloc (.cells #[.bool true,.slice D m d] 38)).alloc (.cells #[.bool false,.slice none 0 0] 38)).alloc (.cells #[.bool false,.slice none 0 0] 38) = W0 at *
  have g1 : W0.cell? ⟨w.heap.size,0,none⟩ = some (.bool true) := x1.cell 0
  have e1 : W0.cell? ⟨w.heap.size,1,none⟩ = some (.slice A n c) := x1.cell 1
  have g2 : W0.cell? ⟨w.heap.size + 1,0,none⟩ = some (.bool true) := x2.cell 0
  have e2 : W0.cell? ⟨w.heap.size + 1,1,none⟩ = some (.slice D m d) := x2.cell 1
  clear x1 x2 x5
  go_wp2_with fail
  refine (HDM.out _ hB).mono ?_
  rintro e W1 ⟨A5,n5,c5,A6,n6,c6,rfl,hq5,hr5,hb⟩
  have hB := zad hB hb
  have g1 := zac hb g1
  have e1 := zac hb e1
  have g2 := zac hb g2
  have e2 := zac hb e2
  have hkA := zae hb hkA
  have hkB := zae hb hkB
  have HBW := lh9 hB
  have l5 := HLQ.out U n5 (by omega) hq5.len
  have l6 := HLR.out V n6 (by omega) hr5.len
  clear hb HDM
  have hk0A := hkA.drew
  have hk0B := hkB.drew
  have HNQ := lh9 (fun w' (h : Below W1.heap.size W1 w') => zaI false U A5 n5 c5 w' (hq5.below h) (by omega))
  have HNR := lh9 (fun w' (h : Below W1.heap.size W1 w') => zaI true V A6 n6 c6 w' (hr5.below h) (by omega))
  have hlw := hB.size
  have hb0 := (Below.refl W1.heap.size W1).drew
  have hbw0 := hB.drew
  have hz3 : w.heap.size + 1 + 1 + 1 < W1.heap.size := hkB.lt
  have j0 : W1.drew.cell? ⟨w.heap.size + 1,0,none⟩ = some (.bool true) := g2
  go_wp2_with fail
  go_region_held3 (fun w' => Below w.heap.size w w' ∧ w'.cell? ⟨w.heap.size + 1,0,none⟩ = some (.bool true))
   (first | (exact ⟨hbw0,j0⟩) | (go_split_ands; (repeat' apply And.intro); all_goals (first | with_reducible assumption | with_reducible exact zad (by with_reducible assumption) hb | with_reducible exact zac hb (by with_reducible assumption) | with_reducible exact zaj _ (by with_reducible assumption) | with_reducible exact zak _ (by with_reducible assumption) | with_reducible exact zag _ (by dsimp only; omega) (zag _ (by dsimp only; omega) (by with_reducible assumption)) | with_reducible exact zaf _ (by dsimp only; omega) (zaf _ (by dsimp only; omega) (by with_reducible assumption)) | fail)))
   (first
     | (go_at_call 62; (with_reducible refine (HNQ.out _ hb0).mono ?_); rintro e w2 ⟨bq,Aq,nq,cq,rfl,hwq,hb⟩; have hk1A := zae hb hk0A; have hk1B := zae hb hk0B; have hbb1 : Below W1.heap.size W1 w2 := zad hb0 hb)
     | (go_at_call 62; (with_reducible refine (HNR.out _ hbb1).mono ?_); rintro e w3 ⟨br,Ar,nr,cr,rfl,hwr,hb⟩; have hk2A := zae hb hk1A; have hk2B := zae hb hk1B; have hwq3 := hwq.below hb; have hbb : Below W1.heap.size W1 w3 := zad hbb1 hb; have c0 := hk2A.cell 0; have f0 := hk2A.frozen 0; have c1 : (w3.setCell ⟨w.heap.size + 1 + 1,0,none⟩ (.bool bq)).cell? ⟨w.heap.size + 1 + 1,1,none⟩ = some (.slice none 0 0) := (hk2A.set_ 0 (.bool bq)).cell 1; have f1 := (hk2A.set_ 0 (.bool bq)).frozen 1; have kB0 : Blk ((w3.setCell ⟨w.heap.size + 1 + 1,0,none⟩ (.bool bq)).setCell ⟨w.heap.size + 1 + 1,1,none⟩ (.slice Aq nq cq)) (w.heap.size + 1 + 1 + 1) 38 #[.bool false,.slice none 0 0] := (hk2B.far (p := ⟨w.heap.size + 1 + 1,0,none⟩) (by dsimp only; omega) (.bool bq)).far (p := ⟨w.heap.size + 1 + 1,1,none⟩) (by dsimp only; omega) (.slice Aq nq cq); have c2 := kB0.cell 0; have f2 := kB0.frozen 0; have c3 : (((w3.setCell ⟨w.heap.size + 1 + 1,0,none⟩ (.bool bq)).setCell ⟨w.heap.size + 1 + 1,1,none⟩ (.slice Aq nq cq)).setCell ⟨w.heap.size + 1 + 1 + 1,0,none⟩ (.bool br)).cell? ⟨w.heap.size + 1 + 1 + 1,1,none⟩ = some (.slice none 0 0) := (kB0.set_ 0 (.bool br)).cell 1; have f3 := (kB0.set_ 0 (.bool br)).frozen 1))
  have kA1 : Blk ((w3.setCell ⟨w.heap.size + 1 + 1,0,none⟩ (.bool bq)).setCell ⟨w.heap.size + 1 + 1,1,none⟩ (.slice Aq nq cq)) (w.heap.size + 1 + 1) 38 #[.bool bq,.slice Aq nq cq] := (hk2A.set_ 0 (.bool bq)).set_ 1 (.slice Aq nq cq)
  have kB1 : Blk ((w3.setCell ⟨w.heap.size + 1 + 1,0,none⟩ (.bool bq)).setCell ⟨w.heap.size + 1 + 1,1,none⟩ (.slice Aq nq cq)) (w.heap.size + 1 + 1 + 1) 38 #[.bool false,.slice none 0 0] := (hk2B.far (p := ⟨w.heap.size + 1 + 1,0,none⟩) (by dsimp only; omega) (.bool bq)).far (p := ⟨w.heap.size + 1 + 1,1,none⟩) (by dsimp only; omega) (.slice Aq nq cq)
  have kB2 := (kB1.set_ 0 (.bool br)).set_ 1 (.slice Ar nr cr)
  have kA2 := (kA1.far (p := ⟨w.heap.size + 1 + 1 + 1,0,none⟩) (by dsimp only; omega) (.bool br)).far (p := ⟨w.heap.size + 1 + 1 + 1,1,none⟩) (by dsimp only; omega) (.slice Ar nr cr)
  have r0 := kA2.cell 0
  have r1 := kA2.cell 1
  have r2 := kB2.cell 0
  have r3 := kB2.cell 1
  have uq := zay (zay hwq3 hk2A bq Aq nq cq) kB1 br Ar nr cr
  have ur := zay (zay hwr hk2A bq Aq nq cq) kB1 br Ar nr cr
  have ub := zad HBW.out hbb
  have ub := zag (p := ⟨w.heap.size + 1 + 1 + 1,1,none⟩) (.slice Ar nr cr) (by dsimp only; omega) (zag (p := ⟨w.heap.size + 1 + 1 + 1,0,none⟩) (.bool br) (by dsimp only; omega) (zag (p := ⟨w.heap.size + 1 + 1,1,none⟩) (.slice Aq nq cq) (by dsimp only; omega) (zag (p := ⟨w.heap.size + 1 + 1,0,none⟩) (.bool bq) (by dsimp only; omega) ub)))
  have HG : Hid (zbu w qz rz (.returned (.tuple #[.agg #[.bool bq,.slice Aq nq cq],.agg #[.bool br,.slice Ar nr cr]])) ((((w3.setCell ⟨w.heap.size + 1 + 1,0,none⟩ (.bool bq)).setCell ⟨w.heap.size + 1 + 1,1,none⟩ (.slice Aq nq cq)).setCell ⟨w.heap.size + 1 + 1 + 1,0,none⟩ (.bool br)).setCell ⟨w.heap.size + 1 + 1 + 1,1,none⟩ (.slice Ar nr cr))) := by
   show zbu _ _ _ _ _
   rw [HZ1.out,HZ2.out]
   exact ⟨_,_,_,_,_,_,_,_,rfl,uq,ur,ub⟩
  clear kA1 kB1 kB2 kA2 uq ur ub
  go_wp2
  refine bodyPost_ret (v := .tuple #[.agg #[.bool bq,.slice Aq nq cq],.agg #[.bool br,.slice Ar nr cr]]) (by simp [results,Tryz.results83,go_sem,r0,r1,r2,r3]) rfl ?_
  exact HG.out
end Go.Proofs.YtgigccjiblaefaaGreatDoor
