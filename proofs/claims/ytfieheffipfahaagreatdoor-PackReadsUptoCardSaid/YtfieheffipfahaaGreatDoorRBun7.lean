/- What this claim leans on. -/
import Derived.Test.YtfieheffipfahaaGreatDoorRD8Math
namespace Go.Proofs.YtfieheffipfahaaGreatDoor
open Go Go.RowKit
set_option maxHeartbeats 16000000
set_option maxRecDepth 100000
set_option linter.unusedVariables false
set_option linter.unusedSimpArgs false
def zcD (s : Bool) (x : Nat) : Int:=if s then -(x : Int) else (x : Int)
theorem zfw (s : Bool) (x : Nat) : (zcD s x).natAbs = x:=by unfold zcD; split <;> omega
theorem sgnI_neg (s : Bool) (x : Nat) : decide (zcD s x < 0) = (s && decide (x ≠ 0)):=by unfold zcD; cases s <;> simp [Nat.pos_iff_ne_zero]
theorem zge {w : World} {x : Nat} {A : oA9} {n c : Nat} (s : Bool) (h : zaf w x A n c) : zaE w (zcD s x) (s && decide (x ≠ 0)) A n c:=⟨(sgnI_neg s x).symm,by rw [zfw]; exact h⟩
theorem zfi (x : Nat) (A : oA9) (n c : Nat) (w : World) (hA : zaf w x A n c) (hn : n ≤ 1099511627776) :
  Calls Tryz.prog 72 #[.agg #[.slice A n c]] w (zaR w x):=by
 obtain ⟨hB,b2,k3,b5⟩:=zbD w 29 29 #[.slice A n c] #[.slice none 0 0]
 have HWD:=lh9 (zdh x A n c _ (hA.below hB) hn)
 have hln:=hA.len
 have HOF : Hid (∀ w' A' c',zas w' w'.heap.size 1 A' n (zaq .u64 (dg 18446744073709551616 x)) → n ≤ c' → c' ≤ 9223372036854775807 → Calls Tryz.prog 34 #[.slice A' n c'] w' (zaR w' x)):=fun w' A' c' hr h1 h2 => by
  have h:=zcP A' n c' _ w' hr (zbE (by decide) x) h1 h2 hn
  rwa [zbZ (by decide)] at h
 clear hA
 go_enter Tryz.func72,Tryz.ntmps72
 go_wp2_with fail
 generalize (w.alloc (.cells #[.slice A n c] 29)).alloc (.cells #[.slice none 0 0] 29) = W0 at *
 have g1 : W0.cell? ⟨w.heap.size,0,none⟩ = some (.slice A n c):=b2.cell 0
 clear b2 b5
 refine HWD.out.mono ?_
 intro e w1 hg
 obtain ⟨A1,c1,rfl,hr1,h1,h2,hb⟩:=hg
 rw [hln] at hr1 h1 ⊢
 have hk1:=zae hb k3
 have hB1:=zac hB hb
 have HO2:=lh9 (HOF.out w1 A1 c1 hr1 h1 h2.1)
 clear hb k3 hB HWD hr1 h1 h2 g1 HOF hln
 go_wp2_with fail
 refine HO2.out.mono ?_
 rintro e w2 ⟨A2,n2,c2,rfl,hw2,hb,hf⟩
 have hk2:=zae hb hk1
 have hB2:=zac hB1 hb
 have r0:=(zfe hk2 (.slice A2 n2 c2)).cell 0
 have c0:=hk2.cell 0
 have f0:=hk2.frozen 0
 have HG : Hid (zaR w x (.returned (.agg #[.slice A2 n2 c2])) (w2.setCell ⟨w.heap.size + 1,0,none⟩ (.slice A2 n2 c2))) :=
  ⟨_,_,_,rfl,zdn hw2 hk2 _,zao _ (by dsimp only; omega) hB2,hf.from_ hB1⟩
 clear hk2 hB2 hf hw2 hb hk1 hB1 HO2
 go_wp2
 refine bodyPost_ret (v:=.agg #[.slice A2 n2 c2]) (by simp [results,Tryz.results72,go_sem,r0]) rfl ?_
 exact HG.out
theorem ziM (s : Bool) (x : Nat) (A : oA9) (n c : Nat) (w : World) (hA : zaf w x A n c) :
  Calls Tryz.prog 84 #[.bool s,.agg #[.slice A n c]] w (zcC w (zcD s x)):=by
 obtain ⟨hB,b2,k3,b5⟩:=zbD w 29 31 #[.slice A n c] #[.bool false,.slice none 0 0]
 have hw:=hA.below hB
 have HI:=lh9 (fun w' (h : Below w.heap.size w w') => zge s (hA.below h))
 have HZ:=lh9 (fun w' (h : Below w.heap.size w w') => show Calls Tryz.prog 35 #[.agg #[.slice A n c]] w' fun e w'' => e = .returned (.bool (decide (x = 0))) ∧ Below w'.heap.size w' w'' from by
  by_cases hx : x = 0
  ·rw [decide_eq_true hx]; exact zch hx (hA.below h)
  ·rw [decide_eq_false hx]; exact zcd hx (hA.below h))
 have hd : (!decide (x = 0)) = decide (x ≠ 0):=by simp
 obtain ⟨d,hd1⟩ : ∃ d,decide (x = 0) = d:=⟨_,rfl⟩
 rw [hd1] at HZ hd
 rw [← hd] at HI
 clear hA hd hd1
 cases s
 ·skip
  go_enter Tryz.func84,Tryz.ntmps84
  go_wp2_with fail
  generalize (w.alloc (.cells #[.slice A n c] 29)).alloc (.cells #[.bool false,.slice none 0 0] 31) = W0 at *
  have g1 : W0.drew.cell? ⟨w.heap.size,0,none⟩ = some (.slice A n c):=b2.cell 0
  have hb0:=hB.drew
  have hk0:=k3.drew
  clear b2 b5 hw hB k3
  have hw3:=HI.out _ hb0
  rw [Bool.false_and] at hw3
  have c0 : W0.cell? ⟨w.heap.size + 1,0,none⟩ = some (.bool false):=hk0.cell 0
  have f0 : W0.frozen? ⟨w.heap.size + 1,0,none⟩ = false:=hk0.frozen 0
  have c1 : (W0.setCell ⟨w.heap.size + 1,0,none⟩ (.bool false)).cell? ⟨w.heap.size + 1,1,none⟩ = some (.slice none 0 0):=(hk0.set_ 0 (.bool false)).cell 1
  have f1 : (W0.setCell ⟨w.heap.size + 1,0,none⟩ (.bool false)).frozen? ⟨w.heap.size + 1,1,none⟩ = false:=(hk0.set_ 0 (.bool false)).frozen 1
  refine wp_region_noPanic ?_
  refine wp_region_held_drew (S:=(fun w' => Below w.heap.size w w' ∧ w'.cell? ⟨w.heap.size,0,none⟩ = some (.slice A n c))) (by kernel_rfl) ?_ (fun hHeld => ?_)
  ·exact ⟨hb0,g1⟩
  refine wtk9 0 (v:=?_) ?_ ?_
  rotate_left
  focus ((intro w hSw; (try dsimp only at hSw); go_simp); (try with_reducible rfl))
  try simp only [Act.put,List.setIfInBounds_toArray,List.set_cons_zero,List.set_cons_succ]
  refine wtk9 1 (v:=?_) ?_ ?_
  rotate_left
  focus ((intro w hSw; (try dsimp only at hSw); go_simp); (try with_reducible rfl))
  try simp only [Act.put,List.setIfInBounds_toArray,List.set_cons_zero,List.set_cons_succ]
  refine wpAnyH_take (i:=2) (oi:=?_) (v:=undef) (by simp only [List.getElem?_toArray,List.getElem?_cons_succ,List.getElem?_cons_zero]; rfl) (by kernel_rfl) (by kernel_rfl) (by kernel_rfl) (fun _ _ _ h => h) (Or.inr ⟨by rfl,rfl⟩) (by with_reducible assumption) ?_
  try simp only [Act.put,List.setIfInBounds_toArray,List.set_cons_zero,List.set_cons_succ]
  refine wpAnyH_take (i:=3) (oi:=?_) (v:=undef) (by simp only [List.getElem?_toArray,List.getElem?_cons_succ,List.getElem?_cons_zero]; rfl) (by kernel_rfl) (by kernel_rfl) (by kernel_rfl) (fun _ _ _ h => h) (Or.inr ⟨by rfl,rfl⟩) (by with_reducible assumption) ?_
  try simp only [Act.put,List.setIfInBounds_toArray,List.set_cons_zero,List.set_cons_succ]
  refine wpAnyH_take (i:=4) (oi:=?_) (v:=undef) (by simp only [List.getElem?_toArray,List.getElem?_cons_succ,List.getElem?_cons_zero]; rfl) (by kernel_rfl) (by kernel_rfl) (by kernel_rfl) (fun _ _ _ h => h) (Or.inr ⟨by rfl,rfl⟩) (by with_reducible assumption) ?_
  try simp only [Act.put,List.setIfInBounds_toArray,List.set_cons_zero,List.set_cons_succ]
  refine wtk9 5 (v:=?_) ?_ ?_
  rotate_left
  focus ((intro w hSw; (try dsimp only at hSw); go_simp); (try with_reducible rfl))
  try simp only [Act.put,List.setIfInBounds_toArray,List.set_cons_zero,List.set_cons_succ]
  refine wtk9 6 (v:=?_) ?_ ?_
  rotate_left
  focus ((intro w hSw; (try dsimp only at hSw); go_simp); (try with_reducible rfl))
  try simp only [Act.put,List.setIfInBounds_toArray,List.set_cons_zero,List.set_cons_succ]
  refine wtk9 7 (v:=?_) ?_ ?_
  rotate_left
  focus ((intro w hSw; (try dsimp only at hSw); go_simp); (try with_reducible rfl))
  try simp only [Act.put,List.setIfInBounds_toArray,List.set_cons_zero,List.set_cons_succ]
  refine wpAnyH_ready (rs:=[8]) (by kernel_rfl) (by simp) ?_
  refine arc9 (fun K hK => ?_)
  go_simp
  skip
  refine hK.out _ _ ?_ (fun hHeld => ?_)
  ·((try dsimp only); exact ⟨zao (p:=⟨w.heap.size + 1,1,none⟩) _ (by dsimp only; omega) (zao (p:=⟨w.heap.size + 1,0,none⟩) _ (by dsimp only; omega) hb0),zag (q:=⟨w.heap.size + 1,1,none⟩) _ (by dsimp only; omega) (zag (q:=⟨w.heap.size + 1,0,none⟩) _ (by dsimp only; omega) g1)⟩)
  clear hK K
  try simp only [Act.put,List.setIfInBounds_toArray,List.set_cons_zero,List.set_cons_succ]
  refine wpAnyH_done (by kernel_rfl) ?_ _
  refine NoPanic.normal ?_
  have hk9:=(hk0.set_ 0 (.bool false)).set_ 1 (.slice A n c)
  have r0 : ((W0.setCell ⟨w.heap.size + 1,0,none⟩ (.bool false)).setCell ⟨w.heap.size + 1,1,none⟩ (.slice A n c)).cell? ⟨w.heap.size + 1,0,none⟩ = some (.bool false):=hk9.cell 0
  have r1 : ((W0.setCell ⟨w.heap.size + 1,0,none⟩ (.bool false)).setCell ⟨w.heap.size + 1,1,none⟩ (.slice A n c)).cell? ⟨w.heap.size + 1,1,none⟩ = some (.slice A n c):=hk9.cell 1
  have hwz:=zep hw3 hk0 false A n c
  have hbz:=zao (p:=⟨w.heap.size + 1,1,none⟩) (.slice A n c) (by dsimp only; omega) (zao (p:=⟨w.heap.size + 1,0,none⟩) (.bool false) (by dsimp only; omega) hb0)
  have HG : Hid (zcC w (zcD false x) (.returned (.agg #[.bool false,.slice A n c])) (((W0.setCell ⟨w.heap.size + 1,0,none⟩ (.bool false)).setCell ⟨w.heap.size + 1,1,none⟩ (.slice A n c)).drew)) :=
   ⟨_,_,_,_,rfl,hwz,hbz⟩
  clear hk9 hwz hbz c0 c1 f0 f1 hk0 hb0 hw3 HI HZ g1
  go_wp2
  refine bodyPost_ret (v:=.agg #[.bool false,.slice A n c]) (by simp [results,Tryz.results84,go_sem,r0,r1]) rfl ?_
  exact HG.out
 ·skip
  go_enter Tryz.func84,Tryz.ntmps84
  go_wp2_with fail
  generalize (w.alloc (.cells #[.slice A n c] 29)).alloc (.cells #[.bool false,.slice none 0 0] 31) = W0 at *
  have g1 : W0.drew.cell? ⟨w.heap.size,0,none⟩ = some (.slice A n c):=b2.cell 0
  have hb0:=hB.drew
  have hk0:=k3.drew
  clear b2 b5 hw hB k3
  go_region_held3 (fun w' => Below w.heap.size w w' ∧ w'.cell? ⟨w.heap.size,0,none⟩ = some (.slice A n c))
   (first | (exact ⟨hb0,g1⟩) | (go_split_ands; (repeat' apply And.intro); all_goals (first | with_reducible assumption | exact zac (by with_reducible assumption) hb | exact zad hb (by with_reducible assumption) | exact zao _ (by dsimp only; omega) (zao _ (by dsimp only; omega) (by with_reducible assumption)) | exact zag _ (by dsimp only; omega) (zag _ (by dsimp only; omega) (by with_reducible assumption)) | exact zao _ (by dsimp only; omega) (by with_reducible assumption) | exact zag _ (by dsimp only; omega) (by with_reducible assumption))))
   (first
     | (go_at_call 35; (with_reducible refine (HZ.out _ (by first | with_reducible assumption | exact And.left (by with_reducible assumption))).mono ?_); rintro e w2 ⟨rfl,hb⟩; go_split_ands; have hbb : Below w.heap.size w w2:=zac (by with_reducible assumption) hb; have hk2:=zae hb hk0; have c0:=hk2.cell 0; have f0:=hk2.frozen 0; have c1 : (w2.setCell ⟨w.heap.size + 1,0,none⟩ (.bool (!d))).cell? ⟨w.heap.size + 1,1,none⟩ = some (.slice none 0 0):=(hk2.set_ 0 (.bool (!d))).cell 1; have f1:=(hk2.set_ 0 (.bool (!d))).frozen 1))
  have hw3:=HI.out _ hbb
  rw [Bool.true_and] at hw3
  have hk9:=(hk2.set_ 0 (.bool (!d))).set_ 1 (.slice A n c)
  have r0:=hk9.cell 0
  have r1:=hk9.cell 1
  have c0:=hk2.cell 0
  have f0:=hk2.frozen 0
  have c1 : (w2.setCell ⟨w.heap.size + 1,0,none⟩ (.bool (!d))).cell? ⟨w.heap.size + 1,1,none⟩ = some (.slice none 0 0):=(hk2.set_ 0 (.bool (!d))).cell 1
  have f1:=(hk2.set_ 0 (.bool (!d))).frozen 1
  have hwz:=zep hw3 hk2 (!d) A n c
  have hbz:=zao (p:=⟨w.heap.size + 1,1,none⟩) (.slice A n c) (by dsimp only; omega) (zao (p:=⟨w.heap.size + 1,0,none⟩) (.bool (!d)) (by dsimp only; omega) hbb)
  have HG : Hid (zcC w (zcD true x) (.returned (.agg #[.bool (!d),.slice A n c])) ((w2.setCell ⟨w.heap.size + 1,0,none⟩ (.bool (!d))).setCell ⟨w.heap.size + 1,1,none⟩ (.slice A n c))) :=
   ⟨_,_,_,_,rfl,hwz,hbz⟩
  clear hk9 hwz hbz hk2 hk0 hbb hw3 hb0 hb HI HZ g1
  go_wp2
  refine bodyPost_ret (v:=.agg #[.bool (!d),.slice A n c]) (by simp [results,Tryz.results84,go_sem,r0,r1]) rfl ?_
  exact HG.out
theorem zoU (z : Int) : zcD (decide (z < 0)) z.natAbs = z:=by unfold zcD; by_cases h : z < 0 <;> simp [h] <;> omega
theorem zmv (s : Bool) (x : Nat) (A : oA9) (n c : Nat) (w : World) (hA : zaf w x A n c) (hn : n ≤ 1099511627776) :
  Calls Tryz.prog 38 #[.bool s,.agg #[.slice A n c]] w (zcC w (zcD s x)):=by
 obtain ⟨hB,b2,k3,b5⟩:=zbD w 29 31 #[.slice A n c] #[.bool false,.slice none 0 0]
 have HC:=lh9 (zfi x A n c _ (hA.below hB) hn)
 have HS:=lh9 (fun w' A n c (h : zaf w' x A n c) => ziM s x A n c w' h)
 clear hA
 go_enter Tryz.func38,Tryz.ntmps38
 go_wp2_with fail
 generalize (w.alloc (.cells #[.slice A n c] 29)).alloc (.cells #[.bool false,.slice none 0 0] 31) = W0 at *
 have g1 : W0.cell? ⟨w.heap.size,0,none⟩ = some (.slice A n c):=b2.cell 0
 clear b2 b5
 refine HC.out.mono ?_
 rintro e w1 ⟨A1,n1,c1,rfl,hw1,hb,hf⟩
 have hk1:=zae hb k3
 have hB1:=zac hB hb
 have HS1:=lh9 (HS.out _ _ _ _ hw1)
 clear hb hf hw1 g1 k3 hB HC HS
 go_wp2_with fail
 refine HS1.out.mono ?_
 rintro e w2 ⟨b3,A3,n3,c3,rfl,hw3,hb⟩
 have hk2:=zae hb hk1
 have hbb:=zac hB1 hb
 have hk9:=(hk2.set_ 0 (.bool b3)).set_ 1 (.slice A3 n3 c3)
 have r0:=hk9.cell 0
 have r1:=hk9.cell 1
 have c0:=hk2.cell 0
 have f0:=hk2.frozen 0
 have c1 : (w2.setCell ⟨w.heap.size + 1,0,none⟩ (.bool b3)).cell? ⟨w.heap.size + 1,1,none⟩ = some (.slice none 0 0):=(hk2.set_ 0 (.bool b3)).cell 1
 have f1:=(hk2.set_ 0 (.bool b3)).frozen 1
 have hwz:=zep hw3 hk2 b3 A3 n3 c3
 have hbz:=zao (p:=⟨w.heap.size + 1,1,none⟩) (.slice A3 n3 c3) (by dsimp only; omega) (zao (p:=⟨w.heap.size + 1,0,none⟩) (.bool b3) (by dsimp only; omega) hbb)
 have HG : Hid (zcC w (zcD s x) (.returned (.agg #[.bool b3,.slice A3 n3 c3])) ((w2.setCell ⟨w.heap.size + 1,0,none⟩ (.bool b3)).setCell ⟨w.heap.size + 1,1,none⟩ (.slice A3 n3 c3))) :=
  ⟨_,_,_,_,rfl,hwz,hbz⟩
 clear hk9 hwz hbz hk2 hbb hw3 hb hk1 hB1 HS1
 go_wp2
 refine bodyPost_ret (v:=.agg #[.bool b3,.slice A3 n3 c3]) (by simp [results,Tryz.results38,go_sem,r0,r1]) rfl ?_
 exact HG.out
theorem zhA (z : Int) (b : Bool) (A : oA9) (n c : Nat) (w : World) (hA : zaE w z b A n c) (hn : n ≤ 1099511627776) :
  Calls Tryz.prog 28 #[.agg #[.bool b,.slice A n c]] w (zaR w z.natAbs):=by
 obtain ⟨hB,b2,k3,b5⟩:=zbD w 31 29 #[.bool b,.slice A n c] #[.slice none 0 0]
 have HC:=lh9 (zfi z.natAbs A n c _ (hA.2.below hB) hn)
 obtain ⟨x,hx⟩ : ∃ x,z.natAbs = x:=⟨_,rfl⟩
 rw [hx] at HC ⊢
 clear hA hx
 go_enter Tryz.func28,Tryz.ntmps28
 go_wp2_with fail
 generalize (w.alloc (.cells #[.bool b,.slice A n c] 31)).alloc (.cells #[.slice none 0 0] 29) = W0 at *
 have g1 : W0.cell? ⟨w.heap.size,1,none⟩ = some (.slice A n c):=b2.cell 1
 clear b2 b5
 go_wp2_with fail
 refine HC.out.mono ?_
 rintro e w2 ⟨A2,n2,c2,rfl,hw2,hb,hf⟩
 have hk2:=zae hb k3
 have hB2:=zac hB hb
 have r0:=(zfe hk2 (.slice A2 n2 c2)).cell 0
 have c0:=hk2.cell 0
 have f0:=hk2.frozen 0
 have HG : Hid (zaR w x (.returned (.agg #[.slice A2 n2 c2])) (w2.setCell ⟨w.heap.size + 1,0,none⟩ (.slice A2 n2 c2))) :=
  ⟨_,_,_,rfl,zdn hw2 hk2 _,zao _ (by dsimp only; omega) hB2,hf.from_ hB⟩
 clear hk2 hB2 hf hw2 hb hB HC k3 g1
 go_wp2
 refine bodyPost_ret (v:=.agg #[.slice A2 n2 c2]) (by simp [results,Tryz.results28,go_sem,r0]) rfl ?_
 exact HG.out
theorem zjx (z : Int) (b : Bool) (A : oA9) (n c : Nat) (w : World) (hA : zaE w z b A n c) :
  Calls Tryz.prog 83 #[.agg #[.bool b,.slice A n c]] w fun e w' => e = .returned (.bool (decide (z < 0))) ∧ Below w.heap.size w w':=by
 obtain ⟨hB,b2,b5⟩:=zaz w 31 #[.bool b,.slice A n c]
 rw [← hA.1]
 clear hA
 have g0 : (w.alloc (.cells #[.bool b,.slice A n c] 31)).cell? ⟨w.heap.size,0,none⟩ = some (.bool b):=b2.cell 0
 clear b2 b5
 go_enter Tryz.func83,Tryz.ntmps83
 go_wp2
 go_ret
 exact ⟨rfl,hB⟩
theorem zlf (z : Int) (b : Bool) (A : oA9) (n c : Nat) (w : World) (hA : zaE w z b A n c) :
  Calls Tryz.prog 80 #[.agg #[.bool b,.slice A n c]] w (zdo w (zeg z)):=by
 obtain ⟨hB,b2,b5⟩:=zaz w 31 #[.bool b,.slice A n c]
 have hbz:=hA.1
 have hK : (b = true ∧ zeg z = -1) ∨ (b = false ∧ z.natAbs = 0 ∧ zeg z = 0) ∨ (b = false ∧ z.natAbs ≠ 0 ∧ zeg z = 1):=by
  unfold zeg
  by_cases h : z < 0
  ·exact .inl ⟨by rw [hbz,decide_eq_true h],by rw [if_pos h]⟩
  ·by_cases h0 : z = 0
   ·exact .inr (.inl ⟨by rw [hbz,decide_eq_false h],by omega,by rw [if_neg h,if_pos h0]⟩)
   ·exact .inr (.inr ⟨by rw [hbz,decide_eq_false h],by omega,by rw [if_neg h,if_neg h0]⟩)
 have HW:=lh9 (fun w' (h : Below w.heap.size w w') => hA.2.below h)
 clear hA hbz
 rcases hK with ⟨rfl,hs⟩ | ⟨rfl,hz,hs⟩ | ⟨rfl,hz,hs⟩
 ·skip
  rw [hs]
  clear HW hs 
  have g0 : (w.alloc (.cells #[.bool true,.slice A n c] 31)).cell? ⟨w.heap.size,0,none⟩ = some (.bool true):=b2.cell 0
  have g1 : (w.alloc (.cells #[.bool true,.slice A n c] 31)).cell? ⟨w.heap.size,1,none⟩ = some (.slice A n c):=b2.cell 1
  clear b2 b5
  go_enter Tryz.func80,Tryz.ntmps80
  go_wp2
  go_ret
  exact ⟨rfl,hB⟩
 ·skip
  have HZ:=lh9 (zch hz (HW.out _ hB))
  rw [hs]
  clear HW hs hz
  have g0 : (w.alloc (.cells #[.bool false,.slice A n c] 31)).cell? ⟨w.heap.size,0,none⟩ = some (.bool false):=b2.cell 0
  have g1 : (w.alloc (.cells #[.bool false,.slice A n c] 31)).cell? ⟨w.heap.size,1,none⟩ = some (.slice A n c):=b2.cell 1
  clear b2 b5
  go_enter Tryz.func80,Tryz.ntmps80
  go_wp2_with fail
  refine HZ.out.mono ?_
  rintro e w1 ⟨rfl,hb⟩
  have hB1:=zac hB hb
  clear hb hB g0 g1 HZ
  go_wp2
  go_ret
  exact ⟨rfl,hB1⟩
 ·skip
  have HZ:=lh9 (zcd hz (HW.out _ hB))
  rw [hs]
  clear HW hs hz
  have g0 : (w.alloc (.cells #[.bool false,.slice A n c] 31)).cell? ⟨w.heap.size,0,none⟩ = some (.bool false):=b2.cell 0
  have g1 : (w.alloc (.cells #[.bool false,.slice A n c] 31)).cell? ⟨w.heap.size,1,none⟩ = some (.slice A n c):=b2.cell 1
  clear b2 b5
  go_enter Tryz.func80,Tryz.ntmps80
  go_wp2_with fail
  refine HZ.out.mono ?_
  rintro e w1 ⟨rfl,hb⟩
  have hB1:=zac hB hb
  clear hb hB g0 g1 HZ
  go_wp2
  go_ret
  exact ⟨rfl,hB1⟩
theorem of_lit1 (x : Nat) (w : World) (r : Nat) (hx : x < 18446744073709551616) (hk : Blk w r 81 #[.int .u64 (x : Int)]) : Calls Tryz.prog 34 #[.slice (some ⟨r,0,none⟩) 1 1] w (zaR w x) :=
 zby _ [x] w r 1 _ hk rfl rfl (zeG _ hx) (by simp [dv]) (by decide)
theorem znZ (z : Int) (w : World) (h1 : -9223372036854775808 ≤ z) (h2 : z ≤ 9223372036854775807) :
  Calls Tryz.prog 76 #[.int .i64 z] w (zcC w z):=by
 obtain ⟨hB,k3,b5⟩:=zaz w 31 #[.bool false,.slice none 0 0]
 obtain ⟨x,hx⟩ : ∃ x,z.natAbs = x:=⟨_,rfl⟩
 have hxl : x < 18446744073709551616:=by omega
 have HOF:=lh9 (fun w' r hk => of_lit1 x w' r hxl hk)
 by_cases hz : z < 0
 ·skip
  have e1 : IntKind.u64.wrap z = 18446744073709551616 - (x : Int):=by simp [IntKind.wrap,IntKind.bits,IntKind.signed]; omega
  have e2 : IntKind.u64.wrap (-(18446744073709551616 - (x : Int))) = (x : Int):=by simp [IntKind.wrap,IntKind.bits,IntKind.signed]; omega
  have HI : Hid (∀ w' A n c,zaf w' x A n c → zaE w' z true A n c):=fun w' A n c h => ⟨by simp [hz],by rw [hx]; exact h⟩
  have HO2:=lh9 (HOF.out _ _ (zbD w 31 81 #[.bool false,.slice none 0 0] #[.int .u64 (x : Int)]).2.2.1)
  clear hx HOF
  go_enter Tryz.func76,Tryz.ntmps76
  go_wp2_with fail
  generalize w.alloc (.cells #[.bool false,.slice none 0 0] 31) = W0 at *
  clear b5
  have hb1:=zan (.cells #[.int .u64 (x : Int)] 81) hB
  refine HO2.out.mono ?_
  rintro e w2 ⟨A2,n2,c2,rfl,hw2,hb,_⟩
  have hbb:=zac hb1 hb
  have hk2:=zae hb (k3.alloc (.cells #[.int .u64 (x : Int)] 81))
  have hw3:=HI.out _ _ _ _ hw2
  clear hb hb1 HO2 k3 hB hw2 HI
  have hk9:=(hk2.set_ 0 (.bool true)).set_ 1 (.slice A2 n2 c2)
  have r0:=hk9.cell 0
  have r1:=hk9.cell 1
  have c0:=hk2.cell 0
  have f0:=hk2.frozen 0
  have c1 : (w2.setCell ⟨w.heap.size,0,none⟩ (.bool true)).cell? ⟨w.heap.size,1,none⟩ = some (.slice none 0 0):=(hk2.set_ 0 (.bool true)).cell 1
  have f1:=(hk2.set_ 0 (.bool true)).frozen 1
  have hwz:=zep hw3 hk2 true A2 n2 c2
  have hbz:=zao (p:=⟨w.heap.size,1,none⟩) (.slice A2 n2 c2) (by dsimp only; omega) (zao (p:=⟨w.heap.size,0,none⟩) (.bool true) (by dsimp only; omega) hbb)
  have HG : Hid (zcC w (z) (.returned (.agg #[.bool true,.slice A2 n2 c2])) ((w2.setCell ⟨w.heap.size,0,none⟩ (.bool true)).setCell ⟨w.heap.size,1,none⟩ (.slice A2 n2 c2))) :=
   ⟨_,_,_,_,rfl,hwz,hbz⟩
  clear hk9 hwz hbz hk2 hbb hw3
  go_wp2
  refine bodyPost_ret (v:=.agg #[.bool true,.slice A2 n2 c2]) (by simp [results,Tryz.results76,go_sem,r0,r1]) rfl ?_
  exact HG.out
 ·skip
  have e1 : IntKind.u64.wrap z = (x : Int):=by simp [IntKind.wrap,IntKind.bits,IntKind.signed]; omega
  have i1 : 0 ≤ z:=by omega
  have HI : Hid (∀ w' A n c,zaf w' x A n c → zaE w' z false A n c):=fun w' A n c h => ⟨by simp [hz],by rw [hx]; exact h⟩
  have HO2:=lh9 (HOF.out _ _ (zbD w 31 81 #[.bool false,.slice none 0 0] #[.int .u64 (x : Int)]).2.2.1)
  clear hx HOF
  go_enter Tryz.func76,Tryz.ntmps76
  go_wp2_with fail
  generalize w.alloc (.cells #[.bool false,.slice none 0 0] 31) = W0 at *
  clear b5
  have hb1:=zan (.cells #[.int .u64 (x : Int)] 81) hB
  refine HO2.out.mono ?_
  rintro e w2 ⟨A2,n2,c2,rfl,hw2,hb,_⟩
  have hbb:=zac hb1 hb
  have hk2:=zae hb (k3.alloc (.cells #[.int .u64 (x : Int)] 81))
  have hw3:=HI.out _ _ _ _ hw2
  clear hb hb1 HO2 k3 hB hw2 HI
  have hk9:=(hk2.set_ 0 (.bool false)).set_ 1 (.slice A2 n2 c2)
  have r0:=hk9.cell 0
  have r1:=hk9.cell 1
  have c0:=hk2.cell 0
  have f0:=hk2.frozen 0
  have c1 : (w2.setCell ⟨w.heap.size,0,none⟩ (.bool false)).cell? ⟨w.heap.size,1,none⟩ = some (.slice none 0 0):=(hk2.set_ 0 (.bool false)).cell 1
  have f1:=(hk2.set_ 0 (.bool false)).frozen 1
  have hwz:=zep hw3 hk2 false A2 n2 c2
  have hbz:=zao (p:=⟨w.heap.size,1,none⟩) (.slice A2 n2 c2) (by dsimp only; omega) (zao (p:=⟨w.heap.size,0,none⟩) (.bool false) (by dsimp only; omega) hbb)
  have HG : Hid (zcC w (z) (.returned (.agg #[.bool false,.slice A2 n2 c2])) ((w2.setCell ⟨w.heap.size,0,none⟩ (.bool false)).setCell ⟨w.heap.size,1,none⟩ (.slice A2 n2 c2))) :=
   ⟨_,_,_,_,rfl,hwz,hbz⟩
  clear hk9 hwz hbz hk2 hbb hw3
  go_wp2
  refine bodyPost_ret (v:=.agg #[.bool false,.slice A2 n2 c2]) (by simp [results,Tryz.results76,go_sem,r0,r1]) rfl ?_
  exact HG.out
theorem cmp_low (b b' : Bool) (X Y : Nat) (hb : b = decide (zcD b X < 0)) (hb' : b' = decide (zcD b' Y < 0)) : cmpZ (zcD b X) (zcD b' Y) = if b then (if b' then zbs Y X else -1) else (if b' then 1 else zbs X Y):=by
 unfold cmpZ zbs
 unfold zcD at *
 cases b <;> cases b' <;> simp at * <;> (repeat' split) <;> omega
theorem zmu (x y : Int) (b b' : Bool) (A D : oA9) (n m c d : Nat) (w : World) (hA : zaE w x b A n c) (hD : zaE w y b' D m d) (hn : n ≤ 274877906944) (hm : m ≤ 274877906944) :
  Calls Tryz.prog 65 #[.agg #[.bool b,.slice A n c],.agg #[.bool b',.slice D m d]] w (zdo w (cmpZ x y)):=by
 have hx:=zoU x
 have hy:=zoU y
 rw [← hA.1] at hx
 rw [← hD.1] at hy
 have hc:=cmp_low b b' x.natAbs y.natAbs (by rw [hx]; exact hA.1) (by rw [hy]; exact hD.1)
 rw [hx,hy] at hc
 rw [hc]
 have H1:=lh9 (fun w' (h : Below w.heap.size w w') => zfI x.natAbs y.natAbs A D n m c d w' (hA.2.below h) (hD.2.below h) (by omega) (by omega))
 have H2:=lh9 (fun w' (h : Below w.heap.size w w') => zfI y.natAbs x.natAbs D A m n d c w' (hD.2.below h) (hA.2.below h) (by omega) (by omega))
 obtain ⟨p,hp⟩ : ∃ p,zbs x.natAbs y.natAbs = p:=⟨_,rfl⟩
 obtain ⟨q,hq⟩ : ∃ p,zbs y.natAbs x.natAbs = p:=⟨_,rfl⟩
 rw [hp] at H1 ⊢
 rw [hq] at H2 ⊢
 clear hA hD hx hy hc hp hq
 cases b <;> cases b'
 ·skip
  obtain ⟨hB,b2,b3,b5⟩:=zbD w 31 31 #[.bool false,.slice A n c] #[.bool false,.slice D m d]
  have HC:=lh9 (H1.out _ hB)
  clear H1 H2
  go_enter Tryz.func65,Tryz.ntmps65
  go_wp2_with fail
  refine HC.out.mono ?_
  rintro e w1 ⟨rfl,hb⟩
  have hB1:=zac hB hb
  clear hb hB HC b2 b3 b5
  go_wp2
  go_ret
  exact ⟨rfl,hB1⟩
 ·skip
  obtain ⟨hB,b2,b3,b5⟩:=zbD w 31 31 #[.bool false,.slice A n c] #[.bool true,.slice D m d]
  have HC:=lh9 (H1.out _ hB)
  clear H1 H2
  go_enter Tryz.func65,Tryz.ntmps65
  clear HC b2 b3 b5
  go_wp2
  go_ret
  exact ⟨rfl,hB⟩
 ·skip
  obtain ⟨hB,b2,b3,b5⟩:=zbD w 31 31 #[.bool true,.slice A n c] #[.bool false,.slice D m d]
  have HC:=lh9 (H2.out _ hB)
  clear H1 H2
  go_enter Tryz.func65,Tryz.ntmps65
  clear HC b2 b3 b5
  go_wp2
  go_ret
  exact ⟨rfl,hB⟩
 ·skip
  obtain ⟨hB,b2,b3,b5⟩:=zbD w 31 31 #[.bool true,.slice A n c] #[.bool true,.slice D m d]
  have HC:=lh9 (H2.out _ hB)
  clear H1 H2
  go_enter Tryz.func65,Tryz.ntmps65
  go_wp2_with fail
  refine HC.out.mono ?_
  rintro e w1 ⟨rfl,hb⟩
  have hB1:=zac hB hb
  clear hb hB HC b2 b3 b5
  go_wp2
  go_ret
  exact ⟨rfl,hB1⟩
end Go.Proofs.YtfieheffipfahaaGreatDoor
