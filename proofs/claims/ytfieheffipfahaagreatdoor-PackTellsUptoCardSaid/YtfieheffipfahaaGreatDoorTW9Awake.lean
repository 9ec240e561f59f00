/- What this claim leans on. -/
import Derived.Test.YtfieheffipfahaaGreatDoorTJ9Enc
import Derived.Test.YtfieheffipfahaaGreatDoorTJ9Dec
import Derived.Test.YtfieheffipfahaaGreatDoorTJ8Ord
namespace Go.Proofs.YtfieheffipfahaaGreatDoor
open Go Go.RowKit
set_option maxHeartbeats 16000000
set_option maxRecDepth 100000
set_option linter.unusedVariables false
set_option linter.unusedSimpArgs false
theorem zgi (w : World) (l : List Nat) (cs : Array Value) (n : Nat) (hcs : cs.toList = zam .u8 l) (hd : Dgs 256 l) (hl : l.length = n) (hn : n ≤ 1000) : zaH (w.alloc (.cells cs 5)) l (some ⟨w.heap.size,0,none⟩) n n := by
 have hs : cs.size = n * 1 := by have := congrArg List.length hcs; rw [zat,Array.length_toList] at this; omega
 have h := World.ownsRow_lit (base := 0) (e := 5) (size := 1) w cs n (Nat.zero_le _) (by unfold maxLen; omega) hs
 rw [hcs] at h
 obtain ⟨A,c,e,h1,h2,h3⟩ := zan.of_grown_own h
 cases e
 exact ⟨h3,hd,Nat.le_refl _,by omega⟩
theorem zjx {l : List Nat} (h : l.all (fun d => decide (d < 256)) = true) : Dgs 256 l := fun d hd => of_decide_eq_true (List.all_eq_true.1 h d hd)
theorem aw9_d1 (A : oA9) (w : World) (hT : zap w) (h : zaH w [4,1,2,1,3,9] A 6 6) : Calls Tryz.prog 18 #[.slice A 6 6] w (zde w (.no,Rat.divInt (-3) 2,5)) :=
 zhS [4,1,2,1,3,9] A 6 6 w hT h (by decide) (by decide) rfl (by decide) (by decide) (by decide) (by decide) (by decide) (by decide)
theorem aw9_d2 (A : oA9) (w : World) (hT : zap w) (h : zaH w [3,1,2,1,4] A 5 5) : Calls Tryz.prog 18 #[.slice A 5 5] w (zde w (.bare 91,0,0)) :=
 zhQ [3,1,2,1,4] A 5 5 w hT h (by decide) (by decide) rfl (by decide) (by decide) (by decide) (by decide) (by decide)
theorem aw9_d3 (A : oA9) (w : World) (hT : zap w) (h : zaH w [3,1,2,2,1] A 5 5) : Calls Tryz.prog 18 #[.slice A 5 5] w (zde w (.spot 90 sNum 3,0,0)) :=
 zhR [3,1,2,2,1] A 5 5 w hT h (by decide) (by decide) rfl (by decide) (by decide) (by decide)
theorem sz_one9 {K : Nat} (h : 0 < K) : Sz K 1 := zck h
theorem aw9_r (w : World) (hT : zap w) : Calls Tryz.prog 20 #[.string { data := #[49,47,120] }] w (zjl w (.spot 91 sDen 2,0)) :=
 zle [49,47,120] w hT (by decide) (fun _ => (show 1 = (valI (zbh [49,47,120])).natAbs from by decide) ▸ sz_one9 (by decide)) (fun h => absurd h (by decide)) (by decide) (by decide) (by decide)
theorem aw9_form : zfi (Rat.divInt (-3) 2) = .no ∧ encL (Rat.divInt (-3) 2) = [4,1,2,1,3] := zgW (r := Rat.divInt (-3) 2) (by decide) (by decide)
theorem aw9_text : zdM (Rat.divInt (-3) 2) = [45,51,47,50] := by decide
def Tab9 (w : World) : Prop := zap w ∧ zcS w
theorem Tab9.on {w w' : World} (h : Tab9 w) (hb : Below w.heap.size w w') : Tab9 w' := ⟨h.1.on hb,h.2.below hb⟩
theorem zhJ (w : World) (hT : Tab9 w) : Calls Tryz.prog 10 #[] w fun e w' => e = .returned (.bool true) ∧ Below w.heap.size w w' := by
 have HT := lh9 (fun w' (hb : Below w.heap.size w w') => hT.on hb)
 have HF := lh9 aw9_form
 have HX := lh9 aw9_text
 have HZ : Hid (SzQ 1 (Rat.divInt (-3) 2)) := SzQ.made (K := 1) (by show (-3 : Int).natAbs < _; decide) (by show (2 : Int).natAbs < _; decide) (by decide)
 have HO := lh9 (fun w' (h : zap w') => rat_of (-3) 2 w' h (by decide) (by decide) (by decide) (by decide) (by decide))
 obtain ⟨a,ha⟩ : ∃ a,Rat.divInt (-3) 2 = a := ⟨_,rfl⟩
 have H1 := lh9 aw9_d1
 rw [ha] at HF HX HZ HO H1
 clear hT ha
 go_enter Tryz.func10,Tryz.ntmps10
 have hB := Below.refl w.heap.size w
 go_wp2_with fail
 refine (HO.out _ (HT.out _ hB).1).mono ?_
 rintro e w1 ⟨b1,A1,n1,c1,E1,u1,v1,rfl,hr1,hb⟩
 have hB := zac hB hb
 obtain ⟨bx1,bx2,bz⟩ := zaA w1 33 #[.bool b1,.slice A1 n1 c1,.slice E1 u1 v1]
 have hB := zac hB bx1
 have k1 := bx2
 have h1 := hr1.below bx1
 obtain ⟨g1,e1,i1⟩ := k1.c3
 clear bx1 bx2 bz hb hr1 HO
 go_upto_region 2 with fail
 generalize w1.alloc (.cells #[.bool b1,.slice A1 n1 c1,.slice E1 u1 v1] 33) = W1 at *
 obtain ⟨q1,hq1⟩ : ∃ q,w1.heap.size = q := ⟨_,rfl⟩
 rw [hq1] at k1 g1 e1 i1 ⊢
 clear hq1
 go_wp2_with fail
 refine (zgH a b1 A1 n1 c1 E1 u1 v1 _ (HT.out _ hB).1 h1 (szq HZ h1)).mono ?_
 rintro e w2 ⟨r2,ev2,rfl,hr2,he2,hb⟩
 rw [HF.out.1] at he2
 rw [HF.out.2] at hr2
 obtain rfl := he2
 have hB := zac hB hb
 have k1 := zae hb k1
 have h1 := h1.below hb
 clear hb g1 e1 i1
 obtain ⟨A2,c2,rfl,hc2,hc2m,hrd2⟩ := hr2.reads
 have h2 : zaH w2 [4,1,2,1,3] A2 5 c2 := ⟨hrd2,zjx (by decide),hc2,by unfold maxLen at hc2m; omega⟩
 clear hr2 hrd2 HF hc2 hc2m
 go_upto_region 3 with fail
 have hl := zgi w2 [4,1,2,1,3,9] #[.int .u8 4,.int .u8 1,.int .u8 2,.int .u8 1,.int .u8 3,.int .u8 9] 6 rfl (zjx (by decide)) rfl (by decide)
 have hbx := (Below.refl w2.heap.size w2).alloc (Nat.le_refl _) (.cells #[.int .u8 4,.int .u8 1,.int .u8 2,.int .u8 1,.int .u8 3,.int .u8 9] 5)
 have k1 := zae hbx k1
 have h1 := h1.below hbx
 have h2 := h2.below hbx
 have hB := zac hB hbx
 clear hbx
 go_wp2_with fail
 generalize w2.alloc (.cells #[.int .u8 4,.int .u8 1,.int .u8 2,.int .u8 1,.int .u8 3,.int .u8 9] 5) = X3 at *
 refine (H1.out _ _ (HT.out _ hB).1 hl).mono ?_
 rintro e w3 ⟨b3,A3,n3,c3,E3,u3,v3,ev3,rfl,hr3,he3,hb⟩
 have k1 := zae hb k1
 have h1 := h1.below hb
 have h2 := h2.below hb
 have hB := zac hB hb
 obtain ⟨bx1,bx2,bz⟩ := zaA w3 33 #[.bool b3,.slice A3 n3 c3,.slice E3 u3 v3]
 have k1 := zae bx1 k1
 have h1 := h1.below bx1
 have h2 := h2.below bx1
 have hB := zac hB bx1
 obtain rfl := he3
 have k3 := bx2
 have h3 := hr3.below bx1
 clear bx1 bx2 bz hb hr3 hl H1
 go_upto_region 4 with fail
 generalize w3.alloc (.cells #[.bool b3,.slice A3 n3 c3,.slice E3 u3 v3] 33) = Y3 at *
 obtain ⟨q3,hq3⟩ : ∃ q,w3.heap.size = q := ⟨_,rfl⟩
 rw [hq3] at k3 ⊢
 clear hq3
 have hl := zgi Y3 [3,1,2,1,4] #[.int .u8 3,.int .u8 1,.int .u8 2,.int .u8 1,.int .u8 4] 5 rfl (zjx (by decide)) rfl (by decide)
 have hbx := (Below.refl Y3.heap.size Y3).alloc (Nat.le_refl _) (.cells #[.int .u8 3,.int .u8 1,.int .u8 2,.int .u8 1,.int .u8 4] 5)
 have k1 := zae hbx k1
 have h1 := h1.below hbx
 have h2 := h2.below hbx
 have k3 := zae hbx k3
 have h3 := h3.below hbx
 have hB := zac hB hbx
 clear hbx
 go_wp2_with fail
 generalize Y3.alloc (.cells #[.int .u8 3,.int .u8 1,.int .u8 2,.int .u8 1,.int .u8 4] 5) = X4 at *
 refine (aw9_d2 _ _ (HT.out _ hB).1 hl).mono ?_
 rintro e w4 ⟨b4,A4,n4,c4,E4,u4,v4,ev4,rfl,hr4,he4,hb⟩
 have k1 := zae hb k1
 have h1 := h1.below hb
 have h2 := h2.below hb
 have k3 := zae hb k3
 have h3 := h3.below hb
 have hB := zac hB hb
 obtain ⟨bx1,bx2,bz⟩ := zaA w4 33 #[.bool b4,.slice A4 n4 c4,.slice E4 u4 v4]
 have k1 := zae bx1 k1
 have h1 := h1.below bx1
 have h2 := h2.below bx1
 have k3 := zae bx1 k3
 have h3 := h3.below bx1
 have hB := zac hB bx1
 have he4 := he4.below bx1
 clear bx1 bx2 bz hb hr4 hl
 go_upto_region 5 with fail
 generalize w4.alloc (.cells #[.bool b4,.slice A4 n4 c4,.slice E4 u4 v4] 33) = Y4 at *
 obtain ⟨q4,hq4⟩ : ∃ q,w4.heap.size = q := ⟨_,rfl⟩
 rw [hq4] at ⊢
 clear hq4
 have hl := zgi Y4 [3,1,2,2,1] #[.int .u8 3,.int .u8 1,.int .u8 2,.int .u8 2,.int .u8 1] 5 rfl (zjx (by decide)) rfl (by decide)
 have hbx := (Below.refl Y4.heap.size Y4).alloc (Nat.le_refl _) (.cells #[.int .u8 3,.int .u8 1,.int .u8 2,.int .u8 2,.int .u8 1] 5)
 have k1 := zae hbx k1
 have h1 := h1.below hbx
 have h2 := h2.below hbx
 have k3 := zae hbx k3
 have h3 := h3.below hbx
 have he4 := he4.below hbx
 have hB := zac hB hbx
 clear hbx
 go_wp2_with fail
 generalize Y4.alloc (.cells #[.int .u8 3,.int .u8 1,.int .u8 2,.int .u8 2,.int .u8 1] 5) = X5 at *
 refine (aw9_d3 _ _ (HT.out _ hB).1 hl).mono ?_
 rintro e w5 ⟨b5,A5,n5,c5,E5,u5,v5,ev5,rfl,hr5,he5,hb⟩
 have k1 := zae hb k1
 have h1 := h1.below hb
 have h2 := h2.below hb
 have k3 := zae hb k3
 have h3 := h3.below hb
 have he4 := he4.below hb
 have hB := zac hB hb
 obtain ⟨bx1,bx2,bz⟩ := zaA w5 33 #[.bool b5,.slice A5 n5 c5,.slice E5 u5 v5]
 have k1 := zae bx1 k1
 have h1 := h1.below bx1
 have h2 := h2.below bx1
 have k3 := zae bx1 k3
 have h3 := h3.below bx1
 have he4 := he4.below bx1
 have hB := zac hB bx1
 have he5 := he5.below bx1
 clear bx1 bx2 bz hb hr5 hl
 go_upto_region 6 with fail
 generalize w5.alloc (.cells #[.bool b5,.slice A5 n5 c5,.slice E5 u5 v5] 33) = Y5 at *
 obtain ⟨q5,hq5⟩ : ∃ q,w5.heap.size = q := ⟨_,rfl⟩
 rw [hq5] at ⊢
 clear hq5
 go_wp2_with fail
 refine (aw9_r _ (HT.out _ hB).1).mono ?_
 rintro e w6 ⟨b6,A6,n6,c6,E6,u6,v6,ev6,rfl,hr6,he6,hb⟩
 have k1 := zae hb k1
 have h1 := h1.below hb
 have h2 := h2.below hb
 have k3 := zae hb k3
 have h3 := h3.below hb
 have he4 := he4.below hb
 have he5 := he5.below hb
 have hB := zac hB hb
 obtain ⟨bx1,bx2,bz⟩ := zaA w6 33 #[.bool b6,.slice A6 n6 c6,.slice E6 u6 v6]
 have k1 := zae bx1 k1
 have h1 := h1.below bx1
 have h2 := h2.below bx1
 have k3 := zae bx1 k3
 have h3 := h3.below bx1
 have he4 := he4.below bx1
 have he5 := he5.below bx1
 have hB := zac hB bx1
 have he6 := he6.below bx1
 clear bx1 bx2 bz hb hr6
 go_upto_region 7 with fail
 generalize w6.alloc (.cells #[.bool b6,.slice A6 n6 c6,.slice E6 u6 v6] 33) = Y6 at *
 have s1 := zcw (c := c2) (P := Tryz.prog) 42 9 5 Tryz.underlying42 Tryz.underlying5 Tryz.underlying9 h2.1
 obtain ⟨S2,hS2⟩ : ∃ x,strL [4,1,2,1,3] = x := ⟨_,rfl⟩
 have s2 : (S2.toList == [4,1,2,1,3]) = true := zcZ S2 [4,1,2,1,3] true (by rw [← hS2]; decide)
 rw [hS2] at s1
 obtain ⟨g1,e1,i1⟩ := k1.c3
 obtain ⟨g3,e3,i3⟩ := k3.c3
 have n0 := zbe
 have TO : ∀ (w' : World) (v : Value),zbL w' (.bare 91) v → zcS w' → Calls Tryz.prog 33 #[v,.int .i64 91,.string { data := #[] },.int .i64 0] w' fun e w'' => e = .returned (.bool true) ∧ Below w'.heap.size w' w'' := fun w' v h hg => zeT (.bare 91) v w' h hg trivial
 have TP : ∀ (w' : World) (v : Value),zbL w' (.spot 90 sNum 3) v → zcS w' → Calls Tryz.prog 33 #[v,.int .i64 90,.string { data := #[110,117,109,98,101,114] },.int .i64 3] w' fun e w'' => e = .returned (.bool true) ∧ Below w'.heap.size w' w'' := fun w' v h hg => zeT (.spot 90 sNum 3) v w' h hg (.inl rfl)
 have TQ : ∀ (w' : World) (v : Value),zbL w' (.spot 91 sDen 2) v → zcS w' → Calls Tryz.prog 33 #[v,.int .i64 91,.string { data := #[100,105,118,105,115,111,114] },.int .i64 2] w' fun e w'' => e = .returned (.bool true) ∧ Below w'.heap.size w' w'' := fun w' v h hg => zeT (.spot 91 sDen 2) v w' h hg (.inr rfl)
 have HTO := lh9 TO
 have HTP := lh9 TP
 have HTQ := lh9 TQ
 have SM := zln a a b3 A3 n3 c3 E3 u3 v3 b1 A1 n1 c1 E1 u1 v1 _ (HT.out _ hB).1 h3 h1 (szq HZ h3) (szq HZ h1)
 rw [decide_eq_true rfl] at SM
 have HSM := lh9 SM
 have PT := lh9 (fun w' (hb : Below Y6.heap.size Y6 w') (hB : Below w.heap.size w w') => ziT a b1 A1 n1 c1 E1 u1 v1 w' (HT.out _ hB).1 (h1.below hb) (szq HZ h1))
 rw [HX.out] at PT
 obtain ⟨S3,hS3⟩ : ∃ x,zas [45,51,47,50] = x := ⟨_,rfl⟩
 have s3 : (S3.toList == [45,51,47,50]) = true := zcZ S3 [45,51,47,50] true (by rw [← hS3]; decide)
 rw [hS3] at PT
 have hY := Below.refl Y6.heap.size Y6
 clear hS2 hS3 TO TP TQ SM HX h1 h3 h2 HZ k3
 go_wp2_with fail
 refine HSM.out.mono ?_
 rintro e w7 ⟨rfl,hb⟩
 have k1 := zae hb k1
 have he4 := he4.below hb
 have he5 := he5.below hb
 have he6 := he6.below hb
 have hB := zac hB hb
 have hY := zac hY hb
 clear hb HSM g1 e1 i1 g3 e3 i3 s1
 go_wp2_with fail
 refine (HTO.out _ _ he4 (HT.out _ hB).2).mono ?_
 rintro e w8 ⟨rfl,hb⟩
 have k1 := zae hb k1
 have he5 := he5.below hb
 have he6 := he6.below hb
 have hB := zac hB hb
 have hY := zac hY hb
 clear hb HTO
 go_wp2_with fail
 refine (HTP.out _ _ he5 (HT.out _ hB).2).mono ?_
 rintro e w9 ⟨rfl,hb⟩
 have k1 := zae hb k1
 have he6 := he6.below hb
 have hB := zac hB hb
 have hY := zac hY hb
 obtain ⟨g1,e1,i1⟩ := k1.c3
 clear hb HTP
 go_wp2_with fail
 refine (PT.out _ hY hB).mono ?_
 rintro e w10 ⟨rfl,hb⟩
 have he6 := he6.below hb
 have hB := zac hB hb
 clear hb PT k1 g1 e1 i1
 go_wp2_with fail
 refine (HTQ.out _ _ he6 (HT.out _ hB).2).mono ?_
 rintro e w11 ⟨rfl,hb⟩
 have hB := zac hB hb
 clear hb HTQ
 go_wp2
 go_ret
 exact ⟨rfl,hB⟩
end Go.Proofs.YtfieheffipfahaaGreatDoor
