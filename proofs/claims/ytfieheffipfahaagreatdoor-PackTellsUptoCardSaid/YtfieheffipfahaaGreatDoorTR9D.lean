/- What this claim leans on. -/
import Derived.Test.YtfieheffipfahaaGreatDoorTR9A
namespace Go.Proofs.YtfieheffipfahaaGreatDoor
open Go Go.RowKit
set_option maxHeartbeats 16000000
set_option maxRecDepth 100000
set_option linter.unusedVariables false
set_option linter.unusedSimpArgs false
theorem zib (r : Rat) (b : Bool) (A : oA9) (n c : Nat) (E : oA9) (u v : Nat) (w : World) (h : zeo w r b A n c E u v) (hn : n ≤ 1048576) (hu : u ≤ 1048576) (h0 : r ≠ 0) :
  Calls Tryz.prog 14 #[.agg #[.bool b,.slice A n c,.slice E u v]] w (zda w r) := by
 obtain ⟨bx1,bx2,bx3,bz⟩ := zbQ w 40 49 #[.bool b,.slice A n c,.slice E u v] #[.int .i64 0,.string { data := #[] },.int .i64 0]
 have i0 : ((n : Int) == 0) = false := by have := znb h.1.2 (zmr h0); rw [beq_eq_false_iff_ne]; omega
 obtain ⟨t,ht⟩ : ∃ t,decide (r.den = 1) = t := ⟨_,rfl⟩
 have HON := lh9 (fun w' (hb : Below w.heap.size w w') => zgP E u v w' (h.2.below hb) (by omega) ht)
 have HPD := lh9 (fun w' (hb : Below w.heap.size w w') => zja r.den E u v w' (h.2.below hb) hu)
 have HPN := lh9 (fun w' (hb : Below w.heap.size w w') => zja r.num.natAbs A n c w' (h.1.2.below hb) hn)
 have HF : Hid (zgC r = [(bif t then 1 else 3) + (bif b then 1 else 0)] ++ (bif t then [] else zcm r.den) ++ zcm r.num.natAbs) := by
  show _ = _
  rw [zna h0,znc h0,← ht,h.1.1]
  unfold zhv
  by_cases h1 : r.den = 1 <;> by_cases h2 : r.num < 0 <;> simp [h1,h2]
 have HTD : Hid (t = true → zbt r.den = 1) := fun h => by rw [of_decide_eq_true (ht.trans h)]; exact zkv
 have HE1 := lh9 (@zmY r)
 have HE2 := lh9 (@zmZ r)
 have HE3 := lh9 (@zgW r)
 obtain ⟨F,hF⟩ : ∃ x,zgC r = x := ⟨_,rfl⟩
 obtain ⟨N,hN⟩ : ∃ x,zbt r.num.natAbs = x := ⟨_,rfl⟩
 obtain ⟨D,hD⟩ : ∃ x,zbt r.den = x := ⟨_,rfl⟩
 obtain ⟨PN,hPN⟩ : ∃ x,zcm r.num.natAbs = x := ⟨_,rfl⟩
 obtain ⟨PD,hPD⟩ : ∃ x,zcm r.den = x := ⟨_,rfl⟩
 have hlN : zbt r.num.natAbs ≤ 255 → (zcm r.num.natAbs).length ≤ 256 := fun h => by show (zbi _).length + 1 ≤ _; rw [zdh]; omega
 have hlD : zbt r.den ≤ 255 → (zcm r.den).length ≤ 256 := fun h => by show (zbi _).length + 1 ≤ _; rw [zdh]; omega
 unfold zjk at HPD HPN
 unfold zda
 obtain ⟨EE,hEE⟩ : ∃ x,zfi r = x := ⟨_,rfl⟩
 obtain ⟨EL,hEL⟩ : ∃ x,encL r = x := ⟨_,rfl⟩
 rw [hN,hPN] at HPN hlN
 rw [hD,hPD] at HPD hlD
 rw [hD] at HTD
 rw [hF,hPN,hPD] at HF
 simp only [hD,hN,hF,hEE,hEL] at HE1 HE2 HE3
 rw [hEE,hEL]
 have HLN := lh9 hlN
 have HLD := lh9 hlD
 clear h hF hN hD hPN hPD hEE hEL ht hn hu h0 hlN hlD
 go_enter Tryz.func14,Tryz.ntmps14
 obtain ⟨g1,e1,i1⟩ := bx2.c3
 go_upto_region 4 with fail
 generalize hW : (w.alloc (.cells #[.bool b,.slice A n c,.slice E u v] 40)).alloc (.cells #[.int .i64 0,.string { data := #[] },.int .i64 0] 49) = W at *
 have hsz : w.heap.size + 2 ≤ W.heap.size := bz
 clear hW bx2 bz
 go_wp2_with fail
 refine (HON.out _ bx1).mono ?_
 rintro e w1 ⟨rfl,hw1⟩
 subst hw1
 clear HON
 go_upto_if 22 with fail
 go_cut [4] (fun s4 wx => s4 = .int .i64 ((bif t then 1 else 3 : Nat) : Int) ∧ wx = w1)
 case first =>
  cases t
  ·go_wp2
   go_meet
   exact ⟨rfl,rfl⟩
  ·go_wp2
   go_meet
   exact ⟨rfl,rfl⟩
 case rest =>
 obtain ⟨rfl,hwc⟩ := hcut
 subst hwc
 obtain ⟨K1,hK1⟩ : ∃ x,(bif t then 1 else 3 : Nat) = x := ⟨_,rfl⟩
 have hk1 : K1 ≤ 3 ∧ 1 ≤ K1 ∧ (t = true → K1 = 1) ∧ (t = false → K1 = 3) := by rw [← hK1]; cases t <;> simp
 rw [hK1] at HF ⊢
 have j1 : IntKind.i64.wrap ((K1 : Int) + 1) = (K1 : Int) + 1 := IntWalk.i64_in _ (by omega)
 go_upto_if 25 with fail
 go_cut [4,26,27] (fun s4 _ _ wx => s4 = .int .i64 ((K1 + (bif b then 1 else 0) : Nat) : Int) ∧ wx = wc)
 case first =>
  cases b
  ·go_wp2
   go_meet
   exact ⟨rfl,rfl⟩
  ·go_wp2
   go_meet
   exact ⟨rfl,rfl⟩
 case rest =>
 obtain ⟨rfl,hwc⟩ := hcut
 subst hwc
 obtain ⟨K2,hK2⟩ : ∃ x,K1 + (bif b then 1 else 0 : Nat) = x := ⟨_,rfl⟩
 have hk2 : K2 ≤ 4 ∧ K1 ≤ K2 ∧ K2 ≤ K1 + 1 := by rw [← hK2]; cases b <;> simp <;> omega
 rw [hK2] at HF ⊢
 have j2 : IntKind.u8.wrap (K2 : Int) = (K2 : Int) := IntWalk.u8_in _ (by omega)
 have j3 : decide ((3 : Int) ≤ (K2 : Int)) = !t := by obtain ⟨-,-,h1,h2⟩ := hk1; cases t <;> simp at h1 h2 ⊢ <;> omega
 have HL := lh9 (lit8 (B := w.heap.size + 2) wc K2 hsz)
 have hB := bx1.alloc bx1.size (.cells #[.int .u8 (K2 : Int)] 5)
 have k2 := bx3.alloc (.cells #[.int .u8 (K2 : Int)] 5)
 have g1 := zad ((Below.refl _ wc).alloc (Nat.le_refl _) (.cells #[.int .u8 (K2 : Int)] 5)) g1
 have e1 := zad ((Below.refl _ wc).alloc (Nat.le_refl _) (.cells #[.int .u8 (K2 : Int)] 5)) e1
 have i1 := zad ((Below.refl _ wc).alloc (Nat.le_refl _) (.cells #[.int .u8 (K2 : Int)] 5)) i1
 clear hK1 hK2 bx1 bx3
 go_upto_region 9 with fail
 generalize hW3 : wc.alloc (.cells #[.int .u8 (K2 : Int)] 5) = W3 at *
 have hB3 := hB.size
 have hszw : w.heap.size + 2 ≤ W3.heap.size := by rw [← hW3]; simp; omega
 obtain ⟨q,hq⟩ : ∃ q,wc.heap.size = q := ⟨_,rfl⟩
 rw [hq] at HL ⊢
 clear hW3 hq
 go_upto_if 32 with fail
 go_cut [5,6,7,8,33,34,35,36,37,38,39,40,41,42,43,44,45,46] (fun s5 _ _ _ _ _ _ _ _ _ _ _ _ _ _ _ _ _ wx => ∃ v5,s5 = v5 ∧ D ≤ 255 ∧ zbR (w.heap.size + 2) wx v5 ([K2] ++ (bif t then [] else PD)) ∧ Below w.heap.size w wx ∧ Blk wx (w.heap.size + 1) 49 #[.int .i64 0,.string { data := #[] },.int .i64 0] ∧ wx.cell? ⟨w.heap.size,1,none⟩ = some (.slice A n c))
 case first =>
  clear HPN HLN HF
  cases t
  ·have HP := lh9 (HPD.out _ hB)
   clear HPD HTD HE3
   by_cases hD : D ≤ 255
   ·rw [decide_eq_true hD,if_pos hD] at HP
    have HLD2 := lh9 (HLD.out hD)
    clear HE1 HLD
    go_wp2_with fail
    refine HP.out.mono ?_
    rintro e w1 ⟨v6,rfl,hr6,hb6⟩
    obtain ⟨A6,c6,rfl,hc6,hc6m,hrd⟩ := hr6.reads
    have HL2 := lh9 (HL.out.below hb6)
    have hB1 := zac hB hb6
    have k21 := zae hb6 k2
    have e11 := zad hb6 e1
    have hl1 : ([K2] ++ PD).length ≤ 257 := by have := HLD2.out; simp; omega
    have HLP := HLD2.out
    obtain ⟨m6,hm6⟩ : ∃ m,PD.length = m := ⟨_,rfl⟩
    rw [hm6] at hrd HLP ⊢
    have HRD := lh9 hrd
    have hsz1 := hb6.size
    clear HP HL hB k2 e1 hr6 hb6 hc6 hc6m hrd g1 i1
    go_wp2_with (at_builtin; refine app8L (.tmp 44) (.tmp 45) (w.heap.size + 2) _ [K2] A6 m6 c6 PD HL2.out HRD.out (by simp; omega) (by omega) ?_; intro v' w2 hown' hG)
    have hB := hG.belowOf HL2.out hB1 (Nat.le_add_right _ _)
    have k22 := hG.blk HL2.out k21 (by omega)
    have e12 := hG.cell HL2.out e11 (by show w.heap.size < w.heap.size + 2; omega)
    clear hG HL2 HRD HLP hB1 k21 e11
    go_wp2
    go_meet
    exact ⟨_,rfl,hD,hown',hB,k22,e12⟩
   ·rw [decide_eq_false hD,if_neg hD] at HP
    obtain ⟨rfl,rfl⟩ := HE1.out hD
    clear HE1 HE2 HLD
    go_wp2_with fail
    refine HP.out.mono ?_
    rintro e w1 ⟨v6,rfl,hr6,hb6⟩
    have hB1 := zac hB hb6
    have k21 := zae hb6 k2
    obtain ⟨A6,c6,rfl,hc6,hc6m,hrd⟩ := hr6.reads
    clear HP HL hB k2 e1 hr6 hb6 g1 i1 hrd hc6 hc6m
    go_upto_region 12 with fail
    obtain ⟨sc0,sf0,sc1,sf1,sc2,sf2⟩ := st3 k21 (.int .i64 3) (.string { data := #[100,105,118,105,115,111,114] })
    obtain ⟨r0,r1,r2⟩ := (sn3 k21 (.int .i64 3) (.string { data := #[100,105,118,105,115,111,114] }) (.int .i64 (D : Int))).c3
    have HB := lh9 (bl3 (.int .i64 3) (.string { data := #[100,105,118,105,115,111,114] }) (.int .i64 (D : Int)) (Nat.le_succ _) hB1)
    clear k21 hB1
    go_wp2
    refine bodyPost_ret (v := .tuple #[.slice none 0 0,.agg #[.int .i64 3,.string { data := #[100,105,118,105,115,111,114] },.int .i64 (D : Int)]]) (by simp [results,Tryz.results14,go_sem,r0,r1,r2]) rfl ?_
    exact ⟨_,rfl,zbR.nil _ _,HB.out⟩
  ·have hD := HTD.out rfl
   clear HPD HTD HLD HE1 HE2 HE3
   go_wp2
   go_meet
   exact ⟨_,rfl,by omega,HL.out,hB,k2,e1⟩
 case rest =>
 obtain ⟨v5,rfl,hD,hr5,hB5,k5,e5⟩ := hcut
 have HP := lh9 (HPN.out _ hB5)
 have hszc := k5.lt
 clear HPN HPD HTD HE1 HL hB k2 g1 e1 i1
 have hl5 : ([K2] ++ (bif t then [] else PD)).length ≤ 257 := by have := HLD.out hD; cases t <;> simp <;> omega
 obtain ⟨L5,hL5⟩ : ∃ x,([K2] ++ (bif t then [] else PD)) = x := ⟨_,rfl⟩
 rw [hL5] at HF hr5 hl5
 have HR5 := lh9 hr5
 clear hL5 hr5
 by_cases hN : N ≤ 255
 ·rw [decide_eq_true hN,if_pos hN] at HP
  have HLN2 := HLN.out hN
  obtain ⟨rfl,rfl⟩ := HE3.out hD hN
  clear HE2 HE3 HLN HLD
  go_wp2_with fail
  refine HP.out.mono ?_
  rintro e w1 ⟨v6,rfl,hr6,hb6⟩
  obtain ⟨A6,c6,rfl,hc6,hc6m,hrd⟩ := hr6.reads
  have HL2 := lh9 (HR5.out.below hb6)
  have hB1 := zac hB5 hb6
  have k21 := zae hb6 k5
  obtain ⟨m6,hm6⟩ : ∃ m,PN.length = m := ⟨_,rfl⟩
  rw [hm6] at hrd HLN2 ⊢
  have HRD := lh9 hrd
  have hsz1 := hb6.size
  clear HP HR5 hB5 k5 e5 hr6 hb6 hc6 hc6m hrd
  go_wp2_with (at_builtin; refine app8L (.tmp 59) (.tmp 60) (w.heap.size + 2) _ L5 A6 m6 c6 PN HL2.out HRD.out (by omega) (by omega) ?_; intro v' w2 hown' hG; have hB := hG.belowOf HL2.out hB1 (Nat.le_add_right _ _); have k22 := hG.blk HL2.out k21 (by omega); rw [← HF.out] at hown'; have HR6 := lh9 hown'; clear hG HL2 HRD hB1 k21 hown' HF; obtain ⟨sc0,sf0,sc1,sf1,sc2,sf2⟩ := st3 k22 (.int .i64 0) (.string { data := #[] }); obtain ⟨r0,r1,r2⟩ := (sn3 k22 (.int .i64 0) (.string { data := #[] }) (.int .i64 0)).c3; have HB := lh9 (bl3 (.int .i64 0) (.string { data := #[] }) (.int .i64 0) (Nat.le_succ _) hB); have HR := lh9 ((((HR6.out.set_ (p := ⟨w.heap.size + 1,0,none⟩) (by show w.heap.size + 1 < w.heap.size + 2; omega) (.int .i64 0)).set_ (p := ⟨w.heap.size + 1,1,none⟩) (by show w.heap.size + 1 < w.heap.size + 2; omega) (.string { data := #[] })).set_ (p := ⟨w.heap.size + 1,2,none⟩) (by show w.heap.size + 1 < w.heap.size + 2; omega) (.int .i64 0)).up (B := w.heap.size) (by omega)); clear k22 hB HR6)
  refine bodyPost_ret (v := .tuple #[v',.agg #[.int .i64 0,.string { data := #[] },.int .i64 0]]) (by simp [results,Tryz.results14,go_sem,r0,r1,r2]) rfl ?_
  exact ⟨_,rfl,HR.out,HB.out⟩
 ·rw [decide_eq_false hN,if_neg hN] at HP
  obtain ⟨rfl,rfl⟩ := HE2.out hD hN
  clear HE2 HE3 HLN HLD HF
  go_wp2_with fail
  refine HP.out.mono ?_
  rintro e w1 ⟨v6,rfl,hr6,hb6⟩
  have hB1 := zac hB5 hb6
  have k21 := zae hb6 k5
  obtain ⟨A6,c6,rfl,hc6,hc6m,hrd⟩ := hr6.reads
  clear HP HR5 hB5 k5 e5 hr6 hb6 hrd hc6 hc6m
  go_upto_region 16 with fail
  obtain ⟨sc0,sf0,sc1,sf1,sc2,sf2⟩ := st3 k21 (.int .i64 3) (.string { data := #[110,117,109,98,101,114] })
  obtain ⟨r0,r1,r2⟩ := (sn3 k21 (.int .i64 3) (.string { data := #[110,117,109,98,101,114] }) (.int .i64 (N : Int))).c3
  have HB := lh9 (bl3 (.int .i64 3) (.string { data := #[110,117,109,98,101,114] }) (.int .i64 (N : Int)) (Nat.le_succ _) hB1)
  clear k21 hB1
  go_wp2
  refine bodyPost_ret (v := .tuple #[.slice none 0 0,.agg #[.int .i64 3,.string { data := #[110,117,109,98,101,114] },.int .i64 (N : Int)]]) (by simp [results,Tryz.results14,go_sem,r0,r1,r2]) rfl ?_
  exact ⟨_,rfl,zbR.nil _ _,HB.out⟩
theorem zlq (r : Rat) (b : Bool) (A : oA9) (n c : Nat) (E : oA9) (u v : Nat) (w : World) (h : zeo w r b A n c E u v) (hn : n ≤ 1048576) (hu : u ≤ 1048576) :
  Calls Tryz.prog 14 #[.agg #[.bool b,.slice A n c,.slice E u v]] w (zda w r) := by
 by_cases h0 : r = 0
 ·exact zis r b A n c E u v w h h0
 ·exact zib r b A n c E u v w h hn hu h0
theorem zmj {w : World} {g : Nat} (h : Blk w g 3 #[.int .i64 1]) : zaj w 1 (some ⟨g,0,none⟩) 1 1 := by
 have e : dg 65536 1 = [1] := by
  rw [zds (by decide) (by decide)]
  rfl
 refine ⟨?_,Nat.le_refl _,by omega⟩
 rw [e]
 refine ⟨rfl,fun _ => ⟨_,rfl,h.lt,fun j u hu => ?_⟩⟩
 match j,hu with
 | 0,hu => simp [zam] at hu; subst hu; exact h.cell 0
theorem sgI_f (n : Nat) : sgI false n = (n : Int) := by unfold sgI; simp
theorem zmm (s : Bool) (A : oA9) (n c : Nat) (l : List Nat) (E : oA9) (u v : Nat) (e : List Nat) (w : World) (h : zav w A n c l) (k : zav w E u v e) (hd : dv 18446744073709551616 e = 0) :
  Calls Tryz.prog 12 #[.agg #[.bool s,.slice A n c,.slice E u v]] w (zfx w (fOf s l e)) := by
 obtain ⟨K,hK⟩ : ∃ K,1048576 = K := ⟨_,rfl⟩
 have hKK : K ≤ 1048576 := by omega
 have hK0 : 0 < K := by omega
 have HP := lh9 (fun w' (hb : Below w.heap.size w w') => zjV E u v e w' ((k.reads.below hb).more hb.size) k.dgs (by have := k.small; have := k.fits; omega))
 have HRF := lh9 (fun w' (hb : Below w.heap.size w w') => zkO s A n c l w' ⟨(h.reads.below hb).more hb.size,h.dgs,h.fits,h.small⟩)
 have hq : Rat.divInt (zOf s l) (sgI false 1) = fOf s l e := by
  rw [sgI_f]
  unfold fOf dOf
  rw [if_pos hd]
 have sz0 : Sz 1048576 (dv 18446744073709551616 e) := zdy k
 have sz1 : Sz 1048576 (zOf s l).natAbs := by rw [zgb]; exact zdy h
 rw [hK] at sz0 sz1
 obtain ⟨D0,hD⟩ : ∃ D,dv 18446744073709551616 e = D := ⟨_,rfl⟩
 obtain ⟨z,hz⟩ : ∃ z,zOf s l = z := ⟨_,rfl⟩
 obtain ⟨q,hqq⟩ : ∃ q,fOf s l e = q := ⟨_,rfl⟩
 rw [hD] at HP sz0 hd
 rw [hz] at HRF sz1 hq
 rw [hqq] at hq ⊢
 have Hd0 := lh9 hd
 have HQ := lh9 hq
 have HS0 := lh9 sz0
 have HSZ := lh9 sz1
 have Hne : Hid ((1 : Nat) ≠ 0) := (show (1 : Nat) ≠ 0 from by decide)
 clear h k hD hz hqq hd hq sz0 sz1 hK
 go_enter Tryz.func12,Tryz.ntmps12
 have hB := Below.refl w.heap.size w
 obtain ⟨bx1,bx2,bx3,bz⟩ := zbQ w 26 40 #[.bool s,.slice A n c,.slice E u v] #[.bool false,.slice none 0 0,.slice none 0 0]
 have hB := zac hB bx1
 obtain ⟨g1,e1,i1⟩ := bx2.c3
 have k2 := bx3
 clear bx1 bx2 bx3 bz
 go_wp2_with fail
 generalize (w.alloc (.cells #[.bool s,.slice A n c,.slice E u v] 26)).alloc (.cells #[.bool false,.slice none 0 0,.slice none 0 0] 40) = W1 at *
 have HZ3 : Hid (Sz (K) (D0)) := HS0.out
 (with_reducible refine (HP.out _ hB).mono ?_)
 intro e wc2 hg
 obtain ⟨C3,r3,f3,rfl,hh,hb⟩ := hg.elim
 have hB := zac hB hb
 have g1 := zad hb g1
 have e1 := zad hb e1
 have i1 := zad hb i1
 have k2 := zae hb k2
 have HN3 := lh9 hh
 clear hb hh hg
 have hq3 := zkI HN3.out Hd0.out
 have hr3 : ((r3 : Int) == 0) = true := by rw [beq_iff_eq]; omega
 clear hq3
 have lt1_2 : w.heap.size < wc2.heap.size := World.block_lt_of_cell? wc2 ⟨w.heap.size,0,none⟩ g1
 have lt2_2 : w.heap.size + 1 < wc2.heap.size := k2.lt
 have hq2 := hB.size
 obtain ⟨bx1,bx2,bz⟩ := zaA wc2 3 #[.int .i64 1]
 have hB := zac hB bx1
 have g1 := zad bx1 g1
 have e1 := zad bx1 e1
 have i1 := zad bx1 i1
 have k2 := zae bx1 k2
 have HN3 := lh9 (HN3.out.below bx1)
 have k4 := bx2
 clear bx1 bx2 bz
 go_wp2_with fail
 generalize wc2.alloc (.cells #[.int .i64 1] 3) = W3 at *
 generalize wc2.heap.size = q3 at *
 have HZ5 : Hid (Sz (K) (z).natAbs) := HSZ.out
 (with_reducible refine (HRF.out _ hB).mono ?_)
 rintro e wc4 ⟨b5,B5,m5,d5,rfl,hw5,hb⟩
 have hB := zac hB hb
 have g1 := zad hb g1
 have e1 := zad hb e1
 have i1 := zad hb i1
 have k2 := zae hb k2
 have HN3 := lh9 (HN3.out.below hb)
 have k4 := zae hb k4
 have HN5 := lh9 hw5
 clear hb hw5
 go_wp2_with fail
 have HN6 := lh9 (zmj k4)
 have HZ6 : Hid (Sz 1 1) := zck (by decide)
 have HZ7 : Hid (Sz (1) (sgI false 1).natAbs) := (by rw [zeb]; exact HZ6.out)
 (with_reducible refine (zdm false (1) (some ⟨q3,0,none⟩) 1 1 _ HN6.out (szh HZ6 HN6.out)).mono ?_)
 rintro e wc5 ⟨b7,B7,m7,d7,rfl,hw7,hb⟩
 have hB := zac hB hb
 have g1 := zad hb g1
 have e1 := zad hb e1
 have i1 := zad hb i1
 have k2 := zae hb k2
 have HN3 := lh9 (HN3.out.below hb)
 have k4 := zae hb k4
 have HN5 := lh9 (HN5.out.below hb)
 have HN7 := lh9 hw7
 clear hb hw7
 go_wp2_with fail
 have HZ8 : Hid (SzQ (K + 1 + 1) (Rat.divInt z (sgI false 1))) := SzQ.made (HZ5.out.up (by omega)) (HZ7.out.up (by omega)) (by omega)
 (with_reducible refine (zlp (z) (sgI false 1) b5 B5 m5 d5 b7 B7 m7 d7 (K) (1) _ HZ5.out HN5.out HZ7.out HN7.out (by omega) (by omega) (by rw [sgI_f]; exact zmT Hne.out)).mono ?_)
 rintro e wc6 ⟨b8,B8,m8,d8,E8,u8,v8,rfl,hw8,hb⟩
 have hB := zac hB hb
 have g1 := zad hb g1
 have e1 := zad hb e1
 have i1 := zad hb i1
 have k2 := zae hb k2
 have HN3 := lh9 (HN3.out.below hb)
 have k4 := zae hb k4
 have HN5 := lh9 (HN5.out.below hb)
 have HN7 := lh9 (HN7.out.below hb)
 have HN8 := lh9 hw8
 clear hb hw8
 obtain ⟨sc0,sf0,sc1,sf1,sc2,sf2⟩ := st3 k2 (.bool b8) (.slice B8 m8 d8)
 obtain ⟨r0,r1,r2⟩ := (sn3 k2 (.bool b8) (.slice B8 m8 d8) (.slice E8 u8 v8)).c3
 have HG := lh9 (gr3 (zeo.to HQ.out HN8.out) k2 hB (by omega))
 go_wp2
 refine bodyPost_ret (v := .agg #[.bool b8,.slice B8 m8 d8,.slice E8 u8 v8]) (by simp [results,Tryz.results12,go_sem,r0,r1,r2]) rfl ?_
 exact HG.out
theorem zml (s : Bool) (A : oA9) (n c : Nat) (l : List Nat) (E : oA9) (u v : Nat) (e : List Nat) (w : World) (h : zav w A n c l) (k : zav w E u v e) (hd : dv 18446744073709551616 e ≠ 0) :
  Calls Tryz.prog 12 #[.agg #[.bool s,.slice A n c,.slice E u v]] w (zfx w (fOf s l e)) := by
 obtain ⟨K,hK⟩ : ∃ K,1048576 = K := ⟨_,rfl⟩
 have hKK : K ≤ 1048576 := by omega
 have hK0 : 0 < K := by omega
 have HP := lh9 (fun w' (hb : Below w.heap.size w w') => zjV E u v e w' ((k.reads.below hb).more hb.size) k.dgs (by have := k.small; have := k.fits; omega))
 have HRF := lh9 (fun w' (hb : Below w.heap.size w w') => zkO s A n c l w' ⟨(h.reads.below hb).more hb.size,h.dgs,h.fits,h.small⟩)
 have hq : Rat.divInt (zOf s l) (sgI false (dv 18446744073709551616 e)) = fOf s l e := by
  rw [sgI_f]
  unfold fOf dOf
  rw [if_neg hd]
 have sz0 : Sz 1048576 (dv 18446744073709551616 e) := zdy k
 have sz1 : Sz 1048576 (zOf s l).natAbs := by rw [zgb]; exact zdy h
 rw [hK] at sz0 sz1
 obtain ⟨D0,hD⟩ : ∃ D,dv 18446744073709551616 e = D := ⟨_,rfl⟩
 obtain ⟨z,hz⟩ : ∃ z,zOf s l = z := ⟨_,rfl⟩
 obtain ⟨q,hqq⟩ : ∃ q,fOf s l e = q := ⟨_,rfl⟩
 rw [hD] at HP sz0 hd hq
 rw [hz] at HRF sz1 hq
 rw [hqq] at hq ⊢
 have Hd0 := lh9 hd
 have HQ := lh9 hq
 have HS0 := lh9 sz0
 have HSZ := lh9 sz1
 have Hne : Hid ((D0 : Nat) ≠ 0) := hd
 clear h k hD hz hqq hd hq sz0 sz1 hK
 go_enter Tryz.func12,Tryz.ntmps12
 have hB := Below.refl w.heap.size w
 obtain ⟨bx1,bx2,bx3,bz⟩ := zbQ w 26 40 #[.bool s,.slice A n c,.slice E u v] #[.bool false,.slice none 0 0,.slice none 0 0]
 have hB := zac hB bx1
 obtain ⟨g1,e1,i1⟩ := bx2.c3
 have k2 := bx3
 clear bx1 bx2 bx3 bz
 go_wp2_with fail
 generalize (w.alloc (.cells #[.bool s,.slice A n c,.slice E u v] 26)).alloc (.cells #[.bool false,.slice none 0 0,.slice none 0 0] 40) = W1 at *
 have HZ3 : Hid (Sz (K) (D0)) := HS0.out
 (with_reducible refine (HP.out _ hB).mono ?_)
 intro e wc2 hg
 obtain ⟨C3,r3,f3,rfl,hh,hb⟩ := hg.elim
 have hB := zac hB hb
 have g1 := zad hb g1
 have e1 := zad hb e1
 have i1 := zad hb i1
 have k2 := zae hb k2
 have HN3 := lh9 hh
 clear hb hh hg
 have hq3 := znb HN3.out Hd0.out
 have hr3 : ((r3 : Int) == 0) = false := by rw [beq_eq_false_iff_ne]; omega
 clear hq3
 go_wp2_with fail
 have HZ4 : Hid (Sz (K) (z).natAbs) := HSZ.out
 (with_reducible refine (HRF.out _ hB).mono ?_)
 rintro e wc3 ⟨b4,B4,m4,d4,rfl,hw4,hb⟩
 have hB := zac hB hb
 have g1 := zad hb g1
 have e1 := zad hb e1
 have i1 := zad hb i1
 have k2 := zae hb k2
 have HN3 := lh9 (HN3.out.below hb)
 have HN4 := lh9 hw4
 clear hb hw4
 go_wp2_with fail
 have HZ5 : Hid (Sz (K) (sgI false D0).natAbs) := (by rw [zeb]; exact HZ3.out)
 (with_reducible refine (zdm false (D0) C3 r3 f3 _ HN3.out (szh HZ3 HN3.out)).mono ?_)
 rintro e wc4 ⟨b5,B5,m5,d5,rfl,hw5,hb⟩
 have hB := zac hB hb
 have g1 := zad hb g1
 have e1 := zad hb e1
 have i1 := zad hb i1
 have k2 := zae hb k2
 have HN3 := lh9 (HN3.out.below hb)
 have HN4 := lh9 (HN4.out.below hb)
 have HN5 := lh9 hw5
 clear hb hw5
 go_wp2_with fail
 have HZ6 : Hid (SzQ (K + K + 1) (Rat.divInt z (sgI false D0))) := SzQ.made (HZ4.out.up (by omega)) (HZ5.out.up (by omega)) (by omega)
 (with_reducible refine (zlp (z) (sgI false D0) b4 B4 m4 d4 b5 B5 m5 d5 (K) (K) _ HZ4.out HN4.out HZ5.out HN5.out (by omega) (by omega) (by rw [sgI_f]; exact zmT Hne.out)).mono ?_)
 rintro e wc5 ⟨b6,B6,m6,d6,E6,u6,v6,rfl,hw6,hb⟩
 have hB := zac hB hb
 have g1 := zad hb g1
 have e1 := zad hb e1
 have i1 := zad hb i1
 have k2 := zae hb k2
 have HN3 := lh9 (HN3.out.below hb)
 have HN4 := lh9 (HN4.out.below hb)
 have HN5 := lh9 (HN5.out.below hb)
 have HN6 := lh9 hw6
 clear hb hw6
 obtain ⟨sc0,sf0,sc1,sf1,sc2,sf2⟩ := st3 k2 (.bool b6) (.slice B6 m6 d6)
 obtain ⟨r0,r1,r2⟩ := (sn3 k2 (.bool b6) (.slice B6 m6 d6) (.slice E6 u6 v6)).c3
 have HG := lh9 (gr3 (zeo.to HQ.out HN6.out) k2 hB (by omega))
 go_wp2
 refine bodyPost_ret (v := .agg #[.bool b6,.slice B6 m6 d6,.slice E6 u6 v6]) (by simp [results,Tryz.results12,go_sem,r0,r1,r2]) rfl ?_
 exact HG.out
theorem law8_ref (s : Bool) (A : oA9) (n c : Nat) (l : List Nat) (E : oA9) (u v : Nat) (e : List Nat) (w : World) (h : zav w A n c l) (k : zav w E u v e) :
  Calls Tryz.prog 12 #[.agg #[.bool s,.slice A n c,.slice E u v]] w (zfx w (fOf s l e)) := by
 by_cases hd : dv 18446744073709551616 e = 0
 ·exact zmm s A n c l E u v e w h k hd
 ·exact zml s A n c l E u v e w h k hd
end Go.Proofs.YtfieheffipfahaaGreatDoor
