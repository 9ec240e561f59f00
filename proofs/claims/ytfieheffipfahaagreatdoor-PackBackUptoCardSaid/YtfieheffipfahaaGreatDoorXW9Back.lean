/- What this claim leans on. -/
import Derived.Test.YtfieheffipfahaaGreatDoorXBase
namespace Go.Proofs.YtfieheffipfahaaGreatDoor
open Go Go.RowKit
set_option maxHeartbeats 16000000
set_option maxRecDepth 100000
set_option linter.unusedVariables false
set_option linter.unusedSimpArgs false
theorem fit_sz {r : Rat} (h : Fit9 r) : SzQ 255 r := by
 have hb : ∀ x,zbk x ≤ 255 → Sz 255 x := fun x hx => by
  have h1 := zbd (b := 256) (by decide) x
  exact Nat.lt_of_lt_of_le h1 (Nat.le_trans (Nat.pow_le_pow_right (by decide) hx) (Nat.pow_le_pow_left (by decide) _))
 exact ⟨hb _ h.2,hb _ h.1⟩
theorem text_sz {q : Rat} {K : Nat} (hK : 0 < K) (h : (zbX q).length ≤ 16 * K) : SzQ K q := by
 unfold zbX at h
 rw [List.length_append] at h
 have hn : (zbq q.num.natAbs).length ≤ (zbp q.num).length := by unfold zbp; split <;> simp
 have h1 := zfg (n := K) (zff q.num.natAbs) (by omega)
 rw [zeP] at h1
 refine ⟨h1,?_⟩
 by_cases hd : q.den = 1
 ·rw [hd]; exact znG hK
 ·rw [if_neg hd,List.length_cons] at h
  have h2 := zfg (n := K) (zff q.den) (by omega)
  rwa [zeP] at h2
theorem zoD {q : Rat} {K : Nat} (h : SzQ K q) : (zbX q).length ≤ 128 * K + 4 := by
 have h1 := zgY h.num
 have h2 := zei h.den
 unfold zbX
 rw [List.length_append]
 split
 ·simp; omega
 ·simp; omega
theorem packBack_core (s0 : Bool) (A0 : oA9) (n0 c0 : Nat) (l0 : List Nat) (E0 : oA9) (u0 v0 : Nat) (e0 : List Nat) (A1 : oA9) (n1 c1 : Nat) (l1 : List Nat) (A2 : oA9) (n2 c2 : Nat) (l2 : List Nat) (s3 : ByteArray) (w : World) (h0 : zaK w A0 n0 c0 l0) (k0 : zaK w E0 u0 v0 e0) (h1 : zfB w A1 n1 c1 l1) (h2 : zfB w A2 n2 c2 l2) (y3 : s3.size ≤ 1048576) (hT : zhs w) :
  Calls Tryz.prog 5 #[.agg #[.bool s0,.slice A0 n0 c0,.slice E0 u0 v0],.slice A1 n1 c1,.slice A2 n2 c2,.string s3] w fun e w' => e = .returned (.bool true) ∧ Below w.heap.size w w' := by
 have HT := lh9 (fun w' (hb : Below w.heap.size w w') => hT.on hb)
 have HAW := lh9 (fun w' (hb : Below w.heap.size w w') => zdn w' (hT.on hb))
 have HM := lh9 (fun w' (hb : Below w.heap.size w w') => zlo s0 A0 n0 c0 l0 E0 u0 v0 e0 w w' h0 k0 hb (hT.on hb))
 have S0 : SzQ 1048576 (fOf s0 l0 e0) := zhQ h0 k0
 obtain ⟨x,hx⟩ : ∃ x,fOf s0 l0 e0 = x := ⟨_,rfl⟩
 rw [hx] at HM S0
 have HTL : Hid ((zbX x).length ≤ 1073741824) := by show _ ≤ _; have := zoD S0; omega
 obtain ⟨K,hK⟩ : ∃ K,1048576 = K := ⟨_,rfl⟩
 have hKK : K ≤ 1048576 := by omega
 rw [hK] at S0
 have HZ := lh9 S0
 have HE := lh9 (fun x w' b A n c E u v h hz h2 => zcU x b A n c E u v w' h hz h2)
 unfold zcB at HE
 have HEX := lh9 (zeY x)
 have HDF := lh9 (zhH x l1)
 have hb1 : zat w l1 A1 n1 c1 := ⟨h1.reads,h1.dgs,h1.fits,by have := h1.small; omega⟩
 have hb2 : zat w l2 A2 n2 c2 := ⟨h2.reads,h2.dgs,h2.fits,by have := h2.small; omega⟩
 have hn1 : n1 ≤ 1048576 := by have := h1.fits; have := h1.small; omega
 have hn2 : n2 ≤ 1048576 := by have := h2.fits; have := h2.small; omega
 have hc2 := h2.fits
 have HB1 := lh9 (fun w' (hb : Below w.heap.size w w') => hb1.below hb)
 have HB2 := lh9 (fun w' (hb : Below w.heap.size w w') => hb2.below hb)
 have HD2 := lh9 (fun w' (hb : Below w.heap.size w w') => zdD l2 A2 n2 c2 w' (hT.on hb).1 (hb2.below hb) (by omega))
 have HBK := lh9 (fun r n (h : zed l2 = (.no,r,n)) => dec_back h2.dgs h)
 obtain ⟨dt,hdt⟩ : ∃ q,zed l2 = q := ⟨_,rfl⟩
 rw [hdt] at HD2
 simp only [hdt] at HBK
 obtain ⟨er2,r2,m2⟩ := dt
 have HR3 := lh9 (fun w' (hb : Below w.heap.size w w') => zgu s3.data.toList w' (hT.on hb).1 (by rw [zfe]; omega))
 have HL3 : Hid (s3.data.toList.length ≤ 16 * 65536) := by show _ ≤ _; rw [zfe]; omega
 have HBB := lh9 (fun r (h : zcW s3.data.toList = (.no,r)) => zoF h)
 obtain ⟨rt,hrt⟩ : ∃ q,zcW s3.data.toList = q := ⟨_,rfl⟩
 rw [hrt] at HR3
 simp only [hrt] at HBB
 obtain ⟨fr3,q3⟩ := rt
 have hs3 : zaw s3.data.toList = s3 := zhk s3
 rw [hs3] at HR3
 have HS3 := lh9 hs3
 have HDG2 := lh9 h2.dgs
 have HLN2 := lh9 hb2.len
 clear hT h0 k0 h1 h2 S0 hx hK hb1 hb2 y3 hs3 hdt hrt
 go_enter Tryz.func5,Tryz.ntmps5
 have hB := Below.refl w.heap.size w
 obtain ⟨bx1,bx2,bz⟩ := zav w 26 #[.bool s0,.slice A0 n0 c0,.slice E0 u0 v0]
 have hB := bx1
 have kp := bx2
 clear bx1 bx2 bz
 go_wp2_with fail
 refine (HAW.out _ hB).mono ?_
 rintro e w1 ⟨rfl,hb⟩
 have kp := zac hb kp
 have hB := zaa hB hb
 clear hb HAW
 obtain ⟨g1,e1,i1⟩ := kp.c3
 go_wp2_with fail
 refine (HM.out _ hB).mono ?_
 rintro e w2 ⟨bx,Bx,mx,dx,Fx,gx,fx,rfl,hx,hb⟩
 have kp := zac hb kp
 have hB := zaa hB hb
 clear hb HM g1 e1 i1
 clear kp
 obtain ⟨bx1,bx2,bz⟩ := zav w2 33 #[.bool bx,.slice Bx mx dx,.slice Fx gx fx]
 have hx := hx.below bx1
 have hB := zaa hB bx1
 have kx := bx2
 clear bx1 bx2 bz
 go_upto_region 4 with fail
 generalize w2.alloc (.cells #[.bool bx,.slice Bx mx dx,.slice Fx gx fx] 33) = X3 at *
 obtain ⟨qx,hq⟩ : ∃ q,w2.heap.size = q := ⟨_,rfl⟩
 rw [hq] at kx ⊢
 clear hq
 obtain ⟨g1,e1,i1⟩ := kx.c3
 have hW := Below.refl X3.heap.size X3
 have HX0 := lh9 hx
 have HK0 := lh9 kx
 have HBX : Hid (w.heap.size ≤ X3.heap.size) := hB.size
 have HB9 := lh9 hB
 go_wp2_with fail
 refine (HE.out x _ bx Bx mx dx Fx gx fx (HT.out _ hB).1 hx (szq HZ hx)).mono ?_
 rintro e w4 ⟨v5,ev5,rfl,hr,he,hb⟩
 have hx := hx.below hb
 have kx := zac hb kx
 have hB := zaa hB hb
 have hW := zaa hW hb
 clear hb g1 e1 i1
 obtain ⟨nb,hnb,hnc,hni⟩ := zla he
 have ny2 := zaH
 have ny3 := zaG
 have HNI := lh9 hni
 clear hni
 go_upto_if 34 with fail
 go_cut [12,13,14,35,36,37,38,39,40,41,42,43,44,45,46,47,48,49,50,51,52,53,54,55,56] (fun _ _ _ _ _ _ _ _ _ _ _ _ _ _ _ _ _ _ _ _ _ _ _ _ _ wx => Below X3.heap.size X3 wx)
 case first =>
  rcases HEX.out with ⟨ex1,ex2,ex3,ex4⟩ | ⟨-,hne,-⟩
  case inr =>
   obtain rfl : nb = false := Bool.eq_false_iff.2 fun h => hne (HNI.out.1 h)
   clear he hr HEX HE hnb hnc
   go_wp2
   go_meet
   exact hW
  case inl =>
   obtain rfl : nb = true := HNI.out.2 ex1
   rw [ex1] at he
   obtain rfl := he
   rw [ex2] at hr
   have hfx : 0 < (zaB x).length := by unfold zaB; simp
   obtain ⟨F,hF⟩ : ∃ F,zaB x = F := ⟨_,rfl⟩
   have HDD := HDF.out
   rw [hF] at hr ex3 ex4 HDD hfx
   have HR := lh9 hr
   have HDH := lh9 HDD
   have hb1 := HB1.out _ hB
   have hdg : Hid (Dgs 256 (F ++ l1)) := ex4.append hb1.2.1
   have HRD := lh9 hb1.1
   have hl1 := hb1.len
   have hszW := hW.size
   obtain ⟨A6,c6,ev6,-,-,-⟩ := hr.reads
   subst ev6
   clear HEX ex1 ex2 ex4 hr hF HDD hb1 HE HBK HBB HD2 HR3
   go_wp2_with (at_builtin; refine app8L (.tmp 36) (.tmp 37) X3.heap.size _ F A1 n1 c1 l1 HR.out HRD.out (by omega) (by omega) ?_; intro v' w7 hown' hG; have hW7 := hG.belowOf HR.out hW (Nat.le_refl _); have hB7 := hG.belowOf HR.out hB HBX.out; have HR7 := lh9 hown'; clear hG HR HRD hown' hW hB)
   obtain ⟨A7,c7,ev7,hc7,hcm7,hrd7⟩ := HR7.out.reads
   subst ev7
   have hbd : zat w7 (F ++ l1) A7 (F ++ l1).length c7 := ⟨hrd7,hdg.out,hc7,by unfold maxLen at hcm7; omega⟩
   have HD := lh9 (zdD (F ++ l1) A7 (F ++ l1).length c7 w7 (HT.out _ hB7).1 hbd (by rw [List.length_append]; omega))
   rw [HDH.out] at HD
   have hx := HX0.out.below hW7
   have kx := zac hW7 HK0.out
   clear hdg hrd7 hbd hc7 hcm7 HR7 HDH HX0 HK0
   go_wp2_with fail
   refine HD.out.mono ?_
   rintro e w8 ⟨bz,Bz,mz,dz,Fz,gz,fz,ev8,rfl,hz,hf,hb⟩
   dsimp only at hz hf
   obtain rfl := hf
   have hW := zaa hW7 hb
   have hB := zaa hB7 hb
   have hx := hx.below hb
   have kx := zac hb kx
   obtain ⟨bx1,bx2,bz⟩ := zav w8 33 #[.bool bz,.slice Bz mz dz,.slice Fz gz fz]
   have hW := zaa hW bx1
   have hB := zaa hB bx1
   have hx := hx.below bx1
   have hz := hz.below bx1
   have kx := zac bx1 kx
   have kz := bx2
   clear HD hb bx1 bx2 bz hW7 hB7
   go_upto_region 7 with fail
   generalize w8.alloc (.cells #[.bool bz,.slice Bz mz dz,.slice Fz gz fz] 33) = Y8 at *
   obtain ⟨qz,hq⟩ : ∃ q,w8.heap.size = q := ⟨_,rfl⟩
   rw [hq] at kz ⊢
   clear hq
   obtain ⟨g1,e1,i1⟩ := kx.c3
   obtain ⟨g2,e2,i2⟩ := kz.c3
   have SM := zeK x x bx Bx mx dx Fx gx fx bz Bz mz dz Fz gz fz _ (HT.out _ hB).1 hx hz (szq HZ hx) (szq HZ hz)
   rw [decide_eq_true rfl] at SM
   have HSM := lh9 SM
   have bne : ((F.length : Int) != (F.length : Int)) = false := by simp
   clear SM hx hz kx kz
   go_wp2_with fail
   refine HSM.out.mono ?_
   rintro e w9 ⟨rfl,hb⟩
   have hW := zaa hW hb
   clear HSM hb
   go_wp2
   go_meet
   exact hW
 case rest =>
 obtain ⟨V,hV⟩ : ∃ x,x = wc := ⟨_,rfl⟩
 subst hV
 have hb := hcut
 clear hW hr he hx kx hB HEX HDF HB1
 have hx := HX0.out.below hb
 have kx := zac hb HK0.out
 have hB := zaa HB9.out hb
 clear hb hcut HX0 HK0
 obtain ⟨g1,e1,i1⟩ := kx.c3
 have HTX := lh9 (zdS x bx Bx mx dx Fx gx fx V (HT.out _ hB).1 hx (szq HZ hx))
 have HRX := lh9 (fun w' (hb : Below w.heap.size w w') => zgu (zbX x) w' (HT.out _ hb).1 HTL.out)
 rw [zgx] at HRX
 obtain ⟨TX,hTX⟩ : ∃ q,zaw (zbX x) = q := ⟨_,rfl⟩
 rw [hTX] at HTX HRX
 clear hTX HTL
 go_wp2_with fail
 refine (HTX.out).mono ?_
 rintro e w5 ⟨rfl,hb⟩
 have hx := hx.below hb
 have kx := zac hb kx
 have hB := zaa hB hb
 clear hb HTX g1 e1 i1
 go_wp2_with fail
 refine (HRX.out _ hB).mono ?_
 rintro e w6 ⟨bz,Bz,mz,dz,Fz,gz,fz,ev6,rfl,hz,hf,hb⟩
 have hx := hx.below hb
 have kx := zac hb kx
 have hB := zaa hB hb
 clear hb HRX
 dsimp only at hz hf
 obtain rfl := hf
 obtain ⟨bx1,bx2,bz⟩ := zav w6 33 #[.bool bz,.slice Bz mz dz,.slice Fz gz fz]
 have hx := hx.below bx1
 have kx := zac bx1 kx
 have hz := hz.below bx1
 have hB := zaa hB bx1
 have kz := bx2
 clear bx1 bx2 bz
 go_upto_region 10 with fail
 generalize w6.alloc (.cells #[.bool bz,.slice Bz mz dz,.slice Fz gz fz] 33) = X7 at *
 obtain ⟨qz,hq⟩ : ∃ q,w6.heap.size = q := ⟨_,rfl⟩
 rw [hq] at kz ⊢
 clear hq
 obtain ⟨g1,e1,i1⟩ := kx.c3
 obtain ⟨g2,e2,i2⟩ := kz.c3
 have SM := zeK x x bx Bx mx dx Fx gx fx bz Bz mz dz Fz gz fz _ (HT.out _ hB).1 hx hz (szq HZ hx) (szq HZ hz)
 rw [decide_eq_true rfl] at SM
 have HSM := lh9 SM
 clear SM hx hz kx kz
 go_wp2_with fail
 refine (HSM.out).mono ?_
 rintro e w8 ⟨rfl,hb⟩
 have hB := zaa hB hb
 clear hb HSM g1 e1 i1 g2 e2 i2
 go_wp2_with fail
 refine (HD2.out _ hB).mono ?_
 rintro e w9 ⟨bx,Bx,mx,dx,Fx,gx,fx,ev7,rfl,hx,he,hb⟩
 have hB := zaa hB hb
 clear hb HD2
 dsimp only at hx he
 obtain ⟨bx1,bx2,bz⟩ := zav w9 33 #[.bool bx,.slice Bx mx dx,.slice Fx gx fx]
 have hx := hx.below bx1
 have he := he.below bx1
 have hB := zaa hB bx1
 have kx := bx2
 clear bx1 bx2 bz
 go_upto_region 13 with fail
 generalize w9.alloc (.cells #[.bool bx,.slice Bx mx dx,.slice Fx gx fx] 33) = X10 at *
 obtain ⟨qx,hq⟩ : ∃ q,w9.heap.size = q := ⟨_,rfl⟩
 rw [hq] at kx ⊢
 clear hq
 obtain ⟨nc,hmb,hmc,hmi⟩ := zla he
 have HMI := lh9 hmi
 have hW := Below.refl X10.heap.size X10
 clear hmi
 go_upto_if 78 with fail
 go_cut [20,21,79,80,81,82,83,84,85,86,87,88,89,90,91,92,93,94,95,96,97,98,99,100,101,102,103,104] (fun _ _ _ _ _ _ _ _ _ _ _ _ _ _ _ _ _ _ _ _ _ _ _ _ _ _ _ _ wx => Below X10.heap.size X10 wx)
 case first =>
  by_cases hno : er2 = .no
  case neg =>
   obtain rfl : nc = false := Bool.eq_false_iff.2 fun h => hno (HMI.out.1 h)
   clear he HE hmb hmc hx kx HBK
   go_wp2
   go_meet
   exact hW
  case pos =>
   subst hno
   obtain rfl : nc = true := HMI.out.2 rfl
   obtain rfl := he
   obtain ⟨hfit,h1m,hml,hform⟩ := HBK.out r2 m2 rfl
   have hLN := HLN2.out
   have HEN := lh9 (HE.out r2 X10 bx Bx mx dx Fx gx fx (HT.out _ hB).1 hx (szq (K := 255) (lh9 (fit_sz hfit)) hx))
   rw [(zdB hfit.1 hfit.2).1,(zdB hfit.1 hfit.2).2,hform] at HEN
   have hb2 := HB2.out _ hB
   have HT2 := lh9 (fun A n c w' (h : zat w' (l2.take m2) A n c) => zcF (P := Tryz.prog) (c := c) 42 9 5 Tryz.underlying42 Tryz.underlying5 Tryz.underlying9 h.1)
   obtain ⟨TT,hTT⟩ : ∃ q,zgz (l2.take m2) = q := ⟨_,rfl⟩
   rw [hTT] at HT2
   obtain ⟨B2,hs2,hp2⟩ := zfM (n := n2) (c := c2) (m := m2) A2 (by omega) hc2
   have hq2 := hp2 _ _ hb2
   have j1 : ¬ ((m2 : Int) < 1) := by omega
   have j2 : ¬ ((n2 : Int) < (m2 : Int)) := by omega
   have j3 : decide ((m2 : Int) < 1) = false := by simp; omega
   have j4 : decide ((n2 : Int) < (m2 : Int)) = false := by simp; omega
   have j5 : decide (n2 < m2) = false := by simp; omega
   have j6 : ¬ (n2 < m2) := by omega
   have hdt := HDG2.out.take m2
   obtain ⟨g1,e1,i1⟩ := kx.c3
   clear HE hfit hform hTT hp2 hb2 HBK hx kx
   go_wp2_with fail
   refine HEN.out.mono ?_
   rintro e w9 ⟨v9,ev9,rfl,hr9,he9,hb⟩
   obtain rfl := he9
   obtain ⟨A9,c9,rfl,hc9,hcm9,hrd9⟩ := hr9.reads
   have hp9 : zat w9 (l2.take m2) A9 (l2.take m2).length c9 := ⟨hrd9,hdt,hc9,by unfold maxLen at hcm9; omega⟩
   have hq2 := hq2.below hb
   have hW := zaa hW hb
   obtain ⟨M9,hM9⟩ : ∃ q,(l2.take m2).length = q := ⟨_,rfl⟩
   rw [hM9] at hp9 ⊢
   have HC9 := lh9 (fun w' (hb : Below w9.heap.size w9 w') => HT2.out A9 M9 c9 w' (hp9.below hb))
   have HC2 := lh9 (fun w' (hb : Below w9.heap.size w9 w') => HT2.out B2 m2 c2 w' (hq2.below hb))
   clear hb hr9 hrd9 hc9 hcm9 hp9 hq2 hdt HT2 HEN g1 e1 i1 hM9
   go_upto_region 15 with fail
   have hBw := (Below.refl w9.heap.size w9).drew
   refine rg9 csn (fun hHeld => ?_)
   have hW := zaa hW hBw
   refine tk 0 ?_
   refine tk 1 ?_
   refine tk 2 ?_
   refine tk 3 ?_
   refine tk 4 ?_
   refine tk 5 ?_
   refine tk 6 ?_
   refine tk 7 ?_
   refine tk 8 ?_
   refine tk 9 ?_
   refine tk 10 ?_
   refine tk 11 ?_
   refine tk 12 ?_
   refine tk 13 ?_
   refine tk 14 ?_ (h6 := by intro w' hS; have h9 := HC9.out _ hS.2; go_simp; try with_reducible rfl)
   refine tk 15 ?_
   refine tk 16 ?_
   refine tk 17 ?_
   refine tk 18 ?_ (h6 := by intro w' hS; have h9 := HC2.out _ hS.2; go_simp; try with_reducible rfl)
   refine tk 19 ?_
   refine tk 20 ?_
   refine rdn ?_
   clear hHeld HC9 HC2
   go_wp2
   go_meet
   exact hW
 case rest =>
 obtain ⟨V2,hV2⟩ : ∃ x,x = wc := ⟨_,rfl⟩
 subst hV2
 have hb := hcut
 clear hW HBK HE HB2 HDG2 HLN2 hmb hmc HMI hx he kx
 have hB := zaa hB hb
 clear hb hcut
 go_wp2_with fail
 refine (HR3.out _ hB).mono ?_
 rintro e w11 ⟨bz,Bz,mz,dz,Fz,gz,fz,ev8,rfl,hz,hf,hb⟩
 have hB := zaa hB hb
 clear hb HR3
 dsimp only at hz hf
 obtain ⟨bx1,bx2,bz⟩ := zav w11 33 #[.bool bz,.slice Bz mz dz,.slice Fz gz fz]
 have hz := hz.below bx1
 have hf := hf.below bx1
 have hB := zaa hB bx1
 have kz := bx2
 clear bx1 bx2 bz
 go_upto_region 18 with fail
 generalize w11.alloc (.cells #[.bool bz,.slice Bz mz dz,.slice Fz gz fz] 33) = X12 at *
 obtain ⟨qz,hq⟩ : ∃ q,w11.heap.size = q := ⟨_,rfl⟩
 rw [hq] at kz ⊢
 clear hq
 by_cases hno : fr3 = .no
 ·subst hno
  obtain rfl := hf
  have hte := HBB.out q3 rfl
  have hzz : SzQ 65536 q3 := text_sz (by decide) (by rw [hte]; exact HL3.out)
  have PT := zdS q3 bz Bz mz dz Fz gz fz _ (HT.out _ hB).1 hz (szq (lh9 hzz) hz)
  rw [hte,HS3.out] at PT
  have HPT := lh9 PT
  obtain ⟨g1,e1,i1⟩ := kz.c3
  clear PT hzz hte hz kz HBB
  go_wp2_with fail
  refine HPT.out.mono ?_
  rintro e w9 ⟨rfl,hb⟩
  have hB := zaa hB hb
  clear HPT hb g1 e1 i1
  go_wp2
  go_ret
  exact ⟨by first | rfl | simp,hB⟩
 ·obtain ⟨et,ex,rfl⟩ := hf.ne hno
  clear hf hz kz HBB
  go_wp2
  go_ret
  exact ⟨rfl,hB⟩
end Go.Proofs.YtfieheffipfahaaGreatDoor
