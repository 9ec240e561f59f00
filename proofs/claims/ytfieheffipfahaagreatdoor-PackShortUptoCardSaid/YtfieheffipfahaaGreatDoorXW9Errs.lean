/- What this claim leans on. -/
import Derived.Test.YtfieheffipfahaaGreatDoorXBase
namespace Go.Proofs.YtfieheffipfahaaGreatDoor
open Go Go.RowKit
set_option maxHeartbeats 16000000
set_option maxRecDepth 100000
set_option linter.unusedVariables false
set_option linter.unusedSimpArgs false
theorem znV (l : List Nat) : (∃ r n,zed l = (.no,r,n)) ∨ ∃ er : Er,er ≠ .no ∧ zed l = (er,0,0) ∧ ((∀ m,er.has m = decide (90 = m)) ∨ ∀ m,er.has m = decide (91 = m)) := by
 rcases dec_er l with h | ⟨⟨m,hm,h⟩,h2⟩
 ·exact .inl ⟨_,_,Prod.ext h rfl⟩
 ·refine .inr ⟨(zed l).1,?_,Prod.ext rfl h2,?_⟩
  ·rcases h with h | ⟨s,k,_,h⟩ <;> rw [h] <;> exact fun e => by cases e
  ·rcases hm with rfl | rfl <;> rcases h with h | ⟨s,k,_,h⟩ <;> rw [h]
   ·exact .inl fun m => rfl
   ·exact .inl fun m => rfl
   ·exact .inr fun m => rfl
   ·exact .inr fun m => rfl
theorem zmW (s : List UInt8) : (∃ r,zcW s = (.no,r)) ∨ ∃ er : Er,er ≠ .no ∧ zcW s = (er,0) ∧ ∀ m,er.has m = decide (91 = m) := by
 rcases read_er s with h | ⟨h,h2⟩
 ·exact .inl ⟨_,Prod.ext h rfl⟩
 ·refine .inr ⟨(zcW s).1,?_,Prod.ext rfl h2,?_⟩
  ·rcases h with h | ⟨s,k,_,h⟩ <;> rw [h] <;> exact fun e => by cases e
  ·rcases h with h | ⟨s,k,_,h⟩ <;> rw [h] <;> exact fun m => rfl
theorem zero9 (b : Bool) (A : oA9) (n c : Nat) (E : oA9) (k f : Nat) (w : World) (hT : zaj w) (h : zay w 0 b A n c E k f) : Calls Tryz.prog 26 #[.agg #[.bool b,.slice A n c,.slice E k f]] w (fun e w' => e = .returned (.bool true) ∧ Below w.heap.size w w') :=
 zcV 0 b A n c E k f w hT h (szq (K := 1) (lh9 SzQ.zero) h)
theorem packErrors_core (A0 : oA9) (n0 c0 : Nat) (l0 : List Nat) (s1 : ByteArray) (w : World) (h0 : zfB w A0 n0 c0 l0) (y1 : s1.size ≤ 1048576) (hT : zhs w) :
  Calls Tryz.prog 8 #[.slice A0 n0 c0,.string s1] w fun e w' => e = .returned (.bool true) ∧ Below w.heap.size w w' := by
 have HT := lh9 (fun w' (hb : Below w.heap.size w w') => hT.on hb)
 have HAW := lh9 (fun w' (hb : Below w.heap.size w w') => zdn w' (hT.on hb))
 have hb0 : zat w l0 A0 n0 c0 := ⟨h0.reads,h0.dgs,h0.fits,by have := h0.small; omega⟩
 have hn0 : n0 ≤ 2147483648 := by have := h0.fits; have := h0.small; omega
 have HD := lh9 (fun w' (hb : Below w.heap.size w w') => zdD l0 A0 n0 c0 w' (hT.on hb).1 (hb0.below hb) hn0)
 have HR := lh9 (fun w' (hb : Below w.heap.size w w') => zgu s1.data.toList w' (hT.on hb).1 (by rw [zfe]; omega))
 have HC := lh9 (znV l0)
 have HQ := lh9 (zmW s1.data.toList)
 obtain ⟨t,ht⟩ : ∃ t,zed l0 = t := ⟨_,rfl⟩
 obtain ⟨u,hu⟩ : ∃ t,zcW s1.data.toList = t := ⟨_,rfl⟩
 have hs1 : zaw s1.data.toList = s1 := zhk s1
 rw [ht] at HD HC
 rw [hu,hs1] at HR
 rw [hu] at HQ
 obtain ⟨er,r,m⟩ := t
 obtain ⟨fr,q⟩ := u
 clear hT h0 hb0 hn0 y1 ht hu hs1
 go_enter Tryz.func8,Tryz.ntmps8
 have hB := Below.refl w.heap.size w
 go_wp2_with fail
 refine (HAW.out _ hB).mono ?_
 rintro e w1 ⟨rfl,hb⟩
 have hB := zaa hB hb
 clear hb HAW
 go_wp2_with fail
 refine (HD.out _ hB).mono ?_
 rintro e w2 ⟨bx,Bx,mx,dx,Fx,gx,fx,ev5,rfl,hx,he,hb⟩
 have hB := zaa hB hb
 clear hb HD
 dsimp only at hx he
 obtain ⟨bx1,bx2,bz⟩ := zav w2 33 #[.bool bx,.slice Bx mx dx,.slice Fx gx fx]
 have hx := hx.below bx1
 have he := he.below bx1
 have hB := zaa hB bx1
 have kx := bx2
 clear bx1 bx2 bz
 go_upto_region 4 with fail
 generalize w2.alloc (.cells #[.bool bx,.slice Bx mx dx,.slice Fx gx fx] 33) = X3 at *
 obtain ⟨qx,hq⟩ : ∃ q,w2.heap.size = q := ⟨_,rfl⟩
 rw [hq] at kx ⊢
 clear hq
 go_wp2_with fail
 refine (HR.out _ hB).mono ?_
 rintro e w4 ⟨bz,Bz,mz,dz,Fz,gz,fz,ev6,rfl,hy,hf,hb⟩
 have hx := hx.below hb
 have he := he.below hb
 have kx := zac hb kx
 have hB := zaa hB hb
 clear hb HR
 dsimp only at hy hf
 obtain ⟨bx1,bx2,bz⟩ := zav w4 33 #[.bool bz,.slice Bz mz dz,.slice Fz gz fz]
 have hx := hx.below bx1
 have he := he.below bx1
 have kx := zac bx1 kx
 have hy := hy.below bx1
 have hf := hf.below bx1
 have hB := zaa hB bx1
 have kz := bx2
 clear bx1 bx2 bz
 go_upto_region 5 with fail
 generalize w4.alloc (.cells #[.bool bz,.slice Bz mz dz,.slice Fz gz fz] 33) = X5 at *
 obtain ⟨qz,hq⟩ : ∃ q,w4.heap.size = q := ⟨_,rfl⟩
 rw [hq] at kz ⊢
 clear hq
 have n0 := zaH
 have n1 := zaG
 have n2 := zaF
 have n3 := zaC
 have hW := Below.refl X5.heap.size X5
 go_cut [23,24,25,26,27,28,29,30,31,32,33,34,35,36,37,38,39,40,41,42,43,44,45] (fun s23 s24 s25 s26 s27 s28 s29 s30 s31 s32 s33 s34 s35 s36 s37 s38 s39 s40 s41 s42 s43 s44 s45 wx => s45 = .bool false ∧ Below X5.heap.size X5 wx)
 case first =>
  clear HQ hy hf kz
  rcases HC.out with ⟨r',m',e9⟩ | ⟨er',hne,e9,hh⟩
  ·cases e9
   obtain rfl := he
   clear HC kx hx
   go_wp2
   go_meet
   exact ⟨rfl,hW⟩
  ·cases e9
   obtain ⟨et,ex,rfl⟩ := he.ne hne
   obtain ⟨g1,e1,i1⟩ := kx.c3
   clear HC
   go_wp2_with fail
   refine (zero9 bx Bx mx dx Fx gx fx _ (HT.out _ hB).1 hx).mono ?_
   rintro e w8 ⟨rfl,hb⟩
   have he := he.below hb
   have hW := zaa hW hb
   clear hb g1 e1 i1 kx hx
   rcases hh with hh | hh
   ·have HI := lh9 (zbv er _ 90 _ he)
    rw [hh] at HI
    clear he hh hne
    go_wp2_with fail
    refine HI.out.mono ?_
    rintro e w9 ⟨rfl,rfl⟩
    clear HI
    go_wp2
    go_meet
    exact ⟨rfl,hW⟩
   ·have HI := lh9 (zbv er _ 90 _ he)
    have HJ := lh9 (zbv er _ 91 _ he)
    rw [hh] at HI HJ
    clear he hh hne
    go_wp2_with fail
    refine HI.out.mono ?_
    rintro e w9 ⟨rfl,rfl⟩
    clear HI
    go_wp2_with fail
    refine HJ.out.mono ?_
    rintro e w10 ⟨rfl,rfl⟩
    clear HJ
    go_wp2
    go_meet
    exact ⟨rfl,hW⟩
 case rest =>
 obtain ⟨rfl,hb⟩ := hcut
 obtain ⟨V,hV⟩ : ∃ x,x = wc := ⟨_,rfl⟩
 subst hV
 clear hW HC
 clear kx hx he
 have hy := hy.below hb
 have hf := hf.below hb
 have kz := zac hb kz
 have hB := zaa hB hb
 clear hb
 rcases HQ.out with ⟨r',e9⟩ | ⟨er',hne,e9,hh⟩
 ·cases e9
  obtain rfl := hf
  clear HQ kz hy
  go_wp2
  go_ret
  exact ⟨rfl,hB⟩
 ·cases e9
  obtain ⟨et,ex,rfl⟩ := hf.ne hne
  obtain ⟨g1,e1,i1⟩ := kz.c3
  clear HQ
  go_wp2_with fail
  refine (zero9 bz Bz mz dz Fz gz fz _ (HT.out _ hB).1 hy).mono ?_
  rintro e w8 ⟨rfl,hb⟩
  have hf := hf.below hb
  have hB := zaa hB hb
  have HI := lh9 (zbv fr _ 91 _ hf)
  rw [hh] at HI
  clear hb g1 e1 i1 kz hy hf hh hne
  go_wp2_with fail
  refine HI.out.mono ?_
  rintro e w9 ⟨rfl,rfl⟩
  clear HI
  go_wp2
  go_ret
  exact ⟨rfl,hB⟩
theorem packShort_core (s0 : Bool) (A0 : oA9) (n0 c0 : Nat) (l0 : List Nat) (E0 : oA9) (u0 v0 : Nat) (e0 : List Nat) (a1 : Int) (w : World) (h0 : zaK w A0 n0 c0 l0) (k0 : zaK w E0 u0 v0 e0) (b1 : 0 ≤ a1 ∧ a1 ≤ 65535) (hT : zhs w) :
  Calls Tryz.prog 6 #[.agg #[.bool s0,.slice A0 n0 c0,.slice E0 u0 v0],.int .u16 a1] w fun e w' => e = .returned (.bool true) ∧ Below w.heap.size w w' := by
 have HT := lh9 (fun w' (hb : Below w.heap.size w w') => hT.on hb)
 have HAW := lh9 (fun w' (hb : Below w.heap.size w w') => zdn w' (hT.on hb))
 have HM := lh9 (fun w' (hb : Below w.heap.size w w') => zlo s0 A0 n0 c0 l0 E0 u0 v0 e0 w w' h0 k0 hb (hT.on hb))
 have S0 : SzQ 1048576 (fOf s0 l0 e0) := zhQ h0 k0
 obtain ⟨x,hx⟩ : ∃ x,fOf s0 l0 e0 = x := ⟨_,rfl⟩
 rw [hx] at HM S0
 obtain ⟨K,hK⟩ : ∃ K,1048576 = K := ⟨_,rfl⟩
 have hKK : K ≤ 1048576 := by omega
 rw [hK] at S0
 have HZ := lh9 S0
 have HE := lh9 (fun w' b A n c E u v h hz h2 => zcU x b A n c E u v w' h hz h2)
 unfold zcB at HE
 have HE0 := lh9 (zeY x)
 have HCU := lh9 (form_cut x)
 have HFL : Hid (0 < (zaB x).length) := by show 0 < _; unfold zaB; simp
 obtain ⟨EE,hEE⟩ : ∃ b,zha x = b := ⟨_,rfl⟩
 obtain ⟨EL,hEL⟩ : ∃ b,zhO x = b := ⟨_,rfl⟩
 obtain ⟨F,hF⟩ : ∃ b,zaB x = b := ⟨_,rfl⟩
 simp only [hEE,hEL,hF] at HE HE0 HCU HFL
 clear hT h0 k0 S0 hx hK hEE hEL hF
 go_enter Tryz.func6,Tryz.ntmps6
 have hB := Below.refl w.heap.size w
 obtain ⟨bx1,bx2,bz⟩ := zav w 26 #[.bool s0,.slice A0 n0 c0,.slice E0 u0 v0]
 have hB := bx1
 have kp := bx2
 clear bx1 bx2 bz
 go_wp2_with fail
 refine (HAW.out _ hB).mono ?_
 rintro e w1 ⟨rfl,hb⟩
 have kp := zac hb kp
 have hB := zaa hB hb
 clear hb HAW
 obtain ⟨g1,e1,i1⟩ := kp.c3
 go_wp2_with fail
 refine (HM.out _ hB).mono ?_
 rintro e w2 ⟨bx,Bx,mx,dx,Fx,gx,fx,rfl,hx,hb⟩
 have kp := zac hb kp
 have hB := zaa hB hb
 clear hb HM g1 e1 i1 kp
 go_wp2_with fail
 refine (HE.out _ bx Bx mx dx Fx gx fx (HT.out _ hB).1 hx (szq HZ hx)).mono ?_
 rintro e w3 ⟨v9,ev9,rfl,hr,he,hb⟩
 have hB := zaa hB hb
 clear hb HE hx
 rcases HE0.out with ⟨rfl,rfl,hl5,hfd⟩ | ⟨rfl,hne,h3⟩
 case inr =>
  obtain ⟨et,ex,rfl⟩ := he.ne hne
  obtain ⟨A9,c9,rfl,-,-,-⟩ := hr.reads
  have HI := lh9 (zbv EE _ 3 _ he)
  rw [h3] at HI
  have n1 := zaG
  clear he hr h3 hne HE0 HCU HFL
  go_wp2_with fail
  refine HI.out.mono ?_
  rintro e w8 ⟨rfl,rfl⟩
  clear HI
  go_wp2
  go_ret
  exact ⟨by first | rfl | simp,hB⟩
 case inl =>
 obtain rfl := he
 obtain ⟨A9,c9,rfl,hc9,hcm,hrd⟩ := hr.reads
 have HBY : Hid (zat w3 EL A9 EL.length c9) := ⟨hrd,hfd,hc9,by unfold maxLen at hcm; omega⟩
 have HCK := lh9 (fun (k : Nat) (hk : k < EL.length) => HCU.out k hk)
 have n1 := zaH
 obtain ⟨a,rfl⟩ : ∃ a : Nat,a1 = (a : Int) := ⟨a1.toNat,by omega⟩
 obtain ⟨L,hL⟩ : ∃ L,EL.length = L := ⟨_,rfl⟩
 rw [hL] at HBY HCK hl5 hc9 ⊢
 have hL0 : 0 < L := by have := HFL.out; omega
 have hkl : a % L < L := Nat.mod_lt _ hL0
 have i1 : IntKind.i64.wrap (a : Int) = (a : Int) := IntWalk.i64_in _ (by omega)
 have i2 : (a : Int).tmod (L : Int) = ((a % L : Nat) : Int) := by rw [Int.tmod_eq_emod_of_nonneg (by omega)]; omega
 have i4 : (a : Int) % (L : Int) = ((a % L : Nat) : Int) := by omega
 have i5 : ((L : Int) == 0) = false := by rw [beq_eq_false_iff_ne]; omega
 have HK := lh9 hkl
 obtain ⟨k,hk⟩ : ∃ k,a % L = k := ⟨_,rfl⟩
 rw [hk] at i2 i4 HK
 have i3 : IntKind.i64.wrap (k : Int) = (k : Int) := IntWalk.i64_in _ (by have := HK.out; omega)
 have hkL := HK.out
 obtain ⟨B9,hs9,hp9⟩ := zfM (n := L) (c := c9) (m := k) A9 (by omega) hc9
 obtain ⟨er,hde,hcs⟩ := HCK.out k hkL
 have HD := lh9 (zdD (EL.take k) B9 k c9 w3 (HT.out _ hB).1 (hp9 _ _ HBY.out) (by omega))
 rw [hde] at HD
 have HCS := lh9 hcs
 clear hr hrd hcm hfd HE0 HCU HFL HBY HCK hkl hk hL hde hcs hp9 b1 hc9 hl5
 go_wp2_with fail
 skip
 refine (HD.out).mono ?_
 rintro e w4 ⟨bz,Bz,mz,dz,Fz,gz,fz,ev5,rfl,hz,hf,hb⟩
 have hB := zaa hB hb
 clear hb HD
 dsimp only at hz hf
 obtain ⟨bx1,bx2,bz⟩ := zav w4 33 #[.bool bz,.slice Bz mz dz,.slice Fz gz fz]
 have hz := hz.below bx1
 have hf := hf.below bx1
 have hB := zaa hB bx1
 have kz := bx2
 clear bx1 bx2 bz
 go_upto_region 8 with fail
 generalize w4.alloc (.cells #[.bool bz,.slice Bz mz dz,.slice Fz gz fz] 33) = X5 at *
 obtain ⟨qz,hq⟩ : ∃ q,w4.heap.size = q := ⟨_,rfl⟩
 rw [hq] at kz ⊢
 clear hq
 have i6 : (0 : Int) ≤ (k : Int) := by omega
 rcases HCS.out with ⟨hk0,rfl⟩ | ⟨hk0,s,j,-,rfl,hj⟩
 ·have HP := lh9 (zgo (.bare 90) _ _ hf (HT.out _ hB).2)
  dsimp only [Er.s,Er.k,Er.is] at HP
  obtain ⟨et,ex,rfl⟩ := hf.ne (fun e => by cases e)
  obtain rfl : k = 0 := hk0
  clear HCS
  go_wp2_with fail
  refine (HP.out).mono ?_
  rintro e w6 ⟨rfl,hb⟩
  have hz := hz.below hb
  have hf := hf.below hb
  have kz := zac hb kz
  have hB := zaa hB hb
  clear hb HP
  have HI := lh9 (zbv (.bare 90) _ 90 _ hf)
  dsimp only [Er.has] at HI
  rw [decide_eq_true rfl] at HI
  obtain ⟨g1,e1,i9⟩ := kz.c3
  clear hf
  go_wp2_with fail
  refine HI.out.mono ?_
  rintro e w8 ⟨rfl,rfl⟩
  clear HI
  go_wp2_with fail
  refine (zero9 bz Bz mz dz Fz gz fz _ (HT.out _ hB).1 hz).mono ?_
  rintro e w7 ⟨rfl,hb⟩
  have hz := hz.below hb
  have kz := zac hb kz
  have hB := zaa hB hb
  clear hb g1 e1 i9 kz hz
  go_wp2
  go_ret
  exact ⟨by first | rfl | simp,hB⟩
 ·have HP := lh9 (zgo (.spot 90 s (j : Int)) _ _ hf (HT.out _ hB).2)
  dsimp only [Er.s,Er.k,Er.is] at HP
  obtain ⟨et,ex,rfl⟩ := hf.ne (fun e => by cases e)
  have j0 : (0 : Int) < (k : Int) := by omega
  have j1 : (j : Int) ≤ (k : Int) := by omega
  have j2 : (0 : Int) ≤ (j : Int) := by omega
  clear HCS
  go_wp2_with fail
  refine (HP.out).mono ?_
  rintro e w6 ⟨rfl,hb⟩
  have hz := hz.below hb
  have hf := hf.below hb
  have kz := zac hb kz
  have hB := zaa hB hb
  clear hb HP
  have HI := lh9 (zbv (.spot 90 s (j : Int)) _ 90 _ hf)
  dsimp only [Er.has] at HI
  rw [decide_eq_true rfl] at HI
  obtain ⟨g1,e1,i9⟩ := kz.c3
  clear hf
  go_wp2_with fail
  refine HI.out.mono ?_
  rintro e w8 ⟨rfl,rfl⟩
  clear HI
  go_wp2_with fail
  refine (zero9 bz Bz mz dz Fz gz fz _ (HT.out _ hB).1 hz).mono ?_
  rintro e w7 ⟨rfl,hb⟩
  have hz := hz.below hb
  have kz := zac hb kz
  have hB := zaa hB hb
  clear hb g1 e1 i9 kz hz
  go_wp2
  go_ret
  exact ⟨by first | rfl | simp,hB⟩
end Go.Proofs.YtfieheffipfahaaGreatDoor
