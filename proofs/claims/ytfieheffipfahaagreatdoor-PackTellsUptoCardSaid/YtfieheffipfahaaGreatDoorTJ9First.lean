/- What this claim leans on. -/
import Derived.Test.YtfieheffipfahaaGreatDoorTJ8Look
namespace Go.Proofs.YtfieheffipfahaaGreatDoor
open Go Go.RowKit
set_option maxHeartbeats 16000000
set_option maxRecDepth 100000
set_option linter.unusedVariables false
set_option linter.unusedSimpArgs false
theorem byte_of9 {P : Program} {f : FuncId} {args : Array Value} {w : World} {z : Nat} {v : Int} (e : ((z : Nat) : Int) = v) (h : Calls P f args w fun e w' => e = .returned (.int .u8 ((z : Nat) : Int)) ∧ Below w.heap.size w w') : Calls P f args w fun e w' => e = .returned (.int .u8 v) ∧ Below w.heap.size w w' := by
 subst e; exact h
theorem zfX {r : Rat} {v : Int} (h : zgT r = v) : decide (v > 0) = decide (0 < r.num) := by
 rw [← h]; unfold zgT zgn
 split
 ·simp; omega
 ·split <;> simp <;> omega
theorem zjG (r : Rat) (baa : Bool) (Baa : oA9) (maa daa : Nat) (Eaa : oA9) (uaa vaa : Nat) (w : World) (hT : zap w) (haa : zau w r baa Baa maa daa Eaa uaa vaa) (qaa : zbg maa uaa) (h0 : r = 0) :
  Calls Tryz.prog 43 #[.agg #[.bool baa,.slice Baa maa daa,.slice Eaa uaa vaa]] w (fun e w' => e = .returned (.int .u8 0) ∧ Below w.heap.size w w') := by
 have HIC := lh9 (zbD (T := zap))
 have HT := lh9 (fun w' (hb : Below w.heap.size w w') => hT.on hb)
 obtain ⟨K,hKe⟩ : ∃ K,67108864 = K := ⟨_,rfl⟩
 have hKK : K ≤ 67108864 := by omega
 have hK0 : 0 < K := by omega
 have hK9 : 255 ≤ K := by omega
 have ef1 := zaT
 have ef2 := zbe
 have ef3 := zbm
 have ef4 := zbn
 have H0 := lh9 h0
 have HNaa := lh9 (fun w' (b : Below w.heap.size w w') => haa.below b)
 obtain ⟨xaa,hxaa,hxwaa⟩ := haa.2
 have HXaa := lh9 hxaa
 have HZaa : Hid (SzQ K r) := zaU haa qaa hKe
 have HZaap : Hid (Sz K r.num.natAbs) := HZaa.out.num
 have HZaaq : Hid (Sz K xaa) := zaE HZaa.out.den hxaa
 have HNaap := lh9 (fun w' (b : Below w.heap.size w w') => haa.1.below b)
 have HNaaq := lh9 (fun w' (b : Below w.heap.size w w') => hxwaa.below b)
 clear haa qaa hxaa hxwaa
 clear hT hKe h0
 go_enter Tryz.func43,Tryz.ntmps43
 have hB := Below.refl w.heap.size w
 obtain ⟨bx1,bx2,bz⟩ := zaA w 33 #[.bool baa,.slice Baa maa daa,.slice Eaa uaa vaa]
 have hB := zac hB bx1
 obtain ⟨g1,e1,i1⟩ := bx2.c3
 clear bx1 bx2 bz
 go_wp2_with fail
 generalize w.alloc (.cells #[.bool baa,.slice Baa maa daa,.slice Eaa uaa vaa] 33) = W1 at *
 (with_reducible refine (zaO (decide_eq_true H0.out) (zdK (r) baa Baa maa daa Eaa uaa vaa _ (HT.out _ hB) (HNaa.out _ hB) (szq HZaa (HNaa.out _ hB)))).mono ?_)
 rintro e wc2 ⟨rfl,hb⟩
 have hB := zac hB hb
 have g1 := zad hb g1
 have e1 := zad hb e1
 have i1 := zad hb i1
 clear hb 
 go_wp2
 go_ret
 exact ⟨by first | rfl | simp,hB⟩
theorem zjH (r : Rat) (baa : Bool) (Baa : oA9) (maa daa : Nat) (Eaa : oA9) (uaa vaa : Nat) (w : World) (hT : zap w) (haa : zau w r baa Baa maa daa Eaa uaa vaa) (qaa : zbg maa uaa) (h0 : r ≠ 0) (h1 : r.den = 1) (h2 : decide (0 < r.num) = true) :
  Calls Tryz.prog 43 #[.agg #[.bool baa,.slice Baa maa daa,.slice Eaa uaa vaa]] w (fun e w' => e = .returned (.int .u8 1) ∧ Below w.heap.size w w') := by
 have HIC := lh9 (zbD (T := zap))
 have HT := lh9 (fun w' (hb : Below w.heap.size w w') => hT.on hb)
 obtain ⟨K,hKe⟩ : ∃ K,67108864 = K := ⟨_,rfl⟩
 have hKK : K ≤ 67108864 := by omega
 have hK0 : 0 < K := by omega
 have hK9 : 255 ≤ K := by omega
 have ef1 := zaT
 have ef2 := zbe
 have ef3 := zbm
 have ef4 := zbn
 have H0 := lh9 h0
 have HW := lh9 h1
 obtain ⟨sg,hsg⟩ : ∃ s,zgT r = s := ⟨_,rfl⟩
 have HSG := lh9 hsg
 have hd1 : decide (sg > 0) = true := (zfX hsg).trans h2
 have hd2 : decide (0 < sg) = true := hd1
 clear hsg
 have HNaa := lh9 (fun w' (b : Below w.heap.size w w') => haa.below b)
 obtain ⟨xaa,hxaa,hxwaa⟩ := haa.2
 have HXaa := lh9 hxaa
 have HZaa : Hid (SzQ K r) := zaU haa qaa hKe
 have HZaap : Hid (Sz K r.num.natAbs) := HZaa.out.num
 have HZaaq : Hid (Sz K xaa) := zaE HZaa.out.den hxaa
 have HNaap := lh9 (fun w' (b : Below w.heap.size w w') => haa.1.below b)
 have HNaaq := lh9 (fun w' (b : Below w.heap.size w w') => hxwaa.below b)
 clear haa qaa hxaa hxwaa
 clear hT hKe h0 h1 h2
 go_enter Tryz.func43,Tryz.ntmps43
 have hB := Below.refl w.heap.size w
 obtain ⟨bx1,bx2,bz⟩ := zaA w 33 #[.bool baa,.slice Baa maa daa,.slice Eaa uaa vaa]
 have hB := zac hB bx1
 obtain ⟨g1,e1,i1⟩ := bx2.c3
 clear bx1 bx2 bz
 go_wp2_with fail
 generalize w.alloc (.cells #[.bool baa,.slice Baa maa daa,.slice Eaa uaa vaa] 33) = W1 at *
 (with_reducible refine (zaO (decide_eq_false H0.out) (zdK (r) baa Baa maa daa Eaa uaa vaa _ (HT.out _ hB) (HNaa.out _ hB) (szq HZaa (HNaa.out _ hB)))).mono ?_)
 rintro e wc2 ⟨rfl,hb⟩
 have hB := zac hB hb
 have g1 := zad hb g1
 have e1 := zad hb e1
 have i1 := zad hb i1
 clear hb 
 go_wp2_with fail
 (with_reducible refine (zaO (decide_eq_true HW.out) (zbj (r) baa Baa maa daa Eaa uaa vaa _ (HT.out _ hB) (HNaa.out _ hB) (szq HZaa (HNaa.out _ hB)))).mono ?_)
 rintro e wc3 ⟨rfl,hb⟩
 have hB := zac hB hb
 have g1 := zad hb g1
 have e1 := zad hb e1
 have i1 := zad hb i1
 clear hb 
 go_wp2_with fail
 (with_reducible refine (zbf (v := sg) (HSG.out) (zdl (r) baa Baa maa daa Eaa uaa vaa _ (HT.out _ hB) (HNaa.out _ hB) (szq HZaa (HNaa.out _ hB)))).mono ?_)
 rintro e wc4 ⟨rfl,hb⟩
 have hB := zac hB hb
 have g1 := zad hb g1
 have e1 := zad hb e1
 have i1 := zad hb i1
 clear hb 
 go_wp2
 go_ret
 exact ⟨by first | rfl | simp,hB⟩
theorem zjI (r : Rat) (baa : Bool) (Baa : oA9) (maa daa : Nat) (Eaa : oA9) (uaa vaa : Nat) (w : World) (hT : zap w) (haa : zau w r baa Baa maa daa Eaa uaa vaa) (qaa : zbg maa uaa) (h0 : r ≠ 0) (h1 : r.den = 1) (h2 : decide (0 < r.num) = false) :
  Calls Tryz.prog 43 #[.agg #[.bool baa,.slice Baa maa daa,.slice Eaa uaa vaa]] w (fun e w' => e = .returned (.int .u8 2) ∧ Below w.heap.size w w') := by
 have HIC := lh9 (zbD (T := zap))
 have HT := lh9 (fun w' (hb : Below w.heap.size w w') => hT.on hb)
 obtain ⟨K,hKe⟩ : ∃ K,67108864 = K := ⟨_,rfl⟩
 have hKK : K ≤ 67108864 := by omega
 have hK0 : 0 < K := by omega
 have hK9 : 255 ≤ K := by omega
 have ef1 := zaT
 have ef2 := zbe
 have ef3 := zbm
 have ef4 := zbn
 have H0 := lh9 h0
 have HW := lh9 h1
 obtain ⟨sg,hsg⟩ : ∃ s,zgT r = s := ⟨_,rfl⟩
 have HSG := lh9 hsg
 have hd1 : decide (sg > 0) = false := (zfX hsg).trans h2
 have hd2 : decide (0 < sg) = false := hd1
 clear hsg
 have HNaa := lh9 (fun w' (b : Below w.heap.size w w') => haa.below b)
 obtain ⟨xaa,hxaa,hxwaa⟩ := haa.2
 have HXaa := lh9 hxaa
 have HZaa : Hid (SzQ K r) := zaU haa qaa hKe
 have HZaap : Hid (Sz K r.num.natAbs) := HZaa.out.num
 have HZaaq : Hid (Sz K xaa) := zaE HZaa.out.den hxaa
 have HNaap := lh9 (fun w' (b : Below w.heap.size w w') => haa.1.below b)
 have HNaaq := lh9 (fun w' (b : Below w.heap.size w w') => hxwaa.below b)
 clear haa qaa hxaa hxwaa
 clear hT hKe h0 h1 h2
 go_enter Tryz.func43,Tryz.ntmps43
 have hB := Below.refl w.heap.size w
 obtain ⟨bx1,bx2,bz⟩ := zaA w 33 #[.bool baa,.slice Baa maa daa,.slice Eaa uaa vaa]
 have hB := zac hB bx1
 obtain ⟨g1,e1,i1⟩ := bx2.c3
 clear bx1 bx2 bz
 go_wp2_with fail
 generalize w.alloc (.cells #[.bool baa,.slice Baa maa daa,.slice Eaa uaa vaa] 33) = W1 at *
 (with_reducible refine (zaO (decide_eq_false H0.out) (zdK (r) baa Baa maa daa Eaa uaa vaa _ (HT.out _ hB) (HNaa.out _ hB) (szq HZaa (HNaa.out _ hB)))).mono ?_)
 rintro e wc2 ⟨rfl,hb⟩
 have hB := zac hB hb
 have g1 := zad hb g1
 have e1 := zad hb e1
 have i1 := zad hb i1
 clear hb 
 go_wp2_with fail
 (with_reducible refine (zaO (decide_eq_true HW.out) (zbj (r) baa Baa maa daa Eaa uaa vaa _ (HT.out _ hB) (HNaa.out _ hB) (szq HZaa (HNaa.out _ hB)))).mono ?_)
 rintro e wc3 ⟨rfl,hb⟩
 have hB := zac hB hb
 have g1 := zad hb g1
 have e1 := zad hb e1
 have i1 := zad hb i1
 clear hb 
 go_wp2_with fail
 (with_reducible refine (zbf (v := sg) (HSG.out) (zdl (r) baa Baa maa daa Eaa uaa vaa _ (HT.out _ hB) (HNaa.out _ hB) (szq HZaa (HNaa.out _ hB)))).mono ?_)
 rintro e wc4 ⟨rfl,hb⟩
 have hB := zac hB hb
 have g1 := zad hb g1
 have e1 := zad hb e1
 have i1 := zad hb i1
 clear hb 
 go_wp2_with fail
 (with_reducible refine (zaO (decide_eq_true HW.out) (zbj (r) baa Baa maa daa Eaa uaa vaa _ (HT.out _ hB) (HNaa.out _ hB) (szq HZaa (HNaa.out _ hB)))).mono ?_)
 rintro e wc5 ⟨rfl,hb⟩
 have hB := zac hB hb
 have g1 := zad hb g1
 have e1 := zad hb e1
 have i1 := zad hb i1
 clear hb 
 go_wp2
 go_ret
 exact ⟨by first | rfl | simp,hB⟩
theorem zjJ (r : Rat) (baa : Bool) (Baa : oA9) (maa daa : Nat) (Eaa : oA9) (uaa vaa : Nat) (w : World) (hT : zap w) (haa : zau w r baa Baa maa daa Eaa uaa vaa) (qaa : zbg maa uaa) (h0 : r ≠ 0) (h1 : r.den ≠ 1) (h2 : decide (0 < r.num) = true) :
  Calls Tryz.prog 43 #[.agg #[.bool baa,.slice Baa maa daa,.slice Eaa uaa vaa]] w (fun e w' => e = .returned (.int .u8 3) ∧ Below w.heap.size w w') := by
 have HIC := lh9 (zbD (T := zap))
 have HT := lh9 (fun w' (hb : Below w.heap.size w w') => hT.on hb)
 obtain ⟨K,hKe⟩ : ∃ K,67108864 = K := ⟨_,rfl⟩
 have hKK : K ≤ 67108864 := by omega
 have hK0 : 0 < K := by omega
 have hK9 : 255 ≤ K := by omega
 have ef1 := zaT
 have ef2 := zbe
 have ef3 := zbm
 have ef4 := zbn
 have H0 := lh9 h0
 have HW := lh9 h1
 obtain ⟨sg,hsg⟩ : ∃ s,zgT r = s := ⟨_,rfl⟩
 have HSG := lh9 hsg
 have hd1 : decide (sg > 0) = true := (zfX hsg).trans h2
 have hd2 : decide (0 < sg) = true := hd1
 clear hsg
 have HNaa := lh9 (fun w' (b : Below w.heap.size w w') => haa.below b)
 obtain ⟨xaa,hxaa,hxwaa⟩ := haa.2
 have HXaa := lh9 hxaa
 have HZaa : Hid (SzQ K r) := zaU haa qaa hKe
 have HZaap : Hid (Sz K r.num.natAbs) := HZaa.out.num
 have HZaaq : Hid (Sz K xaa) := zaE HZaa.out.den hxaa
 have HNaap := lh9 (fun w' (b : Below w.heap.size w w') => haa.1.below b)
 have HNaaq := lh9 (fun w' (b : Below w.heap.size w w') => hxwaa.below b)
 clear haa qaa hxaa hxwaa
 clear hT hKe h0 h1 h2
 go_enter Tryz.func43,Tryz.ntmps43
 have hB := Below.refl w.heap.size w
 obtain ⟨bx1,bx2,bz⟩ := zaA w 33 #[.bool baa,.slice Baa maa daa,.slice Eaa uaa vaa]
 have hB := zac hB bx1
 obtain ⟨g1,e1,i1⟩ := bx2.c3
 clear bx1 bx2 bz
 go_wp2_with fail
 generalize w.alloc (.cells #[.bool baa,.slice Baa maa daa,.slice Eaa uaa vaa] 33) = W1 at *
 (with_reducible refine (zaO (decide_eq_false H0.out) (zdK (r) baa Baa maa daa Eaa uaa vaa _ (HT.out _ hB) (HNaa.out _ hB) (szq HZaa (HNaa.out _ hB)))).mono ?_)
 rintro e wc2 ⟨rfl,hb⟩
 have hB := zac hB hb
 have g1 := zad hb g1
 have e1 := zad hb e1
 have i1 := zad hb i1
 clear hb 
 go_wp2_with fail
 (with_reducible refine (zaO (decide_eq_false HW.out) (zbj (r) baa Baa maa daa Eaa uaa vaa _ (HT.out _ hB) (HNaa.out _ hB) (szq HZaa (HNaa.out _ hB)))).mono ?_)
 rintro e wc3 ⟨rfl,hb⟩
 have hB := zac hB hb
 have g1 := zad hb g1
 have e1 := zad hb e1
 have i1 := zad hb i1
 clear hb 
 go_wp2_with fail
 (with_reducible refine (zaO (decide_eq_false HW.out) (zbj (r) baa Baa maa daa Eaa uaa vaa _ (HT.out _ hB) (HNaa.out _ hB) (szq HZaa (HNaa.out _ hB)))).mono ?_)
 rintro e wc4 ⟨rfl,hb⟩
 have hB := zac hB hb
 have g1 := zad hb g1
 have e1 := zad hb e1
 have i1 := zad hb i1
 clear hb 
 go_wp2_with fail
 (with_reducible refine (zbf (v := sg) (HSG.out) (zdl (r) baa Baa maa daa Eaa uaa vaa _ (HT.out _ hB) (HNaa.out _ hB) (szq HZaa (HNaa.out _ hB)))).mono ?_)
 rintro e wc5 ⟨rfl,hb⟩
 have hB := zac hB hb
 have g1 := zad hb g1
 have e1 := zad hb e1
 have i1 := zad hb i1
 clear hb 
 go_wp2
 go_ret
 exact ⟨by first | rfl | simp,hB⟩
theorem zjK (r : Rat) (baa : Bool) (Baa : oA9) (maa daa : Nat) (Eaa : oA9) (uaa vaa : Nat) (w : World) (hT : zap w) (haa : zau w r baa Baa maa daa Eaa uaa vaa) (qaa : zbg maa uaa) (h0 : r ≠ 0) (h1 : r.den ≠ 1) (h2 : decide (0 < r.num) = false) :
  Calls Tryz.prog 43 #[.agg #[.bool baa,.slice Baa maa daa,.slice Eaa uaa vaa]] w (fun e w' => e = .returned (.int .u8 4) ∧ Below w.heap.size w w') := by
 have HIC := lh9 (zbD (T := zap))
 have HT := lh9 (fun w' (hb : Below w.heap.size w w') => hT.on hb)
 obtain ⟨K,hKe⟩ : ∃ K,67108864 = K := ⟨_,rfl⟩
 have hKK : K ≤ 67108864 := by omega
 have hK0 : 0 < K := by omega
 have hK9 : 255 ≤ K := by omega
 have ef1 := zaT
 have ef2 := zbe
 have ef3 := zbm
 have ef4 := zbn
 have H0 := lh9 h0
 have HW := lh9 h1
 obtain ⟨sg,hsg⟩ : ∃ s,zgT r = s := ⟨_,rfl⟩
 have HSG := lh9 hsg
 have hd1 : decide (sg > 0) = false := (zfX hsg).trans h2
 have hd2 : decide (0 < sg) = false := hd1
 clear hsg
 have HNaa := lh9 (fun w' (b : Below w.heap.size w w') => haa.below b)
 obtain ⟨xaa,hxaa,hxwaa⟩ := haa.2
 have HXaa := lh9 hxaa
 have HZaa : Hid (SzQ K r) := zaU haa qaa hKe
 have HZaap : Hid (Sz K r.num.natAbs) := HZaa.out.num
 have HZaaq : Hid (Sz K xaa) := zaE HZaa.out.den hxaa
 have HNaap := lh9 (fun w' (b : Below w.heap.size w w') => haa.1.below b)
 have HNaaq := lh9 (fun w' (b : Below w.heap.size w w') => hxwaa.below b)
 clear haa qaa hxaa hxwaa
 clear hT hKe h0 h1 h2
 go_enter Tryz.func43,Tryz.ntmps43
 have hB := Below.refl w.heap.size w
 obtain ⟨bx1,bx2,bz⟩ := zaA w 33 #[.bool baa,.slice Baa maa daa,.slice Eaa uaa vaa]
 have hB := zac hB bx1
 obtain ⟨g1,e1,i1⟩ := bx2.c3
 clear bx1 bx2 bz
 go_wp2_with fail
 generalize w.alloc (.cells #[.bool baa,.slice Baa maa daa,.slice Eaa uaa vaa] 33) = W1 at *
 (with_reducible refine (zaO (decide_eq_false H0.out) (zdK (r) baa Baa maa daa Eaa uaa vaa _ (HT.out _ hB) (HNaa.out _ hB) (szq HZaa (HNaa.out _ hB)))).mono ?_)
 rintro e wc2 ⟨rfl,hb⟩
 have hB := zac hB hb
 have g1 := zad hb g1
 have e1 := zad hb e1
 have i1 := zad hb i1
 clear hb 
 go_wp2_with fail
 (with_reducible refine (zaO (decide_eq_false HW.out) (zbj (r) baa Baa maa daa Eaa uaa vaa _ (HT.out _ hB) (HNaa.out _ hB) (szq HZaa (HNaa.out _ hB)))).mono ?_)
 rintro e wc3 ⟨rfl,hb⟩
 have hB := zac hB hb
 have g1 := zad hb g1
 have e1 := zad hb e1
 have i1 := zad hb i1
 clear hb 
 go_wp2_with fail
 (with_reducible refine (zaO (decide_eq_false HW.out) (zbj (r) baa Baa maa daa Eaa uaa vaa _ (HT.out _ hB) (HNaa.out _ hB) (szq HZaa (HNaa.out _ hB)))).mono ?_)
 rintro e wc4 ⟨rfl,hb⟩
 have hB := zac hB hb
 have g1 := zad hb g1
 have e1 := zad hb e1
 have i1 := zad hb i1
 clear hb 
 go_wp2_with fail
 (with_reducible refine (zbf (v := sg) (HSG.out) (zdl (r) baa Baa maa daa Eaa uaa vaa _ (HT.out _ hB) (HNaa.out _ hB) (szq HZaa (HNaa.out _ hB)))).mono ?_)
 rintro e wc5 ⟨rfl,hb⟩
 have hB := zac hB hb
 have g1 := zad hb g1
 have e1 := zad hb e1
 have i1 := zad hb i1
 clear hb 
 go_wp2
 go_ret
 exact ⟨by first | rfl | simp,hB⟩
theorem zfn (r : Rat) (baa : Bool) (Baa : oA9) (maa daa : Nat) (Eaa : oA9) (uaa vaa : Nat) (w : World) (hT : zap w) (haa : zau w r baa Baa maa daa Eaa uaa vaa) (qaa : zbg maa uaa) :
  Calls Tryz.prog 43 #[.agg #[.bool baa,.slice Baa maa daa,.slice Eaa uaa vaa]] w (fun e w' => e = .returned (.int .u8 ((zct r : Nat) : Int)) ∧ Below w.heap.size w w') := by
 by_cases h0 : r = 0
 ·rw [show zct r = 0 from by unfold zct; rw [if_pos h0]]; exact zjG r baa Baa maa daa Eaa uaa vaa w hT haa qaa h0
 ·by_cases h1 : r.den = 1
  ·by_cases h2 : 0 < r.num
   ·rw [show zct r = 1 from by unfold zct; rw [if_neg h0,if_pos h1,if_pos h2]]; exact zjH r baa Baa maa daa Eaa uaa vaa w hT haa qaa h0 h1 (decide_eq_true h2)
   ·rw [show zct r = 2 from by unfold zct; rw [if_neg h0,if_pos h1,if_neg h2]]; exact zjI r baa Baa maa daa Eaa uaa vaa w hT haa qaa h0 h1 (decide_eq_false h2)
  ·by_cases h2 : 0 < r.num
   ·rw [show zct r = 3 from by unfold zct; rw [if_neg h0,if_neg h1,if_pos h2]]; exact zjJ r baa Baa maa daa Eaa uaa vaa w hT haa qaa h0 h1 (decide_eq_true h2)
   ·rw [show zct r = 4 from by unfold zct; rw [if_neg h0,if_neg h1,if_neg h2]]; exact zjK r baa Baa maa daa Eaa uaa vaa w hT haa qaa h0 h1 (decide_eq_false h2)
end Go.Proofs.YtfieheffipfahaaGreatDoor
