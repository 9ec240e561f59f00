/- What this claim leans on. -/
import Derived.Test.YtfieheffipfahaaGreatDoorRJ9Read
namespace Go.Proofs.YtfieheffipfahaaGreatDoor
open Go Go.RowKit
set_option maxHeartbeats 16000000
set_option maxRecDepth 100000
set_option linter.unusedVariables false
set_option linter.unusedSimpArgs false
theorem zdN {P : Program} {f : FuncId} {args : Array Value} {w : World} {z : Nat} {v : Int} (e : ((z : Nat) : Int) = v) (h : Calls P f args w fun e w' => e = .returned (.int .u8 ((z : Nat) : Int)) ∧ Below w.heap.size w w') : Calls P f args w fun e w' => e = .returned (.int .u8 v) ∧ Below w.heap.size w w':=by
 subst e; exact h
theorem zgR {r : Rat} {v : Int} (h : zhS r = v) : decide (v > 0) = decide (0 < r.num):=by
 rw [← h]; unfold zhS zeg
 split
 ·simp; omega
 ·split <;> simp <;> omega
theorem zlo (r : Rat) (baa : Bool) (Baa : oA9) (maa daa : Nat) (Eaa : oA9) (uaa vaa : Nat) (w : World) (hT : zam w) (haa : zaF w r baa Baa maa daa Eaa uaa vaa) (qaa : zbL maa uaa) (h0 : r = 0) :
  Calls Tryz.prog 43 #[.agg #[.bool baa,.slice Baa maa daa,.slice Eaa uaa vaa]] w (fun e w' => e = .returned (.int .u8 0) ∧ Below w.heap.size w w'):=by
 have HIC:=lh9 (zbh (T:=zam))
 have HT:=lh9 (fun w' (hb : Below w.heap.size w w') => hT.on hb)
 obtain ⟨K,hKe⟩ : ∃ K,67108864 = K:=⟨_,rfl⟩
 have hKK : K ≤ 67108864:=by omega
 have hK0 : 0 < K:=by omega
 have hK9 : 255 ≤ K:=by omega
 have ef1:=zaH
 have ef2:=zaJ
 have ef3:=zaM
 have ef4:=zaN
 have H0:=lh9 h0
 have HNaa:=lh9 (fun w' (b : Below w.heap.size w w') => haa.below b)
 obtain ⟨xaa,hxaa,hxwaa⟩:=haa.2
 have HXaa:=lh9 hxaa
 have HZaa : Hid (SzQ K r):=zbu haa qaa hKe
 have HZaap : Hid (Sz K r.num.natAbs):=HZaa.out.num
 have HZaaq : Hid (Sz K xaa):=zaV HZaa.out.den hxaa
 have HNaap:=lh9 (fun w' (b : Below w.heap.size w w') => haa.1.below b)
 have HNaaq:=lh9 (fun w' (b : Below w.heap.size w w') => hxwaa.below b)
 clear haa qaa hxaa hxwaa
 clear hT hKe h0
 go_enter Tryz.func43,Tryz.ntmps43
 have hB:=Below.refl w.heap.size w
 obtain ⟨bx1,bx2,bz⟩:=zaz w 33 #[.bool baa,.slice Baa maa daa,.slice Eaa uaa vaa]
 have hB:=zac hB bx1
 obtain ⟨g1,e1,i1⟩:=bx2.c3
 clear bx1 bx2 bz
 go_wp2_with fail
 generalize w.alloc (.cells #[.bool baa,.slice Baa maa daa,.slice Eaa uaa vaa] 33) = W1 at *
 (with_reducible refine (zaW (decide_eq_true H0.out) (zeu (r) baa Baa maa daa Eaa uaa vaa _ (HT.out _ hB) (HNaa.out _ hB) (szq HZaa (HNaa.out _ hB)))).mono ?_)
 rintro e wc2 ⟨rfl,hb⟩
 have hB:=zac hB hb
 have g1:=zad hb g1
 have e1:=zad hb e1
 have i1:=zad hb i1
 clear hb 
 go_wp2
 go_ret
 exact ⟨by first | rfl | simp,hB⟩
theorem zlp (r : Rat) (baa : Bool) (Baa : oA9) (maa daa : Nat) (Eaa : oA9) (uaa vaa : Nat) (w : World) (hT : zam w) (haa : zaF w r baa Baa maa daa Eaa uaa vaa) (qaa : zbL maa uaa) (h0 : r ≠ 0) (h1 : r.den = 1) (h2 : decide (0 < r.num) = true) :
  Calls Tryz.prog 43 #[.agg #[.bool baa,.slice Baa maa daa,.slice Eaa uaa vaa]] w (fun e w' => e = .returned (.int .u8 1) ∧ Below w.heap.size w w'):=by
 have HIC:=lh9 (zbh (T:=zam))
 have HT:=lh9 (fun w' (hb : Below w.heap.size w w') => hT.on hb)
 obtain ⟨K,hKe⟩ : ∃ K,67108864 = K:=⟨_,rfl⟩
 have hKK : K ≤ 67108864:=by omega
 have hK0 : 0 < K:=by omega
 have hK9 : 255 ≤ K:=by omega
 have ef1:=zaH
 have ef2:=zaJ
 have ef3:=zaM
 have ef4:=zaN
 have H0:=lh9 h0
 have HW:=lh9 h1
 obtain ⟨sg,hsg⟩ : ∃ s,zhS r = s:=⟨_,rfl⟩
 have HSG:=lh9 hsg
 have hd1 : decide (sg > 0) = true:=(zgR hsg).trans h2
 have hd2 : decide (0 < sg) = true:=hd1
 clear hsg
 have HNaa:=lh9 (fun w' (b : Below w.heap.size w w') => haa.below b)
 obtain ⟨xaa,hxaa,hxwaa⟩:=haa.2
 have HXaa:=lh9 hxaa
 have HZaa : Hid (SzQ K r):=zbu haa qaa hKe
 have HZaap : Hid (Sz K r.num.natAbs):=HZaa.out.num
 have HZaaq : Hid (Sz K xaa):=zaV HZaa.out.den hxaa
 have HNaap:=lh9 (fun w' (b : Below w.heap.size w w') => haa.1.below b)
 have HNaaq:=lh9 (fun w' (b : Below w.heap.size w w') => hxwaa.below b)
 clear haa qaa hxaa hxwaa
 clear hT hKe h0 h1 h2
 go_enter Tryz.func43,Tryz.ntmps43
 have hB:=Below.refl w.heap.size w
 obtain ⟨bx1,bx2,bz⟩:=zaz w 33 #[.bool baa,.slice Baa maa daa,.slice Eaa uaa vaa]
 have hB:=zac hB bx1
 obtain ⟨g1,e1,i1⟩:=bx2.c3
 clear bx1 bx2 bz
 go_wp2_with fail
 generalize w.alloc (.cells #[.bool baa,.slice Baa maa daa,.slice Eaa uaa vaa] 33) = W1 at *
 (with_reducible refine (zaW (decide_eq_false H0.out) (zeu (r) baa Baa maa daa Eaa uaa vaa _ (HT.out _ hB) (HNaa.out _ hB) (szq HZaa (HNaa.out _ hB)))).mono ?_)
 rintro e wc2 ⟨rfl,hb⟩
 have hB:=zac hB hb
 have g1:=zad hb g1
 have e1:=zad hb e1
 have i1:=zad hb i1
 clear hb 
 go_wp2_with fail
 (with_reducible refine (zaW (decide_eq_true HW.out) (zbt (r) baa Baa maa daa Eaa uaa vaa _ (HT.out _ hB) (HNaa.out _ hB) (szq HZaa (HNaa.out _ hB)))).mono ?_)
 rintro e wc3 ⟨rfl,hb⟩
 have hB:=zac hB hb
 have g1:=zad hb g1
 have e1:=zad hb e1
 have i1:=zad hb i1
 clear hb 
 go_wp2_with fail
 (with_reducible refine (zbr (v:=sg) (HSG.out) (zdR (r) baa Baa maa daa Eaa uaa vaa _ (HT.out _ hB) (HNaa.out _ hB) (szq HZaa (HNaa.out _ hB)))).mono ?_)
 rintro e wc4 ⟨rfl,hb⟩
 have hB:=zac hB hb
 have g1:=zad hb g1
 have e1:=zad hb e1
 have i1:=zad hb i1
 clear hb 
 go_wp2
 go_ret
 exact ⟨by first | rfl | simp,hB⟩
theorem zlq (r : Rat) (baa : Bool) (Baa : oA9) (maa daa : Nat) (Eaa : oA9) (uaa vaa : Nat) (w : World) (hT : zam w) (haa : zaF w r baa Baa maa daa Eaa uaa vaa) (qaa : zbL maa uaa) (h0 : r ≠ 0) (h1 : r.den = 1) (h2 : decide (0 < r.num) = false) :
  Calls Tryz.prog 43 #[.agg #[.bool baa,.slice Baa maa daa,.slice Eaa uaa vaa]] w (fun e w' => e = .returned (.int .u8 2) ∧ Below w.heap.size w w'):=by
 have HIC:=lh9 (zbh (T:=zam))
 have HT:=lh9 (fun w' (hb : Below w.heap.size w w') => hT.on hb)
 obtain ⟨K,hKe⟩ : ∃ K,67108864 = K:=⟨_,rfl⟩
 have hKK : K ≤ 67108864:=by omega
 have hK0 : 0 < K:=by omega
 have hK9 : 255 ≤ K:=by omega
 have ef1:=zaH
 have ef2:=zaJ
 have ef3:=zaM
 have ef4:=zaN
 have H0:=lh9 h0
 have HW:=lh9 h1
 obtain ⟨sg,hsg⟩ : ∃ s,zhS r = s:=⟨_,rfl⟩
 have HSG:=lh9 hsg
 have hd1 : decide (sg > 0) = false:=(zgR hsg).trans h2
 have hd2 : decide (0 < sg) = false:=hd1
 clear hsg
 have HNaa:=lh9 (fun w' (b : Below w.heap.size w w') => haa.below b)
 obtain ⟨xaa,hxaa,hxwaa⟩:=haa.2
 have HXaa:=lh9 hxaa
 have HZaa : Hid (SzQ K r):=zbu haa qaa hKe
 have HZaap : Hid (Sz K r.num.natAbs):=HZaa.out.num
 have HZaaq : Hid (Sz K xaa):=zaV HZaa.out.den hxaa
 have HNaap:=lh9 (fun w' (b : Below w.heap.size w w') => haa.1.below b)
 have HNaaq:=lh9 (fun w' (b : Below w.heap.size w w') => hxwaa.below b)
 clear haa qaa hxaa hxwaa
 clear hT hKe h0 h1 h2
 go_enter Tryz.func43,Tryz.ntmps43
 have hB:=Below.refl w.heap.size w
 obtain ⟨bx1,bx2,bz⟩:=zaz w 33 #[.bool baa,.slice Baa maa daa,.slice Eaa uaa vaa]
 have hB:=zac hB bx1
 obtain ⟨g1,e1,i1⟩:=bx2.c3
 clear bx1 bx2 bz
 go_wp2_with fail
 generalize w.alloc (.cells #[.bool baa,.slice Baa maa daa,.slice Eaa uaa vaa] 33) = W1 at *
 (with_reducible refine (zaW (decide_eq_false H0.out) (zeu (r) baa Baa maa daa Eaa uaa vaa _ (HT.out _ hB) (HNaa.out _ hB) (szq HZaa (HNaa.out _ hB)))).mono ?_)
 rintro e wc2 ⟨rfl,hb⟩
 have hB:=zac hB hb
 have g1:=zad hb g1
 have e1:=zad hb e1
 have i1:=zad hb i1
 clear hb 
 go_wp2_with fail
 (with_reducible refine (zaW (decide_eq_true HW.out) (zbt (r) baa Baa maa daa Eaa uaa vaa _ (HT.out _ hB) (HNaa.out _ hB) (szq HZaa (HNaa.out _ hB)))).mono ?_)
 rintro e wc3 ⟨rfl,hb⟩
 have hB:=zac hB hb
 have g1:=zad hb g1
 have e1:=zad hb e1
 have i1:=zad hb i1
 clear hb 
 go_wp2_with fail
 (with_reducible refine (zbr (v:=sg) (HSG.out) (zdR (r) baa Baa maa daa Eaa uaa vaa _ (HT.out _ hB) (HNaa.out _ hB) (szq HZaa (HNaa.out _ hB)))).mono ?_)
 rintro e wc4 ⟨rfl,hb⟩
 have hB:=zac hB hb
 have g1:=zad hb g1
 have e1:=zad hb e1
 have i1:=zad hb i1
 clear hb 
 go_wp2_with fail
 (with_reducible refine (zaW (decide_eq_true HW.out) (zbt (r) baa Baa maa daa Eaa uaa vaa _ (HT.out _ hB) (HNaa.out _ hB) (szq HZaa (HNaa.out _ hB)))).mono ?_)
 rintro e wc5 ⟨rfl,hb⟩
 have hB:=zac hB hb
 have g1:=zad hb g1
 have e1:=zad hb e1
 have i1:=zad hb i1
 clear hb 
 go_wp2
 go_ret
 exact ⟨by first | rfl | simp,hB⟩
theorem zlr (r : Rat) (baa : Bool) (Baa : oA9) (maa daa : Nat) (Eaa : oA9) (uaa vaa : Nat) (w : World) (hT : zam w) (haa : zaF w r baa Baa maa daa Eaa uaa vaa) (qaa : zbL maa uaa) (h0 : r ≠ 0) (h1 : r.den ≠ 1) (h2 : decide (0 < r.num) = true) :
  Calls Tryz.prog 43 #[.agg #[.bool baa,.slice Baa maa daa,.slice Eaa uaa vaa]] w (fun e w' => e = .returned (.int .u8 3) ∧ Below w.heap.size w w'):=by
 have HIC:=lh9 (zbh (T:=zam))
 have HT:=lh9 (fun w' (hb : Below w.heap.size w w') => hT.on hb)
 obtain ⟨K,hKe⟩ : ∃ K,67108864 = K:=⟨_,rfl⟩
 have hKK : K ≤ 67108864:=by omega
 have hK0 : 0 < K:=by omega
 have hK9 : 255 ≤ K:=by omega
 have ef1:=zaH
 have ef2:=zaJ
 have ef3:=zaM
 have ef4:=zaN
 have H0:=lh9 h0
 have HW:=lh9 h1
 obtain ⟨sg,hsg⟩ : ∃ s,zhS r = s:=⟨_,rfl⟩
 have HSG:=lh9 hsg
 have hd1 : decide (sg > 0) = true:=(zgR hsg).trans h2
 have hd2 : decide (0 < sg) = true:=hd1
 clear hsg
 have HNaa:=lh9 (fun w' (b : Below w.heap.size w w') => haa.below b)
 obtain ⟨xaa,hxaa,hxwaa⟩:=haa.2
 have HXaa:=lh9 hxaa
 have HZaa : Hid (SzQ K r):=zbu haa qaa hKe
 have HZaap : Hid (Sz K r.num.natAbs):=HZaa.out.num
 have HZaaq : Hid (Sz K xaa):=zaV HZaa.out.den hxaa
 have HNaap:=lh9 (fun w' (b : Below w.heap.size w w') => haa.1.below b)
 have HNaaq:=lh9 (fun w' (b : Below w.heap.size w w') => hxwaa.below b)
 clear haa qaa hxaa hxwaa
 clear hT hKe h0 h1 h2
 go_enter Tryz.func43,Tryz.ntmps43
 have hB:=Below.refl w.heap.size w
 obtain ⟨bx1,bx2,bz⟩:=zaz w 33 #[.bool baa,.slice Baa maa daa,.slice Eaa uaa vaa]
 have hB:=zac hB bx1
 obtain ⟨g1,e1,i1⟩:=bx2.c3
 clear bx1 bx2 bz
 go_wp2_with fail
 generalize w.alloc (.cells #[.bool baa,.slice Baa maa daa,.slice Eaa uaa vaa] 33) = W1 at *
 (with_reducible refine (zaW (decide_eq_false H0.out) (zeu (r) baa Baa maa daa Eaa uaa vaa _ (HT.out _ hB) (HNaa.out _ hB) (szq HZaa (HNaa.out _ hB)))).mono ?_)
 rintro e wc2 ⟨rfl,hb⟩
 have hB:=zac hB hb
 have g1:=zad hb g1
 have e1:=zad hb e1
 have i1:=zad hb i1
 clear hb 
 go_wp2_with fail
 (with_reducible refine (zaW (decide_eq_false HW.out) (zbt (r) baa Baa maa daa Eaa uaa vaa _ (HT.out _ hB) (HNaa.out _ hB) (szq HZaa (HNaa.out _ hB)))).mono ?_)
 rintro e wc3 ⟨rfl,hb⟩
 have hB:=zac hB hb
 have g1:=zad hb g1
 have e1:=zad hb e1
 have i1:=zad hb i1
 clear hb 
 go_wp2_with fail
 (with_reducible refine (zaW (decide_eq_false HW.out) (zbt (r) baa Baa maa daa Eaa uaa vaa _ (HT.out _ hB) (HNaa.out _ hB) (szq HZaa (HNaa.out _ hB)))).mono ?_)
 rintro e wc4 ⟨rfl,hb⟩
 have hB:=zac hB hb
 have g1:=zad hb g1
 have e1:=zad hb e1
 have i1:=zad hb i1
 clear hb 
 go_wp2_with fail
 (with_reducible refine (zbr (v:=sg) (HSG.out) (zdR (r) baa Baa maa daa Eaa uaa vaa _ (HT.out _ hB) (HNaa.out _ hB) (szq HZaa (HNaa.out _ hB)))).mono ?_)
 rintro e wc5 ⟨rfl,hb⟩
 have hB:=zac hB hb
 have g1:=zad hb g1
 have e1:=zad hb e1
 have i1:=zad hb i1
 clear hb 
 go_wp2
 go_ret
 exact ⟨by first | rfl | simp,hB⟩
theorem zls (r : Rat) (baa : Bool) (Baa : oA9) (maa daa : Nat) (Eaa : oA9) (uaa vaa : Nat) (w : World) (hT : zam w) (haa : zaF w r baa Baa maa daa Eaa uaa vaa) (qaa : zbL maa uaa) (h0 : r ≠ 0) (h1 : r.den ≠ 1) (h2 : decide (0 < r.num) = false) :
  Calls Tryz.prog 43 #[.agg #[.bool baa,.slice Baa maa daa,.slice Eaa uaa vaa]] w (fun e w' => e = .returned (.int .u8 4) ∧ Below w.heap.size w w'):=by
 have HIC:=lh9 (zbh (T:=zam))
 have HT:=lh9 (fun w' (hb : Below w.heap.size w w') => hT.on hb)
 obtain ⟨K,hKe⟩ : ∃ K,67108864 = K:=⟨_,rfl⟩
 have hKK : K ≤ 67108864:=by omega
 have hK0 : 0 < K:=by omega
 have hK9 : 255 ≤ K:=by omega
 have ef1:=zaH
 have ef2:=zaJ
 have ef3:=zaM
 have ef4:=zaN
 have H0:=lh9 h0
 have HW:=lh9 h1
 obtain ⟨sg,hsg⟩ : ∃ s,zhS r = s:=⟨_,rfl⟩
 have HSG:=lh9 hsg
 have hd1 : decide (sg > 0) = false:=(zgR hsg).trans h2
 have hd2 : decide (0 < sg) = false:=hd1
 clear hsg
 have HNaa:=lh9 (fun w' (b : Below w.heap.size w w') => haa.below b)
 obtain ⟨xaa,hxaa,hxwaa⟩:=haa.2
 have HXaa:=lh9 hxaa
 have HZaa : Hid (SzQ K r):=zbu haa qaa hKe
 have HZaap : Hid (Sz K r.num.natAbs):=HZaa.out.num
 have HZaaq : Hid (Sz K xaa):=zaV HZaa.out.den hxaa
 have HNaap:=lh9 (fun w' (b : Below w.heap.size w w') => haa.1.below b)
 have HNaaq:=lh9 (fun w' (b : Below w.heap.size w w') => hxwaa.below b)
 clear haa qaa hxaa hxwaa
 clear hT hKe h0 h1 h2
 go_enter Tryz.func43,Tryz.ntmps43
 have hB:=Below.refl w.heap.size w
 obtain ⟨bx1,bx2,bz⟩:=zaz w 33 #[.bool baa,.slice Baa maa daa,.slice Eaa uaa vaa]
 have hB:=zac hB bx1
 obtain ⟨g1,e1,i1⟩:=bx2.c3
 clear bx1 bx2 bz
 go_wp2_with fail
 generalize w.alloc (.cells #[.bool baa,.slice Baa maa daa,.slice Eaa uaa vaa] 33) = W1 at *
 (with_reducible refine (zaW (decide_eq_false H0.out) (zeu (r) baa Baa maa daa Eaa uaa vaa _ (HT.out _ hB) (HNaa.out _ hB) (szq HZaa (HNaa.out _ hB)))).mono ?_)
 rintro e wc2 ⟨rfl,hb⟩
 have hB:=zac hB hb
 have g1:=zad hb g1
 have e1:=zad hb e1
 have i1:=zad hb i1
 clear hb 
 go_wp2_with fail
 (with_reducible refine (zaW (decide_eq_false HW.out) (zbt (r) baa Baa maa daa Eaa uaa vaa _ (HT.out _ hB) (HNaa.out _ hB) (szq HZaa (HNaa.out _ hB)))).mono ?_)
 rintro e wc3 ⟨rfl,hb⟩
 have hB:=zac hB hb
 have g1:=zad hb g1
 have e1:=zad hb e1
 have i1:=zad hb i1
 clear hb 
 go_wp2_with fail
 (with_reducible refine (zaW (decide_eq_false HW.out) (zbt (r) baa Baa maa daa Eaa uaa vaa _ (HT.out _ hB) (HNaa.out _ hB) (szq HZaa (HNaa.out _ hB)))).mono ?_)
 rintro e wc4 ⟨rfl,hb⟩
 have hB:=zac hB hb
 have g1:=zad hb g1
 have e1:=zad hb e1
 have i1:=zad hb i1
 clear hb 
 go_wp2_with fail
 (with_reducible refine (zbr (v:=sg) (HSG.out) (zdR (r) baa Baa maa daa Eaa uaa vaa _ (HT.out _ hB) (HNaa.out _ hB) (szq HZaa (HNaa.out _ hB)))).mono ?_)
 rintro e wc5 ⟨rfl,hb⟩
 have hB:=zac hB hb
 have g1:=zad hb g1
 have e1:=zad hb e1
 have i1:=zad hb i1
 clear hb 
 go_wp2
 go_ret
 exact ⟨by first | rfl | simp,hB⟩
theorem zcc (r : Rat) (baa : Bool) (Baa : oA9) (maa daa : Nat) (Eaa : oA9) (uaa vaa : Nat) (w : World) (hT : zam w) (haa : zaF w r baa Baa maa daa Eaa uaa vaa) (qaa : zbL maa uaa) :
  Calls Tryz.prog 43 #[.agg #[.bool baa,.slice Baa maa daa,.slice Eaa uaa vaa]] w (fun e w' => e = .returned (.int .u8 ((zbM r : Nat) : Int)) ∧ Below w.heap.size w w'):=by
 by_cases h0 : r = 0
 ·rw [show zbM r = 0 from by unfold zbM; rw [if_pos h0]]; exact zlo r baa Baa maa daa Eaa uaa vaa w hT haa qaa h0
 ·by_cases h1 : r.den = 1
  ·by_cases h2 : 0 < r.num
   ·rw [show zbM r = 1 from by unfold zbM; rw [if_neg h0,if_pos h1,if_pos h2]]; exact zlp r baa Baa maa daa Eaa uaa vaa w hT haa qaa h0 h1 (decide_eq_true h2)
   ·rw [show zbM r = 2 from by unfold zbM; rw [if_neg h0,if_pos h1,if_neg h2]]; exact zlq r baa Baa maa daa Eaa uaa vaa w hT haa qaa h0 h1 (decide_eq_false h2)
  ·by_cases h2 : 0 < r.num
   ·rw [show zbM r = 3 from by unfold zbM; rw [if_neg h0,if_neg h1,if_pos h2]]; exact zlr r baa Baa maa daa Eaa uaa vaa w hT haa qaa h0 h1 (decide_eq_true h2)
   ·rw [show zbM r = 4 from by unfold zbM; rw [if_neg h0,if_neg h1,if_neg h2]]; exact zls r baa Baa maa daa Eaa uaa vaa w hT haa qaa h0 h1 (decide_eq_false h2)
theorem zjF (l : List Nat) (k : Nat) (s : ByteArray) (Baa : oA9) (maa daa : Nat) (w : World) (hT : zam w) (haa : zaB w l Baa maa daa) (qaa : maa ≤ 2147483648) (hk : k ≤ maa) (he : zax l k ≠ 0) :
  Calls Tryz.prog 50 #[.slice Baa maa daa,.int .i64 (k : Int),.string s] w (zeY w (.spot (zax l k) s (k : Int))):=by
 have HIC:=lh9 (zbh (T:=zam))
 have HT:=lh9 (fun w' (hb : Below w.heap.size w w') => hT.on hb)
 obtain ⟨K,hKe⟩ : ∃ K,67108864 = K:=⟨_,rfl⟩
 have hKK : K ≤ 67108864:=by omega
 have hK0 : 0 < K:=by omega
 have hK9 : 255 ≤ K:=by omega
 have ef1:=zaH
 have ef2:=zaJ
 have ef3:=zaM
 have ef4:=zaN
 have HE:=lh9 he
 have HNaa:=lh9 (fun w' (b : Below w.heap.size w w') => haa.below b)
 have hlnaa:=haa.len
 have hcpaa:=haa.2.2
 clear haa
 have HKL : Hid (k ≤ l.length):=by show k ≤ _; omega
 clear hT hKe he
 go_enter Tryz.func50,Tryz.ntmps50
 have hB:=Below.refl w.heap.size w
 obtain ⟨B2,hsl2,hpr2⟩:=zis (n:=maa) (c:=daa) (k:=k) Baa hk
 have HN2:=lh9 (fun w' b => hpr2 w' l (HNaa.out w' b))
 clear hpr2
 obtain ⟨bx1,bx2,bz⟩:=zaz w 29 #[.slice none 0 0]
 have hB:=zac hB bx1
 have k1:=bx2
 clear bx1 bx2 bz
 go_wp2_with fail
 generalize w.alloc (.cells #[.slice none 0 0] 29) = W1 at *
 (with_reducible refine (lead_no l k B2 (maa - k) (daa - k) _ (HN2.out _ hB) (by omega) HKL.out HE.out).mono ?_)
 rintro e wc2 ⟨rfl,hb⟩
 have hB:=zac hB hb
 have k1:=zae hb k1
 clear hb 
 have HN5:=lh9 (zaQ wc2)
 have lt1_2 : w.heap.size < wc2.heap.size:=k1.lt
 have hq2:=hB.size
 obtain ⟨bx1,bx2,bz⟩:=zaz wc2 29 #[.slice none 0 0]
 have hB:=zac hB bx1
 have k1:=zae bx1 k1
 have HN5:=lh9 (HN5.out.below bx1)
 have g4:=bx2.c1
 clear bx1 bx2 bz
 go_wp2_with fail
 generalize wc2.alloc (.cells #[.slice none 0 0] 29) = W3 at *
 generalize wc2.heap.size = q3 at *
 (with_reducible refine (zdp ((zax l k)) s ((k : Int)) _).mono ?_)
 rintro e wc4 ⟨et6,ex6,rfl,hw6,hb⟩
 have hB:=zac hB hb
 have k1:=zae hb k1
 have HN5:=lh9 (HN5.out.below hb)
 have g4:=zad hb g4
 have HN6:=lh9 hw6
 clear hb hw6
 obtain ⟨sc0,sf0⟩:=st1 k1
 have r0:=(sn1 k1 (.slice none 0 0)).c1
 have HG:=lh9 (gp0 (HN6.out) k1 hB (by omega))
 go_wp2
 refine bodyPost_ret (v:=.tuple #[.agg #[.slice none 0 0],.int .i64 0,.iface et6 ex6]) (by simp [results,Tryz.results50,go_sem,r0]) rfl ?_
 exact HG.out
theorem zjf (l : List Nat) (k : Nat) (s : ByteArray) (Baa : oA9) (maa daa : Nat) (w : World) (hT : zam w) (haa : zaB w l Baa maa daa) (qaa : maa ≤ 2147483648) (hk : k ≤ maa) (he : zax l k = 0) :
  Calls Tryz.prog 50 #[.slice Baa maa daa,.int .i64 (k : Int),.string s] w (zgW w (zaj l k) (zat l k)):=by
 have HIC:=lh9 (zbh (T:=zam))
 have HT:=lh9 (fun w' (hb : Below w.heap.size w w') => hT.on hb)
 obtain ⟨K,hKe⟩ : ∃ K,67108864 = K:=⟨_,rfl⟩
 have hKK : K ≤ 67108864:=by omega
 have hK0 : 0 < K:=by omega
 have hK9 : 255 ≤ K:=by omega
 have ef1:=zaH
 have ef2:=zaJ
 have ef3:=zaM
 have ef4:=zaN
 have HE:=lh9 he
 obtain ⟨u,hu⟩ : ∃ u,1 + l.getD k 0 = u:=⟨_,rfl⟩
 have HU:=lh9 hu
 have HEND : Hid ((k : Int) + (u : Int) = ((zat l k : Nat) : Int)):=by show _ = _; unfold zat; omega
 have HNaa:=lh9 (fun w' (b : Below w.heap.size w w') => haa.below b)
 have hlnaa:=haa.len
 have hcpaa:=haa.2.2
 clear haa
 have HKL : Hid (k ≤ l.length):=by show k ≤ _; omega
 have hx256 : l.getD k 0 < 256:=HNaa.out w (Below.refl _ w) |>.2.1.getD (by decide) k
 have hu6 : u ≤ 256:=by omega
 clear hT hKe he hu hx256
 go_enter Tryz.func50,Tryz.ntmps50
 have hB:=Below.refl w.heap.size w
 obtain ⟨B2,hsl2,hpr2⟩:=zis (n:=maa) (c:=daa) (k:=k) Baa hk
 have HN2:=lh9 (fun w' b => hpr2 w' l (HNaa.out w' b))
 clear hpr2
 obtain ⟨bx1,bx2,bz⟩:=zaz w 29 #[.slice none 0 0]
 have hB:=zac hB bx1
 have k1:=bx2
 clear bx1 bx2 bz
 go_wp2_with fail
 generalize w.alloc (.cells #[.slice none 0 0] 29) = W1 at *
 (with_reducible refine (lead_yes l k B2 (maa - k) (daa - k) _ (HN2.out _ hB) (by omega) HKL.out HE.out u HU.out).mono ?_)
 rintro e wc2 ⟨B3,m3,d3,rfl,hw3,hb⟩
 have hB:=zac hB hb
 have k1:=zae hb k1
 have HN3:=lh9 hw3
 clear hb hw3
 have lt1_2 : w.heap.size < wc2.heap.size:=k1.lt
 have hq2:=hB.size
 obtain ⟨bx1,bx2,bz⟩:=zaz wc2 29 #[.slice B3 m3 d3]
 have hB:=zac hB bx1
 have k1:=zae bx1 k1
 have HN3:=lh9 (HN3.out.below bx1)
 have g4:=bx2.c1
 clear bx1 bx2 bz
 go_upto_region 4 with fail
 generalize wc2.alloc (.cells #[.slice B3 m3 d3] 29) = W3 at *
 generalize wc2.heap.size = q3 at *
 obtain ⟨sc0,sf0⟩:=st1 k1
 have r0:=(sn1 k1 (.slice B3 m3 d3)).c1
 have HG:=lh9 (gp1 (HN3.out) (HEND.out) k1 hB (by omega))
 go_wp2
 refine bodyPost_ret (v:=.tuple #[.agg #[.slice B3 m3 d3],.int .i64 ((k : Int) + (u : Int)),.nilIface]) (by simp [results,Tryz.results50,go_sem,r0]) rfl ?_
 exact HG.out
theorem zaO (l : List Nat) (k : Nat) (kz : Int) (s : ByteArray) (B : oA9) (m d : Nat) (w : World) (hT : zam w) (h : zaB w l B m d) (hn : m ≤ 2147483648) (hk : k ≤ m) (he : zax l k = 0) (hz : kz = (k : Int)) :
  Calls Tryz.prog 50 #[.slice B m d,.int .i64 kz,.string s] w (zgW w (zaj l k) (zat l k)):=by
 subst hz
 exact zjf l k s B m d w hT h hn hk he
theorem zcz (l : List Nat) (k : Nat) (kz : Int) (s : ByteArray) (B : oA9) (m d : Nat) (w : World) (hT : zam w) (h : zaB w l B m d) (hn : m ≤ 2147483648) (hk : k ≤ m) (he : zax l k ≠ 0) (hz : kz = (k : Int)) :
  Calls Tryz.prog 50 #[.slice B m d,.int .i64 kz,.string s] w (zeY w (.spot (zax l k) s kz)):=by
 subst hz
 exact zjF l k s B m d w hT h hn hk he
theorem zbq {w : World} {l : List Nat} {A : oA9} {n c k K : Nat} (h : zaB w l A n c) (hK : 255 ≤ K) : Sz K (zaj l k):=(valP_sz (n:=255) (fun d hd => h.2.1 d (List.mem_of_mem_drop (List.mem_of_mem_take hd))) (by rw [List.length_take]; have:=h.2.1.getD (by decide) k; omega)).up hK
theorem zdJ {s : List UInt8} {n : Nat} (hok : okR s = true) (h : s.length ≤ 16 * n) : Sz n (zaG s):=by
 have hd : Dgs 10 (s.map fun c => c.toNat - 48).reverse:=by
  intro d hd
  obtain ⟨c,hc,rfl⟩:=List.mem_map.1 (List.mem_reverse.1 hd)
  rw [zfm] at hok
  simp only [Bool.and_eq_true] at hok
  have:=List.all_eq_true.1 hok.2 c hc
  unfold zbm at this
  simp at this
  omega
 have h1:=zbQ hd
 rw [List.length_reverse,List.length_map] at h1
 refine Nat.lt_of_lt_of_le h1 (Nat.le_trans (Nat.pow_le_pow_right (by decide) h) ?_)
 rw [Nat.pow_mul]
 exact Nat.pow_le_pow_left (by decide) n
theorem own_z {z : Int} {d : Nat} (hd : d ≠ 0) : (Rat.divInt z ((d : Nat) : Int)).den = d ↔ Nat.gcd z.natAbs d = 1:=by
 rw [zer _ _ (by omega),Int.natAbs_natCast,Nat.div_eq_self]
 exact ⟨fun h => h.resolve_left hd,.inr⟩
theorem zpG (s : List UInt8) (w : World) (hT : zam w) (hs : s.length ≤ 1073741824) :
  Calls Tryz.prog 20 #[.string (zau s)] w (zcX w (zbT s)):=by
 have hh:=congrArg List.length (zaZ s)
 rw [List.length_append] at hh
 have ht : (zaw s).length ≤ 1073741824:=by unfold zaw; rw [List.length_drop]; omega
 have hzn : okI (zap s) = true → Sz 67108864 (zbB (zap s)).natAbs:=fun h => by
  rw [valI_abs]
  have h2 : okR (zbc (zap s)) = true:=by unfold okI at h; simp only [Bool.and_eq_true] at h; exact h.1
  refine zdJ h2 ?_
  have : (zbc (zap s)).length ≤ (zap s).length:=by unfold zbc; split <;> simp
  omega
 have hzd : okR (zaw s) = true → Sz 67108864 (zaG (zaw s)):=fun h => zdJ h (by omega)
 have hs2 : s.length ≤ 2147483648:=by omega
 unfold zbT
 by_cases hi : okI (zap s) = false
 ·rw [if_pos hi]; exact zmR s w hT hs2 hi
 have hi1 : okI (zap s) = true:=by simpa using hi
 rw [if_neg hi]
 by_cases hr : zba s = []
 ·rw [if_pos hr]; exact zmS s w hT hs2 hzn hi1 hr
 rw [if_neg hr]
 by_cases hd : okR (zaw s) = false
 ·rw [if_pos (.inl hd)]; exact zhF s w hT hs2 hzn hzd hi1 hr hd
 have hd1 : okR (zaw s) = true:=by simpa using hd
 by_cases hv : zaG (zaw s) = 0
 ·rw [if_pos (.inr hv)]; exact zmU s w hT hs2 hzn hzd hi1 hr hd1 hv
 rw [if_neg (fun h => h.elim hd hv)]
 have hG:=own_z (z:=zbB (zap s)) hv
 by_cases hg : Nat.gcd (zbB (zap s)).natAbs (zaG (zaw s)) = 1
 ·by_cases h1 : zaG (zaw s) = 1
  ·rw [if_pos (.inl h1)]
   exact zmQ s w hT hs2 hzn hzd hi1 hr hd1 hv (decide_eq_true (hG.2 hg)) ((hG.2 hg).trans h1)
  ·rw [if_neg (fun h => h.elim h1 (fun h => h hg))]
   exact zmT s w hT hs2 hzn hzd hi1 hr hd1 hv (decide_eq_true (hG.2 hg)) (fun h => h1 ((hG.2 hg).symm.trans h))
 ·rw [if_pos (.inr hg)]
  exact zmP s w hT hs2 hzn hzd hi1 hr hd1 hv (decide_eq_false (fun k => hg (hG.1 k)))
def atN (l : List Nat) : Nat:=if 3 ≤ l.getD 0 0 then zat l 1 else 1
def zhO (l : List Nat) : Nat:=if 3 ≤ l.getD 0 0 then zaj l 1 else 1
def badN (l : List Nat) : Bool:=decide (3 ≤ l.getD 0 0) && (decide (zhO l = 1) || !decide (Nat.gcd (zaj l (atN l)) (zhO l) = 1))
def sgnN (l : List Nat) : Bool:=decide (l.getD 0 0 = 2) || decide (l.getD 0 0 = 4)
section
variable {l : List Nat} (h0 : l ≠ []) (h4 : ¬ 4 < l.getD 0 0) (hz : l.getD 0 0 ≠ 0)
include h0 h4 hz
theorem dec_1 (h3 : 3 ≤ l.getD 0 0) (he : zax l 1 ≠ 0) : zdf l = (.spot (zax l 1) zef 1,0,0):=by
 unfold zdf
 rw [if_neg h0,if_neg h4,if_neg hz,if_neg (by omega),if_pos he]
theorem dec_2 (h1 : 3 ≤ l.getD 0 0 → zax l 1 = 0) (he : zax l (atN l) ≠ 0) : zdf l = (.spot (zax l (atN l)) zdF ((atN l : Nat) : Int),0,0):=by
 unfold zdf
 unfold atN at he ⊢
 rw [if_neg h0,if_neg h4,if_neg hz]
 by_cases h3 : 3 ≤ l.getD 0 0
 ·rw [if_pos h3] at he ⊢
  rw [if_neg (by omega),if_neg (fun h => h (h1 h3)),if_pos he]
 ·rw [if_neg h3] at he ⊢
  rw [if_pos (by omega),if_neg he]; rfl
theorem dec_3 (h1 : 3 ≤ l.getD 0 0 → zax l 1 = 0) (he : zax l (atN l) = 0) (hb : badN l = true) : zdf l = (.bare 91,0,0):=by
 unfold badN zhO at hb
 unfold atN at he hb
 simp only [Bool.and_eq_true,decide_eq_true_eq,Bool.or_eq_true,Bool.not_eq_true',decide_eq_false_iff_not] at hb
 obtain ⟨h3,hb⟩:=hb
 rw [if_pos h3] at he
 rw [if_pos h3,if_pos h3] at hb
 unfold zdf
 rw [if_neg h0,if_neg h4,if_neg hz,if_neg (by omega),if_neg (fun h => h (h1 h3)),if_neg (fun h => h he),if_pos hb]
theorem dec_4 (h1 : 3 ≤ l.getD 0 0 → zax l 1 = 0) (he : zax l (atN l) = 0) (hb : badN l = false) : zdf l = (.no,Rat.divInt (sg9 (sgnN l) (zaj l (atN l))) ((zhO l : Nat) : Int),zat l (atN l)):=by
 unfold badN at hb
 unfold sgnN zhO
 unfold zhO at hb
 unfold atN at he hb ⊢
 unfold zdf
 rw [if_neg h0,if_neg h4,if_neg hz]
 by_cases h3 : 3 ≤ l.getD 0 0
 ·rw [if_pos h3] at he
  rw [if_pos h3,if_pos h3,decide_eq_true h3,Bool.true_and,Bool.or_eq_false_iff] at hb
  have hb2 : Nat.gcd (zaj l (zat l 1)) (zaj l 1) = 1:=by simpa using hb.2
  have hb1:=of_decide_eq_false hb.1
  rw [if_neg (by omega),if_neg (fun h => h (h1 h3)),if_neg (fun h => h he),if_neg (fun h => h.elim hb1 (fun h => h hb2)),if_pos h3,if_pos h3,decide_eq_false (show ¬ l.getD 0 0 = 2 by omega),Bool.false_or]
 ·rw [if_neg h3] at he
  rw [if_pos (by omega),if_pos he,if_neg h3,if_neg h3,(zdc _).1,decide_eq_false (show ¬ l.getD 0 0 = 4 by omega),Bool.or_false]
end
theorem made_fin {s : Bool} {x d : Nat} (hd : d ≠ 0) (hg : Nat.gcd x d = 1) : (Rat.divInt (sg9 s x) ((d : Nat) : Int)).num = sgI s x ∧ (Rat.divInt (sg9 s x) ((d : Nat) : Int)).den = d:=by
 have h:=zdQ (sg9 s x) ((d : Nat) : Int) (by omega) (decide (sg9 s x < 0)) (by rw [decide_eq_false (show ¬ ((d : Nat) : Int) < 0 by omega)]; simp)
 rw [zbJ,Int.natAbs_natCast,hg,Nat.div_one,Nat.div_one] at h
 refine ⟨h.1.symm.trans ?_,h.2.symm⟩
 unfold sgI sg9
 cases s <;> by_cases hx : x = 0 <;> simp [hx] <;> omega
theorem zhj {l : List Nat} {k : Nat} (h : zax l k = 0) : zaj l k ≠ 0 ∧ zat l k ≤ l.length:=by
 unfold zax at h
 split at h
 ·cases h
 ·split at h
  ·rename_i h1 h2; exact ⟨h2.2,by unfold zat; omega⟩
  ·cases h
end Go.Proofs.YtfieheffipfahaaGreatDoor
