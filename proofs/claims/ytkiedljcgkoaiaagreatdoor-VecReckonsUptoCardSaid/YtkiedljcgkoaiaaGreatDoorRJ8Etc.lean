/- What this claim leans on. -/
import Derived.Test.YtkiedljcgkoaiaaGreatDoorRS8Sum
import Derived.Test.YtkiedljcgkoaiaaGreatDoorRJ8Mul
import Derived.Test.YtkiedljcgkoaiaaGreatDoorRJ8Ord
namespace Go.Proofs.YtkiedljcgkoaiaaGreatDoor
open Go Go.RowKit
set_option maxHeartbeats 16000000
set_option maxRecDepth 100000
set_option linter.unusedVariables false
set_option linter.unusedSimpArgs false
theorem zmk (p : Int) (w : World) (hT : zan w) (hp1 : -9223372036854775808 ≤ p) (hp2 : p ≤ 9223372036854775807) :
  Calls Tryz.prog 36 #[.int .i64 p] w (zaK w (p : Rat)):=by
 have HIC:=lh9 (zbu (T:=zan))
 have HGC:=lh9 zbF
 have HT:=lh9 (fun w' (hb : Below w.heap.size w w') => hT.on hb)
 have HTB:=HT
 obtain ⟨K,hKe⟩ : ∃ K,67108864 = K:=⟨_,rfl⟩
 have hKK : K ≤ 67108864:=by omega
 have hK0 : 0 < K:=by omega
 clear hT hKe
 go_enter Tryz.func36,Tryz.ntmps36
 have hB:=Below.refl w.heap.size w
 obtain ⟨bx1,bx2,bz⟩:=zaL w 44 #[.bool false,.slice none 0 0,.slice none 0 0]
 have hB:=zac hB bx1
 have k1:=bx2
 clear bx1 bx2 bz
 go_wp2_with fail
 generalize w.alloc (.cells #[.bool false,.slice none 0 0,.slice none 0 0] 44) = W1 at *
 have HZ2 : Hid (Sz (1) (p).natAbs):=(by show Int.natAbs p < 18446744073709551616 ^ 1; have e1 : -9223372036854775808 ≤ p:=hp1; have e2 : p ≤ 9223372036854775807:=hp2; omega)
 (with_reducible refine (HIC.out.of p _ (HT.out _ hB) hp1 hp2).mono ?_)
 rintro e wc2 ⟨b2,B2,m2,d2,rfl,hw2,hb⟩
 have hB:=zac hB hb
 have k1:=zae hb k1
 have HN2:=lh9 hw2
 clear hb hw2
 obtain ⟨sc0,sf0,sc1,sf1,sc2,sf2⟩:=st3 k1 (.bool b2) (.slice B2 m2 d2)
 obtain ⟨r0,r1,r2⟩:=(sn3 k1 (.bool b2) (.slice B2 m2 d2) (.slice none 0 0)).c3
 have HG:=lh9 (gq3 (zeF HN2.out) k1 hB (by omega))
 go_wp2
 refine bodyPost_ret (v:=.agg #[.bool b2,.slice B2 m2 d2,.slice none 0 0]) (by simp [results,Tryz.results36,go_sem,r0,r1,r2]) rfl ?_
 exact HG.out
section
variable {K K' : Nat} {x y : Rat} {b b' : Bool} {A A' : oA9} {n n' c c' : Nat} {E E' : oA9} {k k' f f' : Nat} {w : World}
theorem q_add (hT : zan w) (h : zao w x b A n c E k f) (h' : zao w y b' A' n' c' E' k' f') (z : SzQ K x) (z' : SzQ K' y) (hK : K ≤ 67108864:=by omega) (hK' : K' ≤ 67108864:=by omega) :
  Calls Tryz.prog 38 #[.agg #[.bool b,.slice A n c,.slice E k f],.agg #[.bool b',.slice A' n' c',.slice E' k' f']] w (zaK w (x + y)):=zgv x y b A n c E k f b' A' n' c' E' k' f' w hT h h' (z.fit h hK) (z'.fit h' hK')
theorem q_sub (hT : zan w) (h : zao w x b A n c E k f) (h' : zao w y b' A' n' c' E' k' f') (z : SzQ K x) (z' : SzQ K' y) (hK : K ≤ 67108864:=by omega) (hK' : K' ≤ 67108864:=by omega) :
  Calls Tryz.prog 47 #[.agg #[.bool b,.slice A n c,.slice E k f],.agg #[.bool b',.slice A' n' c',.slice E' k' f']] w (zaK w (x - y)):=zmn x y b A n c E k f b' A' n' c' E' k' f' w hT h h' (z.fit h hK) (z'.fit h' hK')
theorem q_mul (hT : zan w) (h : zao w x b A n c E k f) (h' : zao w y b' A' n' c' E' k' f') (z : SzQ K x) (z' : SzQ K' y) (hK : K ≤ 67108864:=by omega) (hK' : K' ≤ 67108864:=by omega) :
  Calls Tryz.prog 45 #[.agg #[.bool b,.slice A n c,.slice E k f],.agg #[.bool b',.slice A' n' c',.slice E' k' f']] w (zaK w (x * y)):=rat_mul x y b A n c E k f b' A' n' c' E' k' f' w hT h h' (z.fit h hK) (z'.fit h' hK')
theorem q_cmp (hT : zan w) (h : zao w x b A n c E k f) (h' : zao w y b' A' n' c' E' k' f') (z : SzQ K x) (z' : SzQ K' y) (hK : K ≤ 67108864:=by omega) (hK' : K' ≤ 67108864:=by omega) :
  Calls Tryz.prog 62 #[.agg #[.bool b,.slice A n c,.slice E k f],.agg #[.bool b',.slice A' n' c',.slice E' k' f']] w (zbw w (zeX x y)):=zmi x y b A n c E k f b' A' n' c' E' k' f' w hT h h' (z.fit h hK) (z'.fit h' hK')
theorem q_same {t : Bool} (e : decide (x = y) = t) (hT : zan w) (h : zao w x b A n c E k f) (h' : zao w y b' A' n' c' E' k' f') (z : SzQ K x) (z' : SzQ K' y) (hK : K ≤ 67108864:=by omega) (hK' : K' ≤ 67108864:=by omega) :
  Calls Tryz.prog 37 #[.agg #[.bool b,.slice A n c,.slice E k f],.agg #[.bool b',.slice A' n' c',.slice E' k' f']] w (fun e w' => e = .returned (.bool t) ∧ Below w.heap.size w w'):=zaw e (zkt x y b A n c E k f b' A' n' c' E' k' f' w hT h h' (z.fit h hK) (z'.fit h' hK'))
theorem q_zero {t : Bool} (e : decide (x = 0) = t) (hT : zan w) (h : zao w x b A n c E k f) (z : SzQ K x) (hK : K ≤ 67108864:=by omega) :
  Calls Tryz.prog 19 #[.agg #[.bool b,.slice A n c,.slice E k f]] w (fun e w' => e = .returned (.bool t) ∧ Below w.heap.size w w'):=zaw e (zaU x b A n c E k f w hT h (z.fit h hK))
end
theorem en_add : ∀ (args : Array Value) (w' : World),Sem.run Tryz.prog (callFunc 38 args) w' = .ok (.enter 38 args) w':=Go.Proofs.enters_of Tryz.func38 (by kernel_rfl) rfl
theorem en_sub : ∀ (args : Array Value) (w' : World),Sem.run Tryz.prog (callFunc 47 args) w' = .ok (.enter 47 args) w':=Go.Proofs.enters_of Tryz.func47 (by kernel_rfl) rfl
theorem en_mul : ∀ (args : Array Value) (w' : World),Sem.run Tryz.prog (callFunc 45 args) w' = .ok (.enter 45 args) w':=Go.Proofs.enters_of Tryz.func45 (by kernel_rfl) rfl
theorem en_addt : ∀ (args : Array Value) (w' : World),Sem.run Tryz.prog (callFunc 48 args) w' = .ok (.enter 48 args) w':=Go.Proofs.enters_of Tryz.func48 (by kernel_rfl) rfl
theorem zbk.rats {w : World} {A : oA9} {n c : Nat} {xs : List Rat} (h : zbk w A n c xs) : zgB w A n c xs:=⟨h.len,h.fits,h.most,fun i hi => h.at_ hi 0⟩
theorem zjk (rs : List Rat) : zgn rs = zcH rs:=rfl
theorem q_sum {K n c : Nat} {A : oA9} {xs : List Rat} {w : World} (hT : zan w) (h : zbk w A n c xs) (hx : zax K xs) (hn : n ≤ 1073741824) (hK : 1 + n * (K + 1) ≤ 67108864) :
  Calls Tryz.prog 46 #[.slice A n c] w (zaK w (zcH xs)):=by
 have hl:=h.len
 have e:=zjk xs
 rw [← e]
 refine rat_sum xs A n c (1 + n * (K + 1)) w hT h.rats hn hK (fun i hi => (hx.at_ (by omega)).up ?_) (fun k hk => ?_)
 ·have : K + 1 ≤ n * (K + 1):=Nat.le_mul_of_pos_left _ (by omega)
  omega
 ·rw [zjk]
  exact zms hx hl k hk
theorem zif (z : Int) (w : World) : Calls Tryz.prog 97 #[.int .i64 z] w (fun e w' => e = .returned (.bool false) ∧ w = w'):=by
 have h1 : (z != z) = false:=by simp
 go_enter Tryz.func97,Tryz.ntmps97
 go_wp2
 go_ret
 exact ⟨rfl,rfl⟩
theorem zjC (n m : Nat) (w : World) : Calls Tryz.prog 63 #[.int .i64 (n : Int),.int .i64 (m : Int)] w (fun e w' => e = .returned (.int .i64 (cmpN n m)) ∧ w = w'):=by
 have H1:=lh9 (zif (n : Int) w)
 have H2:=lh9 (zif (m : Int) w)
 unfold cmpN
 by_cases h1 : n < m
 ·have hd : decide ((n : Int) < (m : Int)) = true:=decide_eq_true (by omega)
  have hd' : decide (n < m) = true:=decide_eq_true (by omega)
  rw [if_pos h1]
  go_enter Tryz.func63,Tryz.ntmps63
  go_wp2_with fail
  refine H1.out.mono ?_
  rintro e w1 ⟨rfl,rfl⟩
  go_wp2_with fail
  refine H2.out.mono ?_
  rintro e w1 ⟨rfl,rfl⟩
  go_wp2
  go_ret
  exact ⟨rfl,rfl⟩
 ·have hd : decide ((n : Int) < (m : Int)) = false:=decide_eq_false (by omega)
  have hd' : decide (n < m) = false:=decide_eq_false (by omega)
  rw [if_neg h1]
  by_cases h2 : n = m
  ·rw [if_pos h2]
   have hd2 : decide ((m : Int) < (n : Int)) = false:=decide_eq_false (by omega)
   have hd3 : decide ((n : Int) > (m : Int)) = false:=decide_eq_false (by omega)
   have hd4 : decide (m < n) = false:=decide_eq_false (by omega)
   clear h1 h2
   go_enter Tryz.func63,Tryz.ntmps63
   go_wp2_with fail
   refine H1.out.mono ?_
   rintro e w1 ⟨rfl,rfl⟩
   go_wp2_with fail
   refine H2.out.mono ?_
   rintro e w1 ⟨rfl,rfl⟩
   go_wp2
   go_ret
   exact ⟨rfl,rfl⟩
  ·rw [if_neg h2]
   have hd2 : decide ((m : Int) < (n : Int)) = true:=decide_eq_true (by omega)
   have hd3 : decide ((n : Int) > (m : Int)) = true:=decide_eq_true (by omega)
   have hd4 : decide (m < n) = true:=decide_eq_true (by omega)
   clear h1 h2
   go_enter Tryz.func63,Tryz.ntmps63
   go_wp2_with fail
   refine H1.out.mono ?_
   rintro e w1 ⟨rfl,rfl⟩
   go_wp2_with fail
   refine H2.out.mono ?_
   rintro e w1 ⟨rfl,rfl⟩
   go_wp2
   go_ret
   exact ⟨rfl,rfl⟩
section
variable {K K' : Nat} {xs ys : List Rat} {A B : oA9} {n n' c d : Nat} {w : World}
theorem ziw {z : Int} (hz : zdP xs ys = z) (hT : zan w) (ha : zbk w A n c xs) (hb : zbk w B n' d ys) (hx : zax K xs) (hy : zax K' ys) (hn : n ≤ 1073741824:=by omega) (hn' : n' ≤ 1073741824:=by omega) (hK : K ≤ 67108864:=by omega) (hK' : K' ≤ 67108864:=by omega) :
  Calls Tryz.prog 27 #[.slice A n c,.slice B n' d] w (zbw w z):=by
 have hla:=ha.len
 have hlb:=hb.len
 have HLA:=lh9 hla
 have HLB:=lh9 hlb
 have HZ:=lh9 hz
 have HSX : Hid (∀ i,i < n → SzQ K (xs.getD i 0)):=fun i hi => hx.at_ (by omega)
 have HSY : Hid (∀ i,i < n' → SzQ K' (ys.getD i 0)):=fun i hi => hy.at_ (by omega)
 unfold zbw
 have HA:=lh9 ha
 have HB9:=lh9 hb
 have HT:=lh9 (fun w' (hb : Below w.heap.size w w') => hT.on hb)
 clear hT ha hb hx hy hla hlb hz
 have hB:=Below.refl w.heap.size w
 have i0 : (0 : Int) ≤ (n : Int):=by omega
 obtain ⟨N,hN⟩ : ∃ N,min n n' = N:=⟨_,rfl⟩
 have hNn : N ≤ n:=by omega
 have hNm : N ≤ n':=by omega
 have HN:=lh9 hN
 have hmn1 : min (n : Int) (n' : Int) = (N : Int):=by omega
 have hmn2 : (if (n' : Int) < (n : Int) then (n' : Int) else (n : Int)) = (N : Int):=by split <;> omega
 have hmn3 : (if n' < n then (n' : Int) else (n : Int)) = (N : Int):=by split <;> omega
 clear hN
 go_enter Tryz.func27,Tryz.ntmps27
 go_wp2_with fail
 clear hmn1 hmn2 hmn3
 go_loopg [11] (N + 1) (fun g ix wr => ∃ (k : Nat),k ≤ N ∧ N < g + k ∧ ix = .int .i64 k ∧ Hid (zdP (xs.drop k) (ys.drop k) = z) ∧ Below w.heap.size w wr)
 case atStart => exact ⟨0,Nat.zero_le _,by omega,rfl,HZ,hB⟩
 case round =>
  clear hB
  obtain ⟨k,hkn,hg,rfl,hz0,hB⟩:=hrel
  by_cases hlt : k < N
  ·have hltn : k < n:=by omega
   have hltm : k < n':=by omega
   obtain ⟨ad,b1,B1,m1,d1,E1,u1,v1,rfl,-,hc0,hc1,hc2,hx⟩:=HA.out.get hB hltn
   obtain ⟨ae,b2,B2,m2,d2,E2,u2,v2,rfl,-,he0,he1,he2,hy⟩:=HB9.out.get hB hltm
   have hd1 : decide ((k : Int) < (N : Int)) = true:=decide_eq_true (by omega)
   have i1 : (0 : Int) ≤ (k : Int):=by omega
   have i2 : (k : Int) < (n : Int):=by omega
   have i3 : (k : Int) < (n' : Int):=by omega
   have HX:=lh9 hx
   have HY:=lh9 hy
   have HB1:=lh9 hB
   have hlx : k < xs.length:=by have:=HLA.out; omega
   have hly : k < ys.length:=by have:=HLB.out; omega
   clear hx hy hB
   by_cases h0 : xs.getD k 0 = ys.getD k 0
   ·have HQ:=lh9 (decide_eq_true h0)
    have HZ1 : Hid (zdP (xs.drop (k + 1)) (ys.drop (k + 1)) = z):=by
     show _ = _
     rw [← zgI hlx hly h0]; exact hz0.out
    clear h0 hlx hly
    go_wp2_with fail
    have hBw:=(Below.refl wr.heap.size wr).drew
    refine rg (csc hc0 (csc hc1 (csc hc2 (csc he0 (csc he1 (csc he2 csn)))))) (fun hHeld => ?_)
    refine tk 0 ?_
    refine tk 1 ?_
    refine tk 2 ?_
    refine tk 3 ?_
    refine tk 4 ?_
    refine tk 5 ?_
    refine tk 6 ?_
    refine tk 7 ?_
    refine rc 8 (fun KK hK9 => ?_)
    go_simp
    (with_reducible refine (q_same HQ.out (HT.out _ (zac HB1.out hBw)) (HX.out.below hBw) (HY.out.below hBw) (HSX.out k hltn) (HSY.out k hltm) hK hK').mono ?_); rintro e wa ⟨rfl,hb⟩; have hBw:=zac hBw hb; refine hK9.out _ _ (Cs.below hHeld hb) (fun hHeld => ?_); clear hK9 KK hb
    refine tk 9 ?_
    refine rdn ?_
    have HB2:=lh9 (zac HB1.out hBw)
    clear hHeld hBw hc0 hc1 hc2 he0 he1 he2 HX HY HB1
    go_wp2
    go_roundg (N - k)
    case measure => omega
    case rel => exact ⟨k + 1,by omega,by omega,by go_num,HZ1,HB2.out⟩
   ·have HQ:=lh9 (decide_eq_false h0)
    have HF : Hid (zeX (xs.getD k 0) (ys.getD k 0) = z):=by
     show _ = _
     rw [← zgk hlx hly h0]; exact hz0.out
    clear h0 hlx hly
    go_wp2_with fail
    have hBw:=(Below.refl wr.heap.size wr).drew
    refine rg (csc hc0 (csc hc1 (csc hc2 (csc he0 (csc he1 (csc he2 csn)))))) (fun hHeld => ?_)
    refine tk 0 ?_
    refine tk 1 ?_
    refine tk 2 ?_
    refine tk 3 ?_
    refine tk 4 ?_
    refine tk 5 ?_
    refine tk 6 ?_
    refine tk 7 ?_
    refine rc 8 (fun KK hK9 => ?_)
    go_simp
    (with_reducible refine (q_same HQ.out (HT.out _ (zac HB1.out hBw)) (HX.out.below hBw) (HY.out.below hBw) (HSX.out k hltn) (HSY.out k hltm) hK hK').mono ?_); rintro e wa ⟨rfl,hb⟩; have hBw:=zac hBw hb; refine hK9.out _ _ (Cs.below hHeld hb) (fun hHeld => ?_); clear hK9 KK hb
    refine tk 9 ?_
    refine rdn ?_
    have HB2:=lh9 (zac HB1.out hBw)
    have HX2:=lh9 (HX.out.below hBw)
    have HY2:=lh9 (HY.out.below hBw)
    obtain ⟨c0,c1,c2,e0,e1,e2,-⟩:=hHeld
    clear hBw hc0 hc1 hc2 he0 he1 he2 HX HY HB1
    go_wp2_with fail
    have hBw:=(Below.refl wa.heap.size wa).drew
    refine rg (csc c0 (csc c1 (csc c2 (csc e0 (csc e1 (csc e2 csn)))))) (fun hHeld => ?_)
    refine tk 0 ?_
    refine tk 1 ?_
    refine tk 2 ?_
    refine tk 3 ?_
    refine tk 4 ?_
    refine tk 5 ?_
    refine tk 6 ?_
    refine tk 7 ?_
    refine rc 8 (fun KK hK9 => ?_)
    go_simp
    (with_reducible refine (zbp HF.out (q_cmp (HT.out _ (zac HB2.out hBw)) (HX2.out.below hBw) (HY2.out.below hBw) (HSX.out k hltn) (HSY.out k hltm) hK hK')).mono ?_); rintro e wb ⟨rfl,hb⟩; have hBw:=zac hBw hb; refine hK9.out _ _ (Cs.below hHeld hb) (fun hHeld => ?_); clear hK9 KK hb
    refine tk 9 ?_
    refine rdn ?_
    have HB3:=lh9 (zac HB2.out hBw)
    clear hHeld hBw c0 c1 c2 e0 e1 e2
    go_wp2
    go_ret
    exact ⟨rfl,HB3.out⟩
  ·have hk : k = N:=by omega
   subst hk
   have hd1 : decide ((k : Int) < (k : Int)) = false:=by simp
   have HF : Hid (cmpN n n' = z):=by
    have h1:=HLA.out
    have h2:=HLB.out
    have h3:=HN.out
    have h4:=hz0.out
    rw [cmpV_end (by rw [h1,h2]; exact h3.symm),h1,h2] at h4
    exact h4
   have HB2:=lh9 hB
   have H1:=lh9 (zjC n n' wr)
   rw [HF.out] at H1
   clear hB
   go_wp2_with fail
   refine H1.out.mono ?_
   rintro e w1 ⟨rfl,rfl⟩
   go_wp2
   go_ret
   exact ⟨rfl,HB2.out⟩
theorem zlH {t : Bool} (e : decide (xs = ys) = t) (hT : zan w) (ha : zbk w A n c xs) (hb : zbk w B n' d ys) (hx : zax K xs) (hy : zax K' ys) (hn : n ≤ 1073741824:=by omega) (hn' : n' ≤ 1073741824:=by omega) (hK : K ≤ 67108864:=by omega) (hK' : K' ≤ 67108864:=by omega) :
  Calls Tryz.prog 28 #[.slice A n c,.slice B n' d] w (fun e w' => e = .returned (.bool t) ∧ Below w.heap.size w w'):=by
 obtain ⟨z,hz⟩ : ∃ z,zdP xs ys = z:=⟨_,rfl⟩
 have H:=lh9 (ziw hz hT ha hb hx hy hn hn' hK hK')
 have ht : (z == 0) = t:=by
  rw [← e,← hz]
  by_cases h : xs = ys
  ·rw [decide_eq_true h,(ziK xs ys).2 h]; rfl
  ·rw [decide_eq_false h,beq_eq_false_iff_ne]
   exact fun h9 => h ((ziK xs ys).1 h9)
 clear hz hT ha hb hx hy e
 have HE:=lh9 ht
 clear ht
 go_enter Tryz.func28,Tryz.ntmps28
 go_wp2_with fail
 refine H.out.mono ?_
 rintro e w1 ⟨rfl,hb⟩
 go_wp2
 go_ret
 exact ⟨by rw [← HE.out]; rfl,hb⟩
end
theorem ratC {T : World → Prop} {M : Nat → Prop} (hTT : ∀ w,T w → zan w) (h0 : M 0 → RatG0 T) (h1 : M 1 → RatG1 T) (h2 : M 2 → RatG2 T) : RatC T M where
 g0:=h0
 g1:=h1
 g2:=h2
 new p q b b' A D n m c d w hT hA hD hn hm h0:=zmm p q b A n c b' D m d w (hTT w hT) hA hD hn hm h0
 newNo p q b b' A D n m c d w hT hA hD hn hm h0:=zhk p q b A n c b' D m d w (hTT w hT) hA hD hn hm h0
 of p q w hT h1 h2 h3 h4 h0:=rat_of p q w (hTT w hT) h1 h2 h3 h4 h0
 ofNo p q w hT h1 h2 h0:=znk p q w (hTT w hT) h1 h2 (by omega) (by omega) h0
 num r b A n c E k f w hT h hf:=rat_num r b A n c E k f w (hTT w hT) h hf
 den r b A n c E k f w hT h hf:=zmj r b A n c E k f w (hTT w hT) h hf
 sign r b A n c E k f w hT h hf:=zhl r b A n c E k f w (hTT w hT) h hf
 zero r b A n c E k f w hT h hf:=zaU r b A n c E k f w (hTT w hT) h hf
 isInt r b A n c E k f w hT h hf:=zbj r b A n c E k f w (hTT w hT) h hf
 bits r b A n c E k f w hT h hf:=rat_bits r b A n c E k f w (hTT w hT) h hf
 neg r b A n c E k f w hT h hf:=zml r b A n c E k f w (hTT w hT) h hf
 add r s b b' A A' n n' c c' E E' k k' f f' w hT h h' hf hf':=zgv r s b A n c E k f b' A' n' c' E' k' f' w (hTT w hT) h h' hf hf'
 sub r s b b' A A' n n' c c' E E' k k' f f' w hT h h' hf hf':=zmn r s b A n c E k f b' A' n' c' E' k' f' w (hTT w hT) h h' hf hf'
 cmp r s b b' A A' n n' c c' E E' k k' f f' w hT h h' hf hf':=zmi r s b A n c E k f b' A' n' c' E' k' f' w (hTT w hT) h h' hf hf'
 same r s b b' A A' n n' c c' E E' k k' f f' w hT h h' hf hf':=zkt r s b A n c E k f b' A' n' c' E' k' f' w (hTT w hT) h h' hf hf'
end Go.Proofs.YtkiedljcgkoaiaaGreatDoor
