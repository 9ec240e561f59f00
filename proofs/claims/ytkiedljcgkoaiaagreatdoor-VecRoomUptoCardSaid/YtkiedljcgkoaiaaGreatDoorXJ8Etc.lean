/- What this claim leans on. -/
import Derived.Test.YtkiedljcgkoaiaaGreatDoorXS8Sum
import Derived.Test.YtkiedljcgkoaiaaGreatDoorXJ8Mul
import Derived.Test.YtkiedljcgkoaiaaGreatDoorXJ8Ord
namespace Go.Proofs.YtkiedljcgkoaiaaGreatDoor
open Go Go.RowKit
set_option maxHeartbeats 16000000
set_option maxRecDepth 100000
set_option linter.unusedVariables false
set_option linter.unusedSimpArgs false
theorem zfw (p : Int) (w : World) (hT : zaj w) (hp1 : -9223372036854775808 ≤ p) (hp2 : p ≤ 9223372036854775807) :
  Calls Tryz.prog 36 #[.int .i64 p] w (zaA w (p : Rat)):=by
 have HIC:=lh9 (zbl (T:=zaj))
 have HGC:=lh9 zbo
 have HT:=lh9 (fun w' (hb : Below w.heap.size w w') => hT.on hb)
 have HTB:=HT
 obtain ⟨K,hKe⟩ : ∃ K,67108864 = K:=⟨_,rfl⟩
 have hKK : K ≤ 67108864:=by omega
 have hK0 : 0 < K:=by omega
 clear hT hKe
 go_enter Tryz.func36,Tryz.ntmps36
 have hB:=Below.refl w.heap.size w
 obtain ⟨bx1,bx2,bz⟩:=zaG w 44 #[.bool false,.slice none 0 0,.slice none 0 0]
 have hB:=zaa hB bx1
 have k1:=bx2
 clear bx1 bx2 bz
 go_wp2_with fail
 generalize w.alloc (.cells #[.bool false,.slice none 0 0,.slice none 0 0] 44) = W1 at *
 have HZ2 : Hid (Sz (1) (p).natAbs):=(by show Int.natAbs p < 18446744073709551616 ^ 1; have e1 : -9223372036854775808 ≤ p:=hp1; have e2 : p ≤ 9223372036854775807:=hp2; omega)
 (with_reducible refine (HIC.out.of p _ (HT.out _ hB) hp1 hp2).mono ?_)
 rintro e wc2 ⟨b2,B2,m2,d2,rfl,hw2,hb⟩
 have hB:=zaa hB hb
 have k1:=zac hb k1
 have HN2:=lh9 hw2
 clear hb hw2
 obtain ⟨sc0,sf0,sc1,sf1,sc2,sf2⟩:=st3 k1 (.bool b2) (.slice B2 m2 d2)
 obtain ⟨r0,r1,r2⟩:=(sn3 k1 (.bool b2) (.slice B2 m2 d2) (.slice none 0 0)).c3
 have HG:=lh9 (gq3 (zdJ HN2.out) k1 hB (by omega))
 go_wp2
 refine bodyPost_ret (v:=.agg #[.bool b2,.slice B2 m2 d2,.slice none 0 0]) (by simp [results,Tryz.results36,go_sem,r0,r1,r2]) rfl ?_
 exact HG.out
section
variable {K K' : Nat} {x y : Rat} {b b' : Bool} {A A' : oA9} {n n' c c' : Nat} {E E' : oA9} {k k' f f' : Nat} {w : World}
theorem zin (hT : zaj w) (h : zak w x b A n c E k f) (h' : zak w y b' A' n' c' E' k' f') (z : SzQ K x) (z' : SzQ K' y) (hK : K ≤ 67108864:=by omega) (hK' : K' ≤ 67108864:=by omega) :
  Calls Tryz.prog 38 #[.agg #[.bool b,.slice A n c,.slice E k f],.agg #[.bool b',.slice A' n' c',.slice E' k' f']] w (zaA w (x + y)):=zfv x y b A n c E k f b' A' n' c' E' k' f' w hT h h' (z.fit h hK) (z'.fit h' hK')
theorem q_sub (hT : zaj w) (h : zak w x b A n c E k f) (h' : zak w y b' A' n' c' E' k' f') (z : SzQ K x) (z' : SzQ K' y) (hK : K ≤ 67108864:=by omega) (hK' : K' ≤ 67108864:=by omega) :
  Calls Tryz.prog 47 #[.agg #[.bool b,.slice A n c,.slice E k f],.agg #[.bool b',.slice A' n' c',.slice E' k' f']] w (zaA w (x - y)):=zke x y b A n c E k f b' A' n' c' E' k' f' w hT h h' (z.fit h hK) (z'.fit h' hK')
theorem q_mul (hT : zaj w) (h : zak w x b A n c E k f) (h' : zak w y b' A' n' c' E' k' f') (z : SzQ K x) (z' : SzQ K' y) (hK : K ≤ 67108864:=by omega) (hK' : K' ≤ 67108864:=by omega) :
  Calls Tryz.prog 45 #[.agg #[.bool b,.slice A n c,.slice E k f],.agg #[.bool b',.slice A' n' c',.slice E' k' f']] w (zaA w (x * y)):=rat_mul x y b A n c E k f b' A' n' c' E' k' f' w hT h h' (z.fit h hK) (z'.fit h' hK')
theorem q_cmp (hT : zaj w) (h : zak w x b A n c E k f) (h' : zak w y b' A' n' c' E' k' f') (z : SzQ K x) (z' : SzQ K' y) (hK : K ≤ 67108864:=by omega) (hK' : K' ≤ 67108864:=by omega) :
  Calls Tryz.prog 62 #[.agg #[.bool b,.slice A n c,.slice E k f],.agg #[.bool b',.slice A' n' c',.slice E' k' f']] w (zbp w (zbY x y)):=zka x y b A n c E k f b' A' n' c' E' k' f' w hT h h' (z.fit h hK) (z'.fit h' hK')
theorem zjo {t : Bool} (e : decide (x = y) = t) (hT : zaj w) (h : zak w x b A n c E k f) (h' : zak w y b' A' n' c' E' k' f') (z : SzQ K x) (z' : SzQ K' y) (hK : K ≤ 67108864:=by omega) (hK' : K' ≤ 67108864:=by omega) :
  Calls Tryz.prog 37 #[.agg #[.bool b,.slice A n c,.slice E k f],.agg #[.bool b',.slice A' n' c',.slice E' k' f']] w (fun e w' => e = .returned (.bool t) ∧ Below w.heap.size w w'):=zar e (zit x y b A n c E k f b' A' n' c' E' k' f' w hT h h' (z.fit h hK) (z'.fit h' hK'))
theorem zjp {t : Bool} (e : decide (x = 0) = t) (hT : zaj w) (h : zak w x b A n c E k f) (z : SzQ K x) (hK : K ≤ 67108864:=by omega) :
  Calls Tryz.prog 19 #[.agg #[.bool b,.slice A n c,.slice E k f]] w (fun e w' => e = .returned (.bool t) ∧ Below w.heap.size w w'):=zar e (zaF x b A n c E k f w hT h (z.fit h hK))
theorem q_sign {v : Int} (e : sgnQ x = v) (hT : zaj w) (h : zak w x b A n c E k f) (z : SzQ K x) (hK : K ≤ 67108864:=by omega) :
  Calls Tryz.prog 41 #[.agg #[.bool b,.slice A n c,.slice E k f]] w (fun e w' => e = .returned (.int .i64 v) ∧ Below w.heap.size w w'):=zbk e (zeI x b A n c E k f w hT h (z.fit h hK))
end
theorem en_add : ∀ (args : Array Value) (w' : World),Sem.run Tryz.prog (callFunc 38 args) w' = .ok (.enter 38 args) w':=Go.Proofs.enters_of Tryz.func38 (by kernel_rfl) rfl
theorem en_sub : ∀ (args : Array Value) (w' : World),Sem.run Tryz.prog (callFunc 47 args) w' = .ok (.enter 47 args) w':=Go.Proofs.enters_of Tryz.func47 (by kernel_rfl) rfl
theorem en_mul : ∀ (args : Array Value) (w' : World),Sem.run Tryz.prog (callFunc 45 args) w' = .ok (.enter 45 args) w':=Go.Proofs.enters_of Tryz.func45 (by kernel_rfl) rfl
theorem en_addt : ∀ (args : Array Value) (w' : World),Sem.run Tryz.prog (callFunc 48 args) w' = .ok (.enter 48 args) w':=Go.Proofs.enters_of Tryz.func48 (by kernel_rfl) rfl
theorem zaL.rats {w : World} {A : oA9} {n c : Nat} {xs : List Rat} (h : zaL w A n c xs) : zfD w A n c xs:=⟨h.len,h.fits,h.most,fun i hi => h.at_ hi 0⟩
theorem sum_is (rs : List Rat) : zfp rs = zds rs:=rfl
theorem q_sum {K n c : Nat} {A : oA9} {xs : List Rat} {w : World} (hT : zaj w) (h : zaL w A n c xs) (hx : zao K xs) (hn : n ≤ 1073741824) (hK : 1 + n * (K + 1) ≤ 67108864) :
  Calls Tryz.prog 46 #[.slice A n c] w (zaA w (zds xs)):=by
 have hl:=h.len
 have e:=sum_is xs
 rw [← e]
 refine rat_sum xs A n c (1 + n * (K + 1)) w hT h.rats hn hK (fun i hi => (hx.at_ (by omega)).up ?_) (fun k hk => ?_)
 ·have : K + 1 ≤ n * (K + 1):=Nat.le_mul_of_pos_left _ (by omega)
  omega
 ·rw [sum_is]
  exact take_sz hx hl k hk
theorem vec_lit1 {w : World} {g : Nat} {t : TypeId} {x : Rat} {b : Bool} {A : oA9} {n c : Nat} {E : oA9} {k f : Nat} (h : Blk w g t #[.bool b,.slice A n c,.slice E k f]) (hx : zak w x b A n c E k f) : zaL w (some ⟨g,0,none⟩) 1 1 [x] :=
 ⟨rfl,Nat.le_refl _,by decide,fun i y hi => by
  have h0 : i = 0:=by
   have:=(List.getElem?_eq_some_iff.1 hi).1
   simpa using this
  subst h0
  obtain rfl : x = y:=by simpa using hi
  exact ⟨_,b,A,n,c,E,k,f,rfl,h.lt,by rw [zaQ]; exact h.cell 0,by rw [zaQ]; exact h.cell 1,by rw [zaQ]; exact h.cell 2,hx⟩⟩
theorem zgt (v : Value) (A B : oA9) (n m c d : Nat) (w : World) (h : n ≠ m) :
  Calls Tryz.prog 44 #[.slice A n c,.slice B m d,v] w (zdL w):=by
 unfold zdL
 have hd0 : ((n : Int) != (m : Int)) = true:=by rw [bne_iff_ne]; omega
 clear h
 go_enter Tryz.func44,Tryz.ntmps44
 go_wp2
 go_ret2
 exact ⟨rfl,Below.refl _ _⟩
theorem zjC (A B : oA9) (n m c d : Nat) (w : World) (h : n ≠ m) :
  Calls Tryz.prog 14 #[.slice A n c,.slice B m d] w (zdL w):=by
 have H:=lh9 (zgt (.func (.func 38) #[] #[]) A B n m c d w h)
 clear h
 go_enter Tryz.func14,Tryz.ntmps14
 go_wp2_with fail
 refine H.out.mono ?_
 rintro e w1 ⟨rfl,hb⟩
 go_wp2
 go_ret2
 exact ⟨rfl,hb⟩
section
variable {K K' : Nat} {xs ys : List Rat} {A B : oA9} {n c d : Nat} {w : World}
theorem zhz (hT : zaj w) (ha : zaL w A n c xs) (hb : zaL w B n d ys) (hx : zao K xs) (hy : zao K' ys) (hn : n ≤ 1073741824:=by omega) (hK : K ≤ 67108864:=by omega) (hK' : K' ≤ 67108864:=by omega) :
  Calls Tryz.prog 14 #[.slice A n c,.slice B n d] w (zci w n (zcn xs ys)):=by
 have hla:=ha.len
 have hlb:=hb.len
 have H:=lh9 (zdk (fun x y => x + y) 38 #[] xs ys A B n c d w ha hb hn en_add (fun i hi w' hb' b b' A A' n n' c c' E E' k k' f f' h1 h2 => by
  rw [Array.append_empty]
  exact zin (hT.on hb') h1 h2 (hx.at_ (by omega)) (hy.at_ (by omega)) hK hK'))
 clear ha hb hx hy hT
 go_enter Tryz.func14,Tryz.ntmps14
 go_wp2_with fail
 refine H.out.mono ?_
 rintro e w1 ⟨g,rfl,h1,h2,h3⟩
 have HG:=lh9 (And.intro h1 (And.intro h2 h3))
 clear h1 h2 h3
 go_wp2
 go_ret2
 exact ⟨g,rfl,HG.out⟩
theorem vec_sub (hT : zaj w) (ha : zaL w A n c xs) (hb : zaL w B n d ys) (hx : zao K xs) (hy : zao K' ys) (hn : n ≤ 1073741824:=by omega) (hK : K ≤ 67108864:=by omega) (hK' : K' ≤ 67108864:=by omega) :
  Calls Tryz.prog 15 #[.slice A n c,.slice B n d] w (zci w n (subL xs ys)):=by
 have hla:=ha.len
 have hlb:=hb.len
 have H:=lh9 (zdk (fun x y => x - y) 47 #[] xs ys A B n c d w ha hb hn en_sub (fun i hi w' hb' b b' A A' n n' c c' E E' k k' f f' h1 h2 => by
  rw [Array.append_empty]
  exact q_sub (hT.on hb') h1 h2 (hx.at_ (by omega)) (hy.at_ (by omega)) hK hK'))
 clear ha hb hx hy hT
 go_enter Tryz.func15,Tryz.ntmps15
 go_wp2_with fail
 refine H.out.mono ?_
 rintro e w1 ⟨g,rfl,h1,h2,h3⟩
 have HG:=lh9 (And.intro h1 (And.intro h2 h3))
 clear h1 h2 h3
 go_wp2
 go_ret2
 exact ⟨g,rfl,HG.out⟩
end
theorem ratC {T : World → Prop} {M : Nat → Prop} (hTT : ∀ w,T w → zaj w) (h0 : M 0 → RatG0 T) (h1 : M 1 → RatG1 T) (h2 : M 2 → RatG2 T) : RatC T M where
 g0:=h0
 g1:=h1
 g2:=h2
 new p q b b' A D n m c d w hT hA hD hn hm h0:=zkd p q b A n c b' D m d w (hTT w hT) hA hD hn hm h0
 newNo p q b b' A D n m c d w hT hA hD hn hm h0:=zgd p q b A n c b' D m d w (hTT w hT) hA hD hn hm h0
 of p q w hT h1 h2 h3 h4 h0:=rat_of p q w (hTT w hT) h1 h2 h3 h4 h0
 ofNo p q w hT h1 h2 h0:=zkW p q w (hTT w hT) h1 h2 (by omega) (by omega) h0
 num r b A n c E k f w hT h hf:=rat_num r b A n c E k f w (hTT w hT) h hf
 den r b A n c E k f w hT h hf:=zkb r b A n c E k f w (hTT w hT) h hf
 sign r b A n c E k f w hT h hf:=zeI r b A n c E k f w (hTT w hT) h hf
 zero r b A n c E k f w hT h hf:=zaF r b A n c E k f w (hTT w hT) h hf
 isInt r b A n c E k f w hT h hf:=zaS r b A n c E k f w (hTT w hT) h hf
 bits r b A n c E k f w hT h hf:=rat_bits r b A n c E k f w (hTT w hT) h hf
 neg r b A n c E k f w hT h hf:=zkc r b A n c E k f w (hTT w hT) h hf
 add r s b b' A A' n n' c c' E E' k k' f f' w hT h h' hf hf':=zfv r s b A n c E k f b' A' n' c' E' k' f' w (hTT w hT) h h' hf hf'
 sub r s b b' A A' n n' c c' E E' k k' f f' w hT h h' hf hf':=zke r s b A n c E k f b' A' n' c' E' k' f' w (hTT w hT) h h' hf hf'
 cmp r s b b' A A' n n' c c' E E' k k' f f' w hT h h' hf hf':=zka r s b A n c E k f b' A' n' c' E' k' f' w (hTT w hT) h h' hf hf'
 same r s b b' A A' n n' c c' E E' k k' f f' w hT h h' hf hf':=zit r s b A n c E k f b' A' n' c' E' k' f' w (hTT w hT) h h' hf hf'
end Go.Proofs.YtkiedljcgkoaiaaGreatDoor
