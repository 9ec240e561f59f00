/- What this claim leans on. -/
import Derived.Test.YtkiedljcgkoaiaaGreatDoorTJ8Add
import Derived.Test.YtkiedljcgkoaiaaGreatDoorTJ8Mul
import Derived.Test.YtkiedljcgkoaiaaGreatDoorTJ8Ord
namespace Go.Proofs.YtkiedljcgkoaiaaGreatDoor
open Go Go.RowKit
set_option maxHeartbeats 16000000
set_option maxRecDepth 100000
set_option linter.unusedVariables false
set_option linter.unusedSimpArgs false
structure zgW (w : World) (A : oA9) (n c : Nat) (rs : List Rat) : Prop where
 len : rs.length = n
 fits : n ≤ c
 most : c ≤ 9223372036854775807
 num : ∀ i,i < n → ∃ (ad : Addr) (b : Bool) (B : oA9) (m d : Nat) (E : oA9) (u v : Nat),A = some ad ∧ ad.block < w.heap.size ∧ w.cell? (ad.add (i * 3)) = some (.bool b) ∧ w.cell? (ad.add (i * 3 + 1)) = some (.slice B m d) ∧ w.cell? (ad.add (i * 3 + 2)) = some (.slice E u v) ∧ zan w (rs.getD i 0) b B m d E u v
theorem zgW.below {w w' : World} {A : oA9} {n c : Nat} {rs : List Rat} (h : zgW w A n c rs) (hb : Below w.heap.size w w') : zgW w' A n c rs :=
 ⟨h.len,h.fits,h.most,fun i hi => by
  obtain ⟨ad,b,B,m,d,E,u,v,e,h1,h2,h3,h4,h5⟩:=h.num i hi
  exact ⟨ad,b,B,m,d,E,u,v,e,Nat.lt_of_lt_of_le h1 hb.size,zad hb h2,zad hb h3,zad hb h4,h5.below hb⟩⟩
def zgJ (rs : List Rat) : Rat:=rs.foldl (fun a b => a + b) 0
theorem znF (rs : List Rat) (r : Rat) : zgJ (rs ++ [r]) = zgJ rs + r:=by unfold zgJ; rw [List.foldl_append]; rfl
theorem znG (rs : List Rat) (k : Nat) (h : k < rs.length) : zgJ (rs.take (k + 1)) = zgJ (rs.take k) + rs.getD k 0:=by
 rw [List.take_succ_eq_append_getElem h,znF,List.getD_eq_getElem?_getD,List.getElem?_eq_getElem h]
 rfl
theorem zlB {w : World} {r : Rat} {b : Bool} {A E : oA9} {n c k f g : Nat} {t : TypeId} {p : Bool} {q q2 : oA9} {r1 s r2 s2 : Nat} (h : zan w r b A n c E k f) (kd : Blk w g t #[.bool p,.slice q r1 s,.slice q2 r2 s2]) (x y z : Value) :
  zan (((w.setCell ⟨g,0,none⟩ x).setCell ⟨g,1,none⟩ y).setCell ⟨g,2,none⟩ z) r b A n c E k f:=zhl h kd (NoU.s3 _ _ _ _ _ _ _) (off3 _ _ _ _ _)
theorem blk_far3 {w : World} {g g' : Nat} {t : TypeId} {cs : Array Value} (h : Blk w g t cs) (hne : g ≠ g') (x y z : Value) : Blk (((w.setCell ⟨g',0,none⟩ x).setCell ⟨g',1,none⟩ y).setCell ⟨g',2,none⟩ z) g t cs:=((h.far (p:=⟨g',0,none⟩) hne x).far (p:=⟨g',1,none⟩) hne y).far (p:=⟨g',2,none⟩) hne z
theorem cell_q1 {w : World} {ad : Addr} {k : Nat} {v : Value} (h : w.cell? (ad.add (k + 1)) = some v) : w.cell? ⟨(ad.add k).block,(ad.add k).off + 1,none⟩ = some v:=by
 rw [← Go.Deep.add_add] at h
 exact h
theorem cell_q2 {w : World} {ad : Addr} {k : Nat} {v : Value} (h : w.cell? (ad.add (k + 2)) = some v) : w.cell? ⟨(ad.add k).block,(ad.add k).off + 2,none⟩ = some v:=by
 rw [← Go.Deep.add_add] at h
 exact h
theorem rat_sum (rs : List Rat) (A : oA9) (n c K : Nat) (w : World) (hT : zam w) (h : zgW w A n c rs) (hn : n ≤ 1073741824) (hK : K ≤ 67108864) (he : ∀ i,i < n → SzQ K (rs.getD i 0)) (hs : ∀ k,k ≤ n → SzQ K (zgJ (rs.take k))) :
  Calls Tryz.prog 46 #[.slice A n c] w (zaM w (zgJ rs)):=by
 have HTB:=lh9 (fun w' (h : Below w.heap.size w w') => hT.on h)
 have HN:=lh9 (fun w' (hb : Below w.heap.size w w') => h.below hb)
 have HS:=lh9 hs
 have HE:=lh9 he
 have HSU:=lh9 (fun k (hk : k < n) => znG rs k (by rw [h.len]; exact hk))
 have HF : Hid (zgJ (rs.take n) = zgJ rs):=by
  show _ = _
  rw [List.take_of_length_le (by rw [h.len]; exact Nat.le_refl _)]
 clear h hs he hT
 go_enter Tryz.func46,Tryz.ntmps46
 go_wp2_with fail
 obtain ⟨hB,hk1,hp,b5⟩:=zbx w 44 44 #[.bool false,.slice none 0 0,.slice none 0 0] #[.bool false,.slice none 0 0,.slice none 0 0]
 generalize hV : (w.alloc (.cells #[.bool false,.slice none 0 0,.slice none 0 0] 44)).alloc (.cells #[.bool false,.slice none 0 0,.slice none 0 0] 44) = V1 at *
 clear hV b5
 obtain ⟨gp,hgp⟩ : ∃ g,w.heap.size + 1 = g:=⟨_,rfl⟩
 rw [hgp] at hp ⊢
 have hgw : w.heap.size < gp:=by omega
 go_loopg [9] (n + 1) (fun g ix wr => ∃ (k : Nat) (b : Bool) (Ap : oA9) (np cp : Nat) (Ep : oA9) (kp fp : Nat),k ≤ n ∧ n < g + k ∧ ix = .int .i64 k ∧ zan wr (zgJ (rs.take k)) b Ap np cp Ep kp fp ∧ Blk wr gp 44 #[.bool b,.slice Ap np cp,.slice Ep kp fp] ∧ Below w.heap.size w wr ∧ Blk wr w.heap.size 44 #[.bool false,.slice none 0 0,.slice none 0 0])
 case atStart => exact ⟨0,false,none,0,0,none,0,0,Nat.zero_le _,by omega,rfl,zgB _,hp,hB,hk1⟩
 case round =>
  clear hp hB hk1 hgp
  obtain ⟨k,b,Ap,np,cp,Ep,kp,fp,hkn,hg,rfl,hw,hp,hB,hk1⟩:=hrel
  by_cases hlt : k < n
  ·obtain ⟨ad,b1,B1,m1,d1,E1,u1,v1,rfl,hadb,hc0,hc1,hc2,hx⟩:=(HN.out _ hB).num k hlt
   have HM:=lh9 (fun w' (hb : Below wr.heap.size wr w') => zgQ (zgJ (rs.take k)) (rs.getD k 0) b Ap np cp Ep kp fp b1 B1 m1 d1 E1 u1 v1 w' (HTB.out _ (zac hB hb)) (hw.below hb) (hx.below hb) (SzQ.fit (HS.out k hkn) hw hK) (SzQ.fit (HE.out k hlt) hx hK))
   have hc1:=cell_q1 hc1
   have hc2:=cell_q2 hc2
   have i1 : (0 : Int) ≤ (k : Int):=by omega
   have i2 : (k : Int) < (n : Int):=by omega
   obtain ⟨p0,p1,p2⟩:=hp.c3
   obtain ⟨st,d2,d3⟩:=zaR wr 44 #[.bool b1,.slice B1 m1 d1,.slice E1 u1 v1]
   obtain ⟨q0,q1,q2⟩:=d2.c3
   have p3:=zad st p0
   have p4:=zad st p1
   have p5:=zad st p2
   have HM2:=lh9 (HM.out _ st)
   have HB1:=lh9 (zac hB st)
   have HP1:=lh9 (zae st hp)
   have HK2:=lh9 (zae st hk1)
   clear hw hx hB hp hk1 HM st d2 d3
   go_wp2_with fail
   refine HM2.out.mono ?_
   rintro e w3 ⟨b3,A3,n3,c3,E3,k3,f3,rfl,hw3,hb⟩
   rw [← HSU.out k hlt] at hw3
   have hB3:=zac HB1.out hb
   have hp3:=zae hb HP1.out
   have hk3:=zae hb HK2.out
   obtain ⟨sc0,sf0,sc1,sf1,sc2,sf2⟩:=st3 hp3 (.bool b3) (.slice A3 n3 c3)
   have hw4:=zlB hw3 hp3 (.bool b3) (.slice A3 n3 c3) (.slice E3 k3 f3)
   have hB4:=bl3 (.bool b3) (.slice A3 n3 c3) (.slice E3 k3 f3) (by show w.heap.size ≤ gp; omega) hB3
   have hp4:=sn3 hp3 (.bool b3) (.slice A3 n3 c3) (.slice E3 k3 f3)
   have hk4:=blk_far3 hk3 (by show w.heap.size ≠ gp; omega) (.bool b3) (.slice A3 n3 c3) (.slice E3 k3 f3)
   clear hb hB3 hp3 hk3 hw3 HM2 HB1 HP1 HK2 hc0 hc1 hc2 p0 p1 p2 p3 p4 p5 q0 q1 q2
   go_wp2
   go_roundg (n - k)
   case measure => omega
   case rel => exact ⟨k + 1,b3,A3,n3,c3,E3,k3,f3,by omega,by omega,by go_num,hw4,hp4,hB4,hk4⟩
  ·have hkn : k = n:=by omega
   subst hkn
   rw [HF.out] at hw
   obtain ⟨p0,p1,p2⟩:=hp.c3
   obtain ⟨sc0,sf0,sc1,sf1,sc2,sf2⟩:=st3 hk1 (.bool b) (.slice Ap np cp)
   obtain ⟨r0,r1,r2⟩:=(sn3 hk1 (.bool b) (.slice Ap np cp) (.slice Ep kp fp)).c3
   have HG:=lh9 (gq3 hw hk1 hB (Nat.le_refl _))
   clear hw hp hk1 hB
   go_wp2
   refine bodyPost_ret (v:=.agg #[.bool b,.slice Ap np cp,.slice Ep kp fp]) (by simp [results,Tryz.results46,go_sem,r0,r1,r2]) rfl ?_
   exact HG.out
theorem zfO (p : Int) (w : World) (hT : zam w) (hp1 : -9223372036854775808 ≤ p) (hp2 : p ≤ 9223372036854775807) :
  Calls Tryz.prog 36 #[.int .i64 p] w (zaM w (p : Rat)):=by
 have HIC:=lh9 (zbF (T:=zam))
 have HGC:=lh9 zbK
 have HT:=lh9 (fun w' (hb : Below w.heap.size w w') => hT.on hb)
 have HTB:=HT
 obtain ⟨K,hKe⟩ : ∃ K,67108864 = K:=⟨_,rfl⟩
 have hKK : K ≤ 67108864:=by omega
 have hK0 : 0 < K:=by omega
 clear hT hKe
 go_enter Tryz.func36,Tryz.ntmps36
 have hB:=Below.refl w.heap.size w
 obtain ⟨bx1,bx2,bz⟩:=zaR w 44 #[.bool false,.slice none 0 0,.slice none 0 0]
 have hB:=zac hB bx1
 have k1:=bx2
 clear bx1 bx2 bz
 go_wp2_with fail
 generalize w.alloc (.cells #[.bool false,.slice none 0 0,.slice none 0 0] 44) = W1 at *
 have HZ2 : Hid (Sz (1) (p).natAbs):=(by show Int.natAbs p < 18446744073709551616 ^ 1; have e1 : -9223372036854775808 ≤ p:=hp1; have e2 : p ≤ 9223372036854775807:=hp2; omega)
 (with_reducible refine (HIC.out.of p _ (HT.out _ hB) hp1 hp2).mono ?_)
 rintro e wc2 ⟨b2,B2,m2,d2,rfl,hw2,hb⟩
 have hB:=zac hB hb
 have k1:=zae hb k1
 have HN2:=lh9 hw2
 clear hb hw2
 obtain ⟨sc0,sf0,sc1,sf1,sc2,sf2⟩:=st3 k1 (.bool b2) (.slice B2 m2 d2)
 obtain ⟨r0,r1,r2⟩:=(sn3 k1 (.bool b2) (.slice B2 m2 d2) (.slice none 0 0)).c3
 have HG:=lh9 (gq3 (zeJ HN2.out) k1 hB (by omega))
 go_wp2
 refine bodyPost_ret (v:=.agg #[.bool b2,.slice B2 m2 d2,.slice none 0 0]) (by simp [results,Tryz.results36,go_sem,r0,r1,r2]) rfl ?_
 exact HG.out
section
variable {K K' : Nat} {x y : Rat} {b b' : Bool} {A A' : oA9} {n n' c c' : Nat} {E E' : oA9} {k k' f f' : Nat} {w : World}
theorem q_add (hT : zam w) (h : zan w x b A n c E k f) (h' : zan w y b' A' n' c' E' k' f') (z : SzQ K x) (z' : SzQ K' y) (hK : K ≤ 67108864:=by omega) (hK' : K' ≤ 67108864:=by omega) :
  Calls Tryz.prog 38 #[.agg #[.bool b,.slice A n c,.slice E k f],.agg #[.bool b',.slice A' n' c',.slice E' k' f']] w (zaM w (x + y)):=zgQ x y b A n c E k f b' A' n' c' E' k' f' w hT h h' (z.fit h hK) (z'.fit h' hK')
theorem q_mul (hT : zam w) (h : zan w x b A n c E k f) (h' : zan w y b' A' n' c' E' k' f') (z : SzQ K x) (z' : SzQ K' y) (hK : K ≤ 67108864:=by omega) (hK' : K' ≤ 67108864:=by omega) :
  Calls Tryz.prog 45 #[.agg #[.bool b,.slice A n c,.slice E k f],.agg #[.bool b',.slice A' n' c',.slice E' k' f']] w (zaM w (x * y)):=rat_mul x y b A n c E k f b' A' n' c' E' k' f' w hT h h' (z.fit h hK) (z'.fit h' hK')
theorem q_cmp (hT : zam w) (h : zan w x b A n c E k f) (h' : zan w y b' A' n' c' E' k' f') (z : SzQ K x) (z' : SzQ K' y) (hK : K ≤ 67108864:=by omega) (hK' : K' ≤ 67108864:=by omega) :
  Calls Tryz.prog 62 #[.agg #[.bool b,.slice A n c,.slice E k f],.agg #[.bool b',.slice A' n' c',.slice E' k' f']] w (zbh w (zem x y)):=zmx x y b A n c E k f b' A' n' c' E' k' f' w hT h h' (z.fit h hK) (z'.fit h' hK')
theorem q_same {t : Bool} (e : decide (x = y) = t) (hT : zam w) (h : zan w x b A n c E k f) (h' : zan w y b' A' n' c' E' k' f') (z : SzQ K x) (z' : SzQ K' y) (hK : K ≤ 67108864:=by omega) (hK' : K' ≤ 67108864:=by omega) :
  Calls Tryz.prog 37 #[.agg #[.bool b,.slice A n c,.slice E k f],.agg #[.bool b',.slice A' n' c',.slice E' k' f']] w (fun e w' => e = .returned (.bool t) ∧ Below w.heap.size w w'):=zaw e (zkv x y b A n c E k f b' A' n' c' E' k' f' w hT h h' (z.fit h hK) (z'.fit h' hK'))
theorem q_zero {t : Bool} (e : decide (x = 0) = t) (hT : zam w) (h : zan w x b A n c E k f) (z : SzQ K x) (hK : K ≤ 67108864:=by omega) :
  Calls Tryz.prog 19 #[.agg #[.bool b,.slice A n c,.slice E k f]] w (fun e w' => e = .returned (.bool t) ∧ Below w.heap.size w w'):=zaw e (zaS x b A n c E k f w hT h (z.fit h hK))
theorem q_sign {v : Int} (e : sgnQ x = v) (hT : zam w) (h : zan w x b A n c E k f) (z : SzQ K x) (hK : K ≤ 67108864:=by omega) :
  Calls Tryz.prog 41 #[.agg #[.bool b,.slice A n c,.slice E k f]] w (fun e w' => e = .returned (.int .i64 v) ∧ Below w.heap.size w w'):=zbq e (zfP x b A n c E k f w hT h (z.fit h hK))
theorem q_bits {v : Int} (e : ((zeg x : Nat) : Int) = v) (hT : zam w) (h : zan w x b A n c E k f) (z : SzQ K x) (hK : K ≤ 67108864:=by omega) :
  Calls Tryz.prog 58 #[.agg #[.bool b,.slice A n c,.slice E k f]] w (fun e w' => e = .returned (.int .i64 v) ∧ Below w.heap.size w w'):=zbq e (zkr x b A n c E k f w hT h (z.fit h hK))
end
theorem en_mul : ∀ (args : Array Value) (w' : World),Sem.run Tryz.prog (callFunc 45 args) w' = .ok (.enter 45 args) w':=Go.Proofs.enters_of Tryz.func45 (by kernel_rfl) rfl
theorem en_addt : ∀ (args : Array Value) (w' : World),Sem.run Tryz.prog (callFunc 48 args) w' = .ok (.enter 48 args) w':=Go.Proofs.enters_of Tryz.func48 (by kernel_rfl) rfl
theorem zaQ.rats {w : World} {A : oA9} {n c : Nat} {xs : List Rat} (h : zaQ w A n c xs) : zgW w A n c xs:=⟨h.len,h.fits,h.most,fun i hi => h.at_ hi 0⟩
theorem sum_is (rs : List Rat) : zgJ rs = zfV rs:=rfl
theorem q_sum {K n c : Nat} {A : oA9} {xs : List Rat} {w : World} (hT : zam w) (h : zaQ w A n c xs) (hx : zau K xs) (hn : n ≤ 1073741824) (hK : 1 + n * (K + 1) ≤ 67108864) :
  Calls Tryz.prog 46 #[.slice A n c] w (zaM w (zfV xs)):=by
 have hl:=h.len
 have e:=sum_is xs
 rw [← e]
 refine rat_sum xs A n c (1 + n * (K + 1)) w hT h.rats hn hK (fun i hi => (hx.at_ (by omega)).up ?_) (fun k hk => ?_)
 ·have : K + 1 ≤ n * (K + 1):=Nat.le_mul_of_pos_left _ (by omega)
  omega
 ·rw [sum_is]
  exact take_sz hx hl k hk
theorem ratC {T : World → Prop} {M : Nat → Prop} (hTT : ∀ w,T w → zam w) (h0 : M 0 → RatG0 T) (h1 : M 1 → RatG1 T) (h2 : M 2 → RatG2 T) : RatC T M where
 g0:=h0
 g1:=h1
 g2:=h2
 new p q b b' A D n m c d w hT hA hD hn hm h0:=zmA p q b A n c b' D m d w (hTT w hT) hA hD hn hm h0
 newNo p q b b' A D n m c d w hT hA hD hn hm h0:=zhz p q b A n c b' D m d w (hTT w hT) hA hD hn hm h0
 of p q w hT h1 h2 h3 h4 h0:=rat_of p q w (hTT w hT) h1 h2 h3 h4 h0
 ofNo p q w hT h1 h2 h0:=znx p q w (hTT w hT) h1 h2 (by omega) (by omega) h0
 num r b A n c E k f w hT h hf:=rat_num r b A n c E k f w (hTT w hT) h hf
 den r b A n c E k f w hT h hf:=zmy r b A n c E k f w (hTT w hT) h hf
 sign r b A n c E k f w hT h hf:=zfP r b A n c E k f w (hTT w hT) h hf
 zero r b A n c E k f w hT h hf:=zaS r b A n c E k f w (hTT w hT) h hf
 isInt r b A n c E k f w hT h hf:=zbk r b A n c E k f w (hTT w hT) h hf
 bits r b A n c E k f w hT h hf:=zkr r b A n c E k f w (hTT w hT) h hf
 neg r b A n c E k f w hT h hf:=zmz r b A n c E k f w (hTT w hT) h hf
 add r s b b' A A' n n' c c' E E' k k' f f' w hT h h' hf hf':=zgQ r s b A n c E k f b' A' n' c' E' k' f' w (hTT w hT) h h' hf hf'
 sub r s b b' A A' n n' c c' E E' k k' f f' w hT h h' hf hf':=rat_sub r s b A n c E k f b' A' n' c' E' k' f' w (hTT w hT) h h' hf hf'
 cmp r s b b' A A' n n' c c' E E' k k' f f' w hT h h' hf hf':=zmx r s b A n c E k f b' A' n' c' E' k' f' w (hTT w hT) h h' hf hf'
 same r s b b' A A' n n' c c' E E' k k' f f' w hT h h' hf hf':=zkv r s b A n c E k f b' A' n' c' E' k' f' w (hTT w hT) h h' hf hf'
end Go.Proofs.YtkiedljcgkoaiaaGreatDoor
