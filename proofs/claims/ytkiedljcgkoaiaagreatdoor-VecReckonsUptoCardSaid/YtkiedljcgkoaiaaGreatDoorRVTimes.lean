/- What this claim leans on. -/
import Derived.Test.YtkiedljcgkoaiaaGreatDoorRR8Ref
namespace Go.Proofs.YtkiedljcgkoaiaaGreatDoor
open Go Go.RowKit
set_option maxHeartbeats 16000000
set_option maxRecDepth 100000
set_option linter.unusedVariables false
set_option linter.unusedSimpArgs false
theorem znw {K K' L : Nat} {x y r : Rat} {b b' s : Bool} {A A' D : oA9} {n n' m c c' d : Nat} {E E' U : oA9} {k k' u f f' v : Nat} {w : World} (g : Nat) (hT : zan w) (hr : zao w r s D m d U u v) (hk : Blk w g 44 #[.bool s,.slice D m d,.slice U u v])
  (h : zao w x b A n c E k f) (h' : zao w y b' A' n' c' E' k' f') (zx : SzQ K x) (zy : SzQ K' y) (zr : SzQ L r) (hK : K ≤ 67108864) (hK' : L + K' ≤ 67108864) :
  Calls Tryz.prog 48 #[.agg #[.bool b,.slice A n c,.slice E k f],.agg #[.bool b',.slice A' n' c',.slice E' k' f'],.pointer (some ⟨g,0,none⟩)] w (zaK w (x + r * y)):=by
 have HT:=lh9 (fun w' (hb : Below w.heap.size w w') => hT.on hb)
 have HX:=lh9 (fun w' (hb : Below w.heap.size w w') => h.below hb)
 have HY:=lh9 (fun w' (hb : Below w.heap.size w w') => h'.below hb)
 have HR:=lh9 (fun w' (hb : Below w.heap.size w w') => hr.below hb)
 have HK:=lh9 (fun w' (hb : Below w.heap.size w w') => zae hb hk)
 have HZX:=lh9 zx
 have HZY:=lh9 zy
 have HZR:=lh9 zr
 clear hT hr hk h h' zx zy zr
 obtain ⟨bx1,bx2,bx3,bx4,bz⟩:=zbg w 44 44 44 #[.bool b,.slice A n c,.slice E k f] #[.bool b',.slice A' n' c',.slice E' k' f'] #[.bool false,.slice none 0 0,.slice none 0 0]
 have HB0:=lh9 bx1
 have HB2:=lh9 bx2
 have HB3:=lh9 bx3
 have HB4:=lh9 bx4
 clear bx1 bx2 bx3 bx4 bz
 go_enter Tryz.func48,Tryz.ntmps48
 go_wp2_with fail
 generalize ((w.alloc (.cells #[.bool b,.slice A n c,.slice E k f] 44)).alloc (.cells #[.bool b',.slice A' n' c',.slice E' k' f'] 44)).alloc (.cells #[.bool false,.slice none 0 0,.slice none 0 0] 44) = W1 at *
 obtain ⟨p0,p1,p2⟩:=HB2.out.c3
 obtain ⟨q0,q1,q2⟩:=HB3.out.c3
 obtain ⟨g0,g1,g2⟩:=(HK.out _ HB0.out).c3
 have hB:=HB0.out
 have kr:=HB4.out
 have hBw:=(Below.refl W1.heap.size W1).drew
 refine rg (csc p0 (csc p1 (csc p2 (csc g0 (csc g1 (csc g2 (csc q0 (csc q1 (csc q2 csn))))))))) (fun hHeld => ?_)
 refine tk 0 ?_
 refine tk 1 ?_
 refine tk 2 ?_
 refine rc 3 (fun KK hK => ?_)
 go_simp
 (with_reducible refine (q_mul (HT.out _ (zac hB hBw)) (HR.out _ (zac hB hBw)) (HY.out _ (zac hB hBw)) HZR.out HZY.out (by omega) (by omega)).mono ?_); rintro e wa ⟨b1,A1,n1,c1,E1,k1,f1,rfl,hw1,hb⟩; have hBw:=zac hBw hb; refine hK.out _ _ (Cs.below hHeld hb) (fun hHeld => ?_); clear hK KK hb
 refine rc 4 (fun KK hK => ?_)
 go_simp
 (with_reducible refine (q_add (HT.out _ (zac hB hBw)) (HX.out _ (zac hB hBw)) hw1 HZX.out (HZR.out.mul HZY.out) (by omega) (by omega)).mono ?_); rintro e wb ⟨b2,A2,n2,c2,E2,k2,f2,rfl,hw2,hb⟩; have hBw:=zac hBw hb; refine hK.out _ _ (Cs.below hHeld hb) (fun hHeld => ?_); clear hK KK hb
 have kr:=zae hBw kr
 obtain ⟨sc0,sf0,sc1,sf1,sc2,sf2⟩:=st3 kr (.bool b2) (.slice A2 n2 c2)
 obtain ⟨r0,r1,r2⟩:=(sn3 kr (.bool b2) (.slice A2 n2 c2) (.slice E2 k2 f2)).c3
 have HG:=lh9 (gq3 hw2 kr (zac hB hBw) (by omega))
 refine rc 5 (fun KK hK => ?_)
 go_simp
 refine hK.out _ _ ?_ (fun hHeld => ?_)
 ·have hg : g < w.heap.size:=by
   have h1:=(HK.out _ (Below.refl _ w)).lt
   exact h1
  refine Cs.far hHeld (off3 _ _ _ _ _) ?_
  refine ⟨?_,?_,?_,?_,?_,?_,?_,?_,?_,trivial⟩ <;> (simp; try omega)
 clear hK KK
 refine rdn ?_
 clear sc0 sf0 sc1 sf1 sc2 sf2 hHeld hw1 hw2 kr
 go_wp2
 refine bodyPost_ret (v:=.agg #[.bool b2,.slice A2 n2 c2,.slice E2 k2 f2]) (by simp [results,Tryz.results48,go_sem,r0,r1,r2]) rfl ?_
 exact HG.out
section
variable {K K' L : Nat} {r : Rat} {xs ys : List Rat} {A B : oA9} {n n' c d : Nat} {w : World} {s : Bool} {D : oA9} {m e9 : Nat} {U : oA9} {u v : Nat}
theorem zkH (h : n ≠ n') :
  Calls Tryz.prog 16 #[.slice A n c,.agg #[.bool s,.slice D m e9,.slice U u v],.slice B n' d] w (zcB w):=by
 have H : ∀ W,Hid (Calls Tryz.prog 44 #[.slice A n c,.slice B n' d,.func (.func 48) #[] #[.pointer (some ⟨w.heap.size,0,none⟩)]] W (zcB W)):=fun W => zcE _ A B n n' c d W h
 have hB:=(zaL w 44 #[.bool s,.slice D m e9,.slice U u v]).1
 have hmf : ∀ (fn : Fn) (first cap : Array Value) (w : World),(Instr.makeFunc fn first cap).run Tryz.prog w = .ok (.func fn first cap) w:=fun _ _ _ _ => rfl
 clear h
 go_enter Tryz.func16,Tryz.ntmps16
 go_wp2_with fail
 refine (H _).out.mono ?_
 rintro e w1 ⟨rfl,hb⟩
 have hB1:=lh9 (zac hB hb)
 clear hb hB
 go_wp2
 go_ret2
 exact ⟨rfl,hB1.out⟩
theorem zkG (hT : zan w) (ha : zbk w A n c xs) (hr : zao w r s D m e9 U u v) (hb : zbk w B n d ys) (hx : zax K xs) (zr : SzQ L r) (hy : zax K' ys) (hn : n ≤ 1073741824:=by omega) (hK : K ≤ 67108864:=by omega) (hK' : L + K' ≤ 67108864:=by omega) :
  Calls Tryz.prog 16 #[.slice A n c,.agg #[.bool s,.slice D m e9,.slice U u v],.slice B n d] w (zcP w n (zbl xs r ys)):=by
 have hla:=ha.len
 have hlb:=hb.len
 obtain ⟨bx1,bx2,bz⟩:=zaL w 44 #[.bool s,.slice D m e9,.slice U u v]
 have hmf : ∀ (fn : Fn) (first cap : Array Value) (w : World),(Instr.makeFunc fn first cap).run Tryz.prog w = .ok (.func fn first cap) w:=fun _ _ _ _ => rfl
 have H:=lh9 (zec (fun x y => x + r * y) 48 #[.pointer (some ⟨w.heap.size,0,none⟩)] xs ys A B n c d _ (ha.keep bx1) (hb.keep bx1) hn en_addt (fun i hi w' hb' b b' A A' n n' c c' E E' k k' f f' h1 h2 =>
  znw (w.heap.size) ((hT.on bx1).on hb') ((hr.below bx1).below hb') (zae hb' bx2) h1 h2 (hx.at_ (by omega)) (hy.at_ (by omega)) zr hK hK'))
 have hB:=bx1
 clear ha hb hx hy hT hr bx1 bx2 bz
 go_enter Tryz.func16,Tryz.ntmps16
 go_wp2_with fail
 refine H.out.mono ?_
 rintro e w1 ⟨g,rfl,h1,h2,h3⟩
 have HG:=lh9 (And.intro (Nat.le_trans hB.size h1) (And.intro h2 (zac hB h3)))
 clear h1 h2 h3 hB
 go_wp2
 go_ret2
 exact ⟨g,rfl,HG.out⟩
end
theorem zbo {w : World} {g n : Nat} {xs : List Rat} (h : zct w g n xs) (hn : n ≤ 1073741824:=by omega) : zbk w (some ⟨g,0,none⟩) n n xs:=zaR.row h (by omega)
section
variable {K K' : Nat} {xs ys : List Rat} {A B : oA9} {n n' c d : Nat} {w : World}
theorem zlF (hT : zan w) (h : n ≠ n') :
  Calls Tryz.prog 13 #[.slice A n c,.slice B n' d] w (zci w 0 false):=by
 obtain ⟨bx1,bx2,bz⟩:=zaL w 44 #[.bool false,.slice none 0 0,.slice none 0 0]
 have H : ∀ W,Hid (Calls Tryz.prog 44 #[.slice A n c,.slice B n' d,.func (.func 45) #[] #[]] W (zcB W)):=fun W => zcE _ A B n n' c d W h
 have HT:=lh9 (fun w' (hb : Below w.heap.size w w') => hT.on hb)
 have hB:=bx1
 have HK:=lh9 bx2
 clear h hT bx1 bx2 bz
 go_enter Tryz.func13,Tryz.ntmps13
 go_wp2_with fail
 refine (H _).out.mono ?_
 rintro e w1 ⟨rfl,hb⟩
 have hB:=zac hB hb
 have hk:=zae hb HK.out
 clear hb HK
 go_wp2_with fail
 refine (q_sum (K:=1) (HT.out _ hB) (zar.nil w1) (fun x hx => by cases hx) (by decide) (by decide)).mono ?_
 rintro e w2 ⟨b2,A2,n2,c2,E2,k2,f2,rfl,hw2,hb⟩
 have hB2:=zac hB hb
 have hk2:=zae hb hk
 obtain ⟨sc0,sf0,sc1,sf1,sc2,sf2⟩:=st3 hk2 (.bool b2) (.slice A2 n2 c2)
 obtain ⟨r0,r1,r2⟩:=(sn3 hk2 (.bool b2) (.slice A2 n2 c2) (.slice E2 k2 f2)).c3
 have HG:=lh9 (gb3 false hw2 hk2 hB2 (Nat.le_refl _))
 clear hb hB hk hB2 hk2 hw2
 go_wp2
 refine bodyPost_ret (v:=.tuple #[.agg #[.bool b2,.slice A2 n2 c2,.slice E2 k2 f2],.bool false]) (by simp [results,Tryz.results13,go_sem,r0,r1,r2]) rfl ?_
 exact HG.out
theorem zmw (hT : zan w) (ha : zbk w A n c xs) (hb : zbk w B n d ys) (hx : zax K xs) (hy : zax K' ys) (hn : n ≤ 1073741824:=by omega) (hK : K ≤ 67108864:=by omega) (hK' : K' ≤ 67108864:=by omega) (hS : 1 + n * (K + K' + 1) ≤ 67108864:=by omega) :
  Calls Tryz.prog 13 #[.slice A n c,.slice B n d] w (zci w (dotQ xs ys) true):=by
 have hla:=ha.len
 have hlb:=hb.len
 obtain ⟨bx1,bx2,bz⟩:=zaL w 44 #[.bool false,.slice none 0 0,.slice none 0 0]
 have H:=lh9 (zec (fun x y => x * y) 45 #[] xs ys A B n c d _ (ha.keep bx1) (hb.keep bx1) hn en_mul (fun i hi w' hb' b b' A A' n n' c c' E E' k k' f f' h1 h2 => by
  rw [Array.append_empty]
  exact q_mul ((hT.on bx1).on hb') h1 h2 (hx.at_ (by omega)) (hy.at_ (by omega)) hK hK'))
 have HT:=lh9 (fun w' (hb : Below w.heap.size w w') => hT.on hb)
 have hB:=bx1
 have HK:=lh9 bx2
 have HS:=lh9 (zax.mul hx hy)
 have hN:=hn
 have hS9:=lh9 hS
 clear ha hb hx hy hT bx1 bx2 bz hla hlb hS
 go_enter Tryz.func13,Tryz.ntmps13
 go_wp2_with fail
 refine H.out.mono ?_
 rintro e w1 ⟨g,rfl,-,h2,hb⟩
 have hB:=zac hB hb
 have hk:=zae hb HK.out
 have HV:=lh9 (zbo h2 hN)
 clear hb HK h2 H
 go_wp2_with fail
 refine (q_sum (HT.out _ hB) HV.out HS.out hN hS9.out).mono ?_
 rintro e w2 ⟨b2,A2,n2,c2,E2,k2,f2,rfl,hw2,hb⟩
 have hB2:=zac hB hb
 have hk2:=zae hb hk
 obtain ⟨sc0,sf0,sc1,sf1,sc2,sf2⟩:=st3 hk2 (.bool b2) (.slice A2 n2 c2)
 obtain ⟨r0,r1,r2⟩:=(sn3 hk2 (.bool b2) (.slice A2 n2 c2) (.slice E2 k2 f2)).c3
 have HG:=lh9 (gb3 (r:=dotQ xs ys) true hw2 hk2 hB2 (Nat.le_refl _))
 clear hb hB hk hB2 hk2 hw2 HV HS
 go_wp2
 refine bodyPost_ret (v:=.tuple #[.agg #[.bool b2,.slice A2 n2 c2,.slice E2 k2 f2],.bool true]) (by simp [results,Tryz.results13,go_sem,r0,r1,r2]) rfl ?_
 exact HG.out
end
theorem zkw {w : World} {z : Int} {b : Bool} {A : oA9} {n c : Nat} {F : oA9} {k f : Nat} (h : zaM w z b A n c) (h1 : zaj w 1 F k f) : zbQ w (z : Rat) b A n c F k f:=⟨by rw [Rat.num_intCast]; exact h,by rw [Rat.den_intCast]; exact h1⟩
theorem zkc {m : Nat} : (#[Value.int .u64 (m : Int)] : Array Value).toList = zat .u64 [m]:=rfl
theorem zlV (m : Nat) : dv 18446744073709551616 [m] = m:=by simp [dv]
theorem zjE {m : Nat} (h : m < 18446744073709551616) : Dgs 18446744073709551616 [m]:=by intro d hd; simp at hd; omega
theorem zku (m : Nat) (r : Rat) (hr : ((m : Int) : Rat) = r) (w : World) (hm : m ≤ 9223372036854775807) :
  Calls Tryz.prog 20 #[.int .i64 (m : Int)] w (zcj w r):=by
 have hd0 : decide ((m : Int) < 0) = false:=decide_eq_false (by omega)
 have hw1 : IntKind.u64.wrap (m : Int) = (m : Int):=by rw [IntKind.wrap_u64]; omega
 have HZ : Hid (Sz 1 m):=by show m < 18446744073709551616 ^ 1; rw [Nat.pow_one]; omega
 have HM : Hid (m < 18446744073709551616):=by show _ < _; omega
 have HR:=lh9 hr
 obtain ⟨y1,y2,y3,-⟩:=zbi w 36 83 #[.bool false,.slice none 0 0,.slice none 0 0] #[.int .u64 (m : Int)]
 have HB:=lh9 y1
 have HK:=lh9 y2
 have HL:=lh9 y3
 clear y1 y2 y3 hm hr
 go_enter Tryz.func20,Tryz.ntmps20
 go_wp2_with fail
 generalize (w.alloc (.cells #[.bool false,.slice none 0 0,.slice none 0 0] 36)).alloc (.cells #[.int .u64 (m : Int)] 83) = W1 at *
 (with_reducible refine (zmo #[.int .u64 (m : Int)] [m] _ _ 1 m HL.out rfl zkc (zjE HM.out) (zlV m) (by decide)).mono ?_)
 intro e w1 hg
 obtain ⟨C1,r1,f1,rfl,hh,hb⟩:=hg.elim
 have HB:=lh9 (zac HB.out hb)
 have HK:=lh9 (zae hb HK.out)
 have HH:=lh9 hh
 clear hb hg hh HL
 go_wp2_with fail
 (with_reducible refine (zbb false m C1 r1 f1 _ HH.out (szh HZ HH.out)).mono ?_)
 rintro e w2 ⟨b2,A2,n2,c2,rfl,hz,hb⟩
 have hB2:=zac HB.out hb
 have hk2:=zae hb HK.out
 obtain ⟨s1,s2,-⟩:=zaL w2 3 #[.int .i64 1]
 have h1:=zcZ s2
 have hz2 : zaM (w2.alloc (.cells #[.int .i64 1] 3)) (m : Int) b2 A2 n2 c2:=by
  have e : sgI false m = (m : Int):=by unfold sgI; simp
  rw [← e]; exact hz.below s1
 have hq:=zkw hz2 h1
 rw [HR.out] at hq
 have hk3:=zae s1 hk2
 obtain ⟨sc0,sf0,sc1,sf1,sc2,sf2⟩:=st3 hk3 (.bool b2) (.slice A2 n2 c2)
 obtain ⟨r0,r1',r2⟩:=(sn3 hk3 (.bool b2) (.slice A2 n2 c2) (.slice (some ⟨w2.heap.size,0,none⟩) 1 1)).c3
 have HG:=lh9 (gr3 hq hk3 (zac hB2 s1) (Nat.le_refl _))
 clear hz hb hB2 hk2 s1 s2 h1 hz2 hq hk3 HB HK HH
 go_wp2
 refine bodyPost_ret (v:=.agg #[.bool b2,.slice A2 n2 c2,.slice (some ⟨w2.heap.size,0,none⟩) 1 1]) (by simp [results,Tryz.results20,go_sem,r0,r1',r2]) rfl ?_
 exact HG.out
theorem zkv (m : Nat) (r : Rat) (hr : ((-(m : Int) : Int) : Rat) = r) (w : World) (h0 : 0 < m) (hm : m ≤ 9223372036854775808) :
  Calls Tryz.prog 20 #[.int .i64 (-(m : Int))] w (zcj w r):=by
 have hd0 : decide (-(m : Int) < 0) = true:=decide_eq_true (by omega)
 obtain ⟨v,hv⟩ : ∃ v,IntKind.u64.wrap (-(m : Int)) = v:=⟨_,rfl⟩
 have hw2 : IntKind.u64.wrap (-v) = (m : Int):=by rw [← hv,IntKind.wrap_u64,IntKind.wrap_u64]; omega
 have HZ : Hid (Sz 1 m):=by show m < 18446744073709551616 ^ 1; rw [Nat.pow_one]; omega
 have HM : Hid (m < 18446744073709551616):=by show _ < _; omega
 have HR:=lh9 hr
 obtain ⟨y1,y2,y3,-⟩:=zbi w 36 83 #[.bool false,.slice none 0 0,.slice none 0 0] #[.int .u64 (m : Int)]
 have HB:=lh9 y1
 have HK:=lh9 y2
 have HL:=lh9 y3
 clear y1 y2 y3 hm hr
 go_enter Tryz.func20,Tryz.ntmps20
 go_wp2_with fail
 generalize (w.alloc (.cells #[.bool false,.slice none 0 0,.slice none 0 0] 36)).alloc (.cells #[.int .u64 (m : Int)] 83) = W1 at *
 (with_reducible refine (zmo #[.int .u64 (m : Int)] [m] _ _ 1 m HL.out rfl zkc (zjE HM.out) (zlV m) (by decide)).mono ?_)
 intro e w1 hg
 obtain ⟨C1,r1,f1,rfl,hh,hb⟩:=hg.elim
 have HB:=lh9 (zac HB.out hb)
 have HK:=lh9 (zae hb HK.out)
 have HH:=lh9 hh
 clear hb hg hh HL
 go_wp2_with fail
 (with_reducible refine (zbb true m C1 r1 f1 _ HH.out (szh HZ HH.out)).mono ?_)
 rintro e w2 ⟨b2,A2,n2,c2,rfl,hz,hb⟩
 have hB2:=zac HB.out hb
 have hk2:=zae hb HK.out
 obtain ⟨s1,s2,-⟩:=zaL w2 3 #[.int .i64 1]
 have h1:=zcZ s2
 have hz2 : zaM (w2.alloc (.cells #[.int .i64 1] 3)) (-(m : Int)) b2 A2 n2 c2:=by
  have e : sgI true m = (-(m : Int)):=by unfold sgI; simp
  rw [← e]; exact hz.below s1
 have hq:=zkw hz2 h1
 rw [HR.out] at hq
 have hk3:=zae s1 hk2
 obtain ⟨sc0,sf0,sc1,sf1,sc2,sf2⟩:=st3 hk3 (.bool b2) (.slice A2 n2 c2)
 obtain ⟨r0,r1',r2⟩:=(sn3 hk3 (.bool b2) (.slice A2 n2 c2) (.slice (some ⟨w2.heap.size,0,none⟩) 1 1)).c3
 have HG:=lh9 (gr3 hq hk3 (zac hB2 s1) (Nat.le_refl _))
 clear hz hb hB2 hk2 s1 s2 h1 hz2 hq hk3 HB HK HH
 go_wp2
 refine bodyPost_ret (v:=.agg #[.bool b2,.slice A2 n2 c2,.slice (some ⟨w2.heap.size,0,none⟩) 1 1]) (by simp [results,Tryz.results20,go_sem,r0,r1',r2]) rfl ?_
 exact HG.out
theorem zcy {z : Int} {w : World} (hz : zaX z) : Calls Tryz.prog 20 #[.int .i64 z] w (zcj w (z : Rat)):=by
 obtain ⟨h1,h2⟩:=hz
 by_cases h0 : 0 ≤ z
 ·obtain ⟨m,rfl⟩:=Int.eq_ofNat_of_zero_le h0
  exact zku m _ rfl w (by omega)
 ·obtain ⟨m,hm⟩ : ∃ m : Nat,z = -(m : Int):=⟨z.natAbs,by omega⟩
  subst hm
  exact zkv m _ rfl w (by omega) (by omega)
theorem zlW (b : Bool) (A E : oA9) (n c k f : Nat) (W : World) : Sem.run Tryz.prog (Instr.field 36 (.agg #[.bool b,.slice A n c,.slice E k f]) 0) W = .ok (.agg #[.bool b,.slice A n c]) W:=by
 unfold Instr.field
 simp [go_sem]
 rfl
theorem zly {p : Int} {w : World} (hp : zaX p) : Calls Tryz.prog 12 #[.int .i64 p,.int .i64 0] w (zcj w (qOf p 0)):=by
 rw [zko]
 obtain ⟨bx1,bx2,-⟩:=zaL w 36 #[.bool false,.slice none 0 0,.slice none 0 0]
 have HB:=lh9 bx1
 have HK:=lh9 bx2
 have HP:=lh9 hp
 clear bx1 bx2 hp
 go_enter Tryz.func12,Tryz.ntmps12
 go_wp2_with fail
 (with_reducible refine (zcy HP.out).mono ?_)
 rintro e w2 ⟨b2,A2,n2,c2,E2,k2,f2,rfl,hq,hb⟩
 have hk3:=zae hb HK.out
 obtain ⟨sc0,sf0,sc1,sf1,sc2,sf2⟩:=st3 hk3 (.bool b2) (.slice A2 n2 c2)
 obtain ⟨r0,r1',r2⟩:=(sn3 hk3 (.bool b2) (.slice A2 n2 c2) (.slice E2 k2 f2)).c3
 have HG:=lh9 (gr3 hq hk3 (zac HB.out hb) (Nat.le_refl _))
 clear hb hq hk3 HB HK
 go_wp2
 refine bodyPost_ret (v:=.agg #[.bool b2,.slice A2 n2 c2,.slice E2 k2 f2]) (by simp [results,Tryz.results12,go_sem,r0,r1',r2]) rfl ?_
 exact HG.out
theorem zlz {p q : Int} {w : World} (hp : zaX p) (hq : zaX q) (h0 : q ≠ 0) : Calls Tryz.prog 12 #[.int .i64 p,.int .i64 q] w (zcj w (qOf p q)):=by
 rw [qOf_ne h0]
 have hd0 : (q == 0) = false:=by rw [beq_eq_false_iff_ne]; exact h0
 have H0:=lh9 h0
 have HZP:=lh9 (zdG hp.1 hp.2)
 have HZQ:=lh9 (zdG hq.1 hq.2)
 obtain ⟨bx1,bx2,-⟩:=zaL w 36 #[.bool false,.slice none 0 0,.slice none 0 0]
 have HB:=lh9 bx1
 have HK:=lh9 bx2
 have HP:=lh9 hp
 have HQ:=lh9 hq
 clear bx1 bx2 hp hq h0
 go_enter Tryz.func12,Tryz.ntmps12
 go_wp2_with fail
 (with_reducible refine (zcy HP.out).mono ?_)
 rintro e w2 ⟨b2,A2,n2,c2,E2,k2,f2,rfl,hx,hb⟩
 have HX : Hid (zaM w2 p b2 A2 n2 c2):=by have h:=hx.1; rw [Rat.num_intCast] at h; exact h
 have HB:=lh9 (zac HB.out hb)
 have HK:=lh9 (zae hb HK.out)
 clear hb hx
 have hf1:=fun W => zlW b2 A2 E2 n2 c2 k2 f2 W
 go_wp2_with fail
 clear hf1
 (with_reducible refine (zcy HQ.out).mono ?_)
 rintro e w3 ⟨b3,A3,n3,c3,E3,k3,f3,rfl,hy,hb⟩
 have HY : Hid (zaM w3 q b3 A3 n3 c3):=by have h:=hy.1; rw [Rat.num_intCast] at h; exact h
 have HX:=lh9 (HX.out.below hb)
 have HB:=lh9 (zac HB.out hb)
 have HK:=lh9 (zae hb HK.out)
 clear hb hy
 have hf2:=fun W => zlW b3 A3 E3 n3 c3 k3 f3 W
 go_wp2_with fail
 clear hf2
 (with_reducible refine (zhx p q b2 A2 n2 c2 b3 A3 n3 c3 1 1 _ HZP.out HX.out HZQ.out HY.out (by decide) (by decide) H0.out).mono ?_)
 rintro e w4 ⟨b4,A4,n4,c4,E4,k4,f4,rfl,hq,hb⟩
 have hk3:=zae hb HK.out
 obtain ⟨sc0,sf0,sc1,sf1,sc2,sf2⟩:=st3 hk3 (.bool b4) (.slice A4 n4 c4)
 obtain ⟨r0,r1',r2⟩:=(sn3 hk3 (.bool b4) (.slice A4 n4 c4) (.slice E4 k4 f4)).c3
 have HG:=lh9 (gr3 hq hk3 (zac HB.out hb) (Nat.le_refl _))
 clear hb hq hk3 HB HK HX HY
 go_wp2
 refine bodyPost_ret (v:=.agg #[.bool b4,.slice A4 n4 c4,.slice E4 k4 f4]) (by simp [results,Tryz.results12,go_sem,r0,r1',r2]) rfl ?_
 exact HG.out
theorem zho {p q : Int} {w : World} (hp : zaX p) (hq : zaX q) : Calls Tryz.prog 12 #[.int .i64 p,.int .i64 q] w (zcj w (qOf p q)):=by
 by_cases h0 : q = 0
 ·subst h0; exact zly hp
 ·exact zlz hp hq h0
end Go.Proofs.YtkiedljcgkoaiaaGreatDoor
