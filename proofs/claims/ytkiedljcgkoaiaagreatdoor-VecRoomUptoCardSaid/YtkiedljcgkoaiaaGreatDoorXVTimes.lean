/- What this claim leans on. -/
import Derived.Test.YtkiedljcgkoaiaaGreatDoorXJ8Etc
namespace Go.Proofs.YtkiedljcgkoaiaaGreatDoor
open Go Go.RowKit
set_option maxHeartbeats 16000000
set_option maxRecDepth 100000
set_option linter.unusedVariables false
set_option linter.unusedSimpArgs false
theorem zll {K K' L : Nat} {x y r : Rat} {b b' s : Bool} {A A' D : oA9} {n n' m c c' d : Nat} {E E' U : oA9} {k k' u f f' v : Nat} {w : World} (g : Nat) (hT : zaj w) (hr : zak w r s D m d U u v) (hk : Blk w g 44 #[.bool s,.slice D m d,.slice U u v])
  (h : zak w x b A n c E k f) (h' : zak w y b' A' n' c' E' k' f') (zx : SzQ K x) (zy : SzQ K' y) (zr : SzQ L r) (hK : K ≤ 67108864) (hK' : L + K' ≤ 67108864) :
  Calls Tryz.prog 48 #[.agg #[.bool b,.slice A n c,.slice E k f],.agg #[.bool b',.slice A' n' c',.slice E' k' f'],.pointer (some ⟨g,0,none⟩)] w (zaA w (x + r * y)):=by
 have HT:=lh9 (fun w' (hb : Below w.heap.size w w') => hT.on hb)
 have HX:=lh9 (fun w' (hb : Below w.heap.size w w') => h.below hb)
 have HY:=lh9 (fun w' (hb : Below w.heap.size w w') => h'.below hb)
 have HR:=lh9 (fun w' (hb : Below w.heap.size w w') => hr.below hb)
 have HK:=lh9 (fun w' (hb : Below w.heap.size w w') => zac hb hk)
 have HZX:=lh9 zx
 have HZY:=lh9 zy
 have HZR:=lh9 zr
 clear hT hr hk h h' zx zy zr
 obtain ⟨bx1,bx2,bx3,bx4,bz⟩:=zbb w 44 44 44 #[.bool b,.slice A n c,.slice E k f] #[.bool b',.slice A' n' c',.slice E' k' f'] #[.bool false,.slice none 0 0,.slice none 0 0]
 have HB0:=lh9 bx1
 have HB2:=lh9 bx2
 have HB3:=lh9 bx3
 have HB4:=lh9 bx4
 clear bx1 bx2 bx3 bx4 bz
 go_enter Tryz.func48,Tryz.ntmps48
 go_wp2_with fail
 generalize ((w.alloc (.cells #[.bool b,.slice A n c,.slice E k f] 44)).alloc (.cells #[.bool b',.slice A' n' c',.slice E' k' f'] 44)).alloc (.cells #[.bool false,.slice none 0 0,.slice none 0 0] 44) = W1 at *
 obtain ⟨p0,p1,p2⟩:=HB2.out.c3
 obtain ⟨q0,q1,q2⟩:=HB3.out.c3
 obtain ⟨g0,g1,g2⟩:=(HK.out _ HB0.out).c3
 have hB:=HB0.out
 have kr:=HB4.out
 have hBw:=(Below.refl W1.heap.size W1).drew
 refine rg (csc p0 (csc p1 (csc p2 (csc g0 (csc g1 (csc g2 (csc q0 (csc q1 (csc q2 csn))))))))) (fun hHeld => ?_)
 refine tk 0 ?_
 refine tk 1 ?_
 refine tk 2 ?_
 refine rc 3 (fun KK hK => ?_)
 go_simp
 (with_reducible refine (q_mul (HT.out _ (zaa hB hBw)) (HR.out _ (zaa hB hBw)) (HY.out _ (zaa hB hBw)) HZR.out HZY.out (by omega) (by omega)).mono ?_); rintro e wa ⟨b1,A1,n1,c1,E1,k1,f1,rfl,hw1,hb⟩; have hBw:=zaa hBw hb; refine hK.out _ _ (Cs.below hHeld hb) (fun hHeld => ?_); clear hK KK hb
 refine rc 4 (fun KK hK => ?_)
 go_simp
 (with_reducible refine (zin (HT.out _ (zaa hB hBw)) (HX.out _ (zaa hB hBw)) hw1 HZX.out (HZR.out.mul HZY.out) (by omega) (by omega)).mono ?_); rintro e wb ⟨b2,A2,n2,c2,E2,k2,f2,rfl,hw2,hb⟩; have hBw:=zaa hBw hb; refine hK.out _ _ (Cs.below hHeld hb) (fun hHeld => ?_); clear hK KK hb
 have kr:=zac hBw kr
 obtain ⟨sc0,sf0,sc1,sf1,sc2,sf2⟩:=st3 kr (.bool b2) (.slice A2 n2 c2)
 obtain ⟨r0,r1,r2⟩:=(sn3 kr (.bool b2) (.slice A2 n2 c2) (.slice E2 k2 f2)).c3
 have HG:=lh9 (gq3 hw2 kr (zaa hB hBw) (by omega))
 refine rc 5 (fun KK hK => ?_)
 go_simp
 refine hK.out _ _ ?_ (fun hHeld => ?_)
 ·have hg : g < w.heap.size:=by
   have h1:=(HK.out _ (Below.refl _ w)).lt
   exact h1
  refine Cs.far hHeld (off3 _ _ _ _ _) ?_
  refine ⟨?_,?_,?_,?_,?_,?_,?_,?_,?_,trivial⟩ <;> (simp; try omega)
 clear hK KK
 refine rdn ?_
 clear sc0 sf0 sc1 sf1 sc2 sf2 hHeld hw1 hw2 kr
 go_wp2
 refine bodyPost_ret (v:=.agg #[.bool b2,.slice A2 n2 c2,.slice E2 k2 f2]) (by simp [results,Tryz.results48,go_sem,r0,r1,r2]) rfl ?_
 exact HG.out
section
variable {K K' L : Nat} {r : Rat} {xs ys : List Rat} {A B : oA9} {n n' c d : Nat} {w : World} {s : Bool} {D : oA9} {m e9 : Nat} {U : oA9} {u v : Nat}
theorem vec_addt (hT : zaj w) (ha : zaL w A n c xs) (hr : zak w r s D m e9 U u v) (hb : zaL w B n d ys) (hx : zao K xs) (zr : SzQ L r) (hy : zao K' ys) (hn : n ≤ 1073741824:=by omega) (hK : K ≤ 67108864:=by omega) (hK' : L + K' ≤ 67108864:=by omega) :
  Calls Tryz.prog 16 #[.slice A n c,.agg #[.bool s,.slice D m e9,.slice U u v],.slice B n d] w (zci w n (zhG xs r ys)):=by
 have hla:=ha.len
 have hlb:=hb.len
 obtain ⟨bx1,bx2,bz⟩:=zaG w 44 #[.bool s,.slice D m e9,.slice U u v]
 have hmf : ∀ (fn : Fn) (first cap : Array Value) (w : World),(Instr.makeFunc fn first cap).run Tryz.prog w = .ok (.func fn first cap) w:=fun _ _ _ _ => rfl
 have H:=lh9 (zdk (fun x y => x + r * y) 48 #[.pointer (some ⟨w.heap.size,0,none⟩)] xs ys A B n c d _ (ha.keep bx1) (hb.keep bx1) hn en_addt (fun i hi w' hb' b b' A A' n n' c c' E E' k k' f f' h1 h2 =>
  zll (w.heap.size) ((hT.on bx1).on hb') ((hr.below bx1).below hb') (zac hb' bx2) h1 h2 (hx.at_ (by omega)) (hy.at_ (by omega)) zr hK hK'))
 have hB:=bx1
 clear ha hb hx hy hT hr bx1 bx2 bz
 go_enter Tryz.func16,Tryz.ntmps16
 go_wp2_with fail
 refine H.out.mono ?_
 rintro e w1 ⟨g,rfl,h1,h2,h3⟩
 have HG:=lh9 (And.intro (Nat.le_trans hB.size h1) (And.intro h2 (zaa hB h3)))
 clear h1 h2 h3 hB
 go_wp2
 go_ret2
 exact ⟨g,rfl,HG.out⟩
end
theorem zaH {w : World} {g n : Nat} {xs : List Rat} (h : zbF w g n xs) (hn : n ≤ 1073741824:=by omega) : zaL w (some ⟨g,0,none⟩) n n xs:=zaP.row h (by omega)
section
variable {K K' : Nat} {xs ys : List Rat} {A B : oA9} {n n' c d : Nat} {w : World}
theorem zeO (hT : zaj w) (ha : zaL w A n c xs) (hb : zaL w B n d ys) (hx : zao K xs) (hy : zao K' ys) (hn : n ≤ 1073741824:=by omega) (hK : K ≤ 67108864:=by omega) (hK' : K' ≤ 67108864:=by omega) (hS : 1 + n * (K + K' + 1) ≤ 67108864:=by omega) :
  Calls Tryz.prog 13 #[.slice A n c,.slice B n d] w (zbV w (zbZ xs ys) true):=by
 have hla:=ha.len
 have hlb:=hb.len
 obtain ⟨bx1,bx2,bz⟩:=zaG w 44 #[.bool false,.slice none 0 0,.slice none 0 0]
 have H:=lh9 (zdk (fun x y => x * y) 45 #[] xs ys A B n c d _ (ha.keep bx1) (hb.keep bx1) hn en_mul (fun i hi w' hb' b b' A A' n n' c c' E E' k k' f f' h1 h2 => by
  rw [Array.append_empty]
  exact q_mul ((hT.on bx1).on hb') h1 h2 (hx.at_ (by omega)) (hy.at_ (by omega)) hK hK'))
 have HT:=lh9 (fun w' (hb : Below w.heap.size w w') => hT.on hb)
 have hB:=bx1
 have HK:=lh9 bx2
 have HS:=lh9 (zao.mul hx hy)
 have hN:=hn
 have hS9:=lh9 hS
 clear ha hb hx hy hT bx1 bx2 bz hla hlb hS
 go_enter Tryz.func13,Tryz.ntmps13
 go_wp2_with fail
 refine H.out.mono ?_
 rintro e w1 ⟨g,rfl,-,h2,hb⟩
 have hB:=zaa hB hb
 have hk:=zac hb HK.out
 have HV:=lh9 (zaH h2 hN)
 clear hb HK h2 H
 go_wp2_with fail
 refine (q_sum (HT.out _ hB) HV.out HS.out hN hS9.out).mono ?_
 rintro e w2 ⟨b2,A2,n2,c2,E2,k2,f2,rfl,hw2,hb⟩
 have hB2:=zaa hB hb
 have hk2:=zac hb hk
 obtain ⟨sc0,sf0,sc1,sf1,sc2,sf2⟩:=st3 hk2 (.bool b2) (.slice A2 n2 c2)
 obtain ⟨r0,r1,r2⟩:=(sn3 hk2 (.bool b2) (.slice A2 n2 c2) (.slice E2 k2 f2)).c3
 have HG:=lh9 (gb3 (r:=zbZ xs ys) true hw2 hk2 hB2 (Nat.le_refl _))
 clear hb hB hk hB2 hk2 hw2 HV HS
 go_wp2
 refine bodyPost_ret (v:=.tuple #[.agg #[.bool b2,.slice A2 n2 c2,.slice E2 k2 f2],.bool true]) (by simp [results,Tryz.results13,go_sem,r0,r1,r2]) rfl ?_
 exact HG.out
end
end Go.Proofs.YtkiedljcgkoaiaaGreatDoor
