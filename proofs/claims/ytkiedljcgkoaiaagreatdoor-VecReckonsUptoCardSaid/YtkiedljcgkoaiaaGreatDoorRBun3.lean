/- What this claim leans on. -/
import Derived.Test.YtkiedljcgkoaiaaGreatDoorRBunO
import Derived.Test.YtkiedljcgkoaiaaGreatDoorRBunM
import Derived.IntWalk
namespace Go.Proofs.YtkiedljcgkoaiaaGreatDoor
open Go Go.RowKit
set_option maxHeartbeats 16000000
set_option maxRecDepth 100000
set_option linter.unusedVariables false
theorem zha (p q r s : Nat) (hp : p < 18446744073709551616) (hq : q < 18446744073709551616) (hr : r < 18446744073709551616) (hs : s < 18446744073709551616) (w : World) :
  Calls Tryz.prog 114 #[.int .u64 p,.int .u64 q,.int .u64 r,.int .u64 s] w fun e w' => e = .returned (.tuple #[.int .u64 (((p * q + r + s) / 18446744073709551616 : Nat) : Int),.int .u64 (((p * q + r + s) % 18446744073709551616 : Nat) : Int)]) ∧ w = w':=by
 have h:=zkL p q r s ⟨by omega,by omega⟩ ⟨by omega,by omega⟩ ⟨by omega,by omega⟩ ⟨by omega,by omega⟩ w
 rw [(ma_nat p q r s).1,(ma_nat p q r s).2] at h
 exact h
theorem zfw (x y : Nat) (A D : oA9) (n m c d : Nat) (w : World) (hA : zag w x A n c) (hD : zag w y D m d) (hn : n ≤ 274877906944) (hm : m ≤ 274877906944) :
  Calls Tryz.prog 79 #[.agg #[.slice A n c],.agg #[.slice D m d]] w (zaC w (x * y)):=by
 obtain ⟨i0,hi0,hz0,hz1,hz2⟩:=info_parts zeq
 have hln:=lh9 hA.len
 have hlm:=lh9 hD.len
 have HA:=lh9 (fun w' (hb : Below w.heap.size w w') => hA.below hb)
 have HW:=(fun w' (hb : Below w.heap.size w w') => zcd y D m d w' (hD.below hb) (by omega))
 unfold zek at HW
 rw [hlm.out] at HW
 have HWS:=lh9 HW
 obtain ⟨N,hN⟩ : ∃ N,n + m = N:=⟨_,rfl⟩
 have HN:=lh9 hN
 have hN1 : N ≤ 549755813888:=by omega
 obtain ⟨Z,hZ⟩ : ∃ Z,madeCells (Value.cells (.int .u64 0)) N = Z:=⟨_,rfl⟩
 have hmk : ∀ W : World,(Instr.makeSlice 38 (.int .i64 ((n : Int) + (m : Int))) (.int .i64 ((n : Int) + (m : Int)))).run Tryz.prog W = .ok (.slice (some ⟨W.heap.size,0,none⟩) N N) (W.alloc (.cells Z 83)):=fun W => by
  have h:=zaS _ _ i0 _ Tryz.underlying38 hi0 hz0 .i64 .i64 N N (Nat.le_refl _) (by rw [hz2]; omega) (by omega) W
  rw [hz1,Nat.mul_one,hZ] at h
  rw [show (n : Int) + (m : Int) = (N : Int) from by omega]
  exact h
 have HZ:=lh9 hZ
 clear hZ hA hD hN HW
 go_enter Tryz.func79,Tryz.ntmps79
 go_wp2_with fail
 generalize hW : ((w.alloc (.cells #[.slice A n c] 40)).alloc (.cells #[.slice D m d] 40)).alloc (.cells #[.slice none 0 0] 40) = W0
 obtain ⟨b1,b2,b3,b4,b5⟩:=zbg w 40 40 40 #[.slice A n c] #[.slice D m d] #[.slice none 0 0]
 rw [hW] at b1 b2 b3 b4 b5
 have g1 : W0.cell? ⟨w.heap.size,0,none⟩ = some (.slice A n c):=b2.cell 0
 clear hW b2 b3
 refine (HWS.out _ b1).mono ?_
 rintro e w1 ⟨A1,c1,rfl,hr1,_,⟨_,hfr⟩,hb⟩
 have hB:=zac b1 hb
 have g1:=zad hb g1
 have hk:=zae hb b4
 have hs3 : w.heap.size + 3 ≤ w1.heap.size:=Nat.le_trans b5 hb.size
 clear hb b1 b4 b5 hfr
 go_wp2_with fail
 refine (zbh x _ _ _ _).mono ?_
 rintro e w2 ⟨rfl,hb⟩
 have hB:=zac hB hb
 have g1:=zad hb g1
 have hk:=zae hb hk
 have hr1:=(hr1.below hb).more hb.size
 have hs3 : w.heap.size + 3 ≤ w2.heap.size:=Nat.le_trans hs3 hb.size
 have g1a:=fun o => zam o g1
 clear hb
 go_wp2_with fail
 have hR : zaq (w2.alloc (.cells Z 83)) 83 w2.heap.size N N (List.replicate N 0):=by
  have h:=zaq.made w2 83 N (by unfold maxLen; omega)
  rw [HZ.out] at h
  exact h
 obtain ⟨gs,hgs⟩ : ∃ g,w2.heap.size = g:=⟨_,rfl⟩
 have hB:=zal (.cells Z 83) hB
 have g1:=zam (.cells Z 83) g1
 have hk:=hk.alloc (.cells Z 83)
 have hr1:=(hr1.alloc (Nat.le_refl _) (.cells Z 83)).more (B':=gs) (by omega)
 rw [hgs] at hR hs3
 generalize w2.alloc (.cells Z 83) = W3 at *
 rw [hgs]
 clear hgs hmk g1a
 refine (zbh x _ _ _ _).mono ?_
 rintro e w4 ⟨rfl,hb⟩
 have hB:=zac hB hb
 have g1:=zad hb g1
 have hk:=zae hb hk
 have hr1:=hr1.below (hb.mono (Nat.le_of_lt hR.lt))
 have hR:=hR.keep hb
 have hI:=lh9 (zgA.start x y m N)
 clear hb
 go_wp2_with fail
 go_loopg [22] (n + 1) (fun g ix wr => ∃ (k : Nat) (L : List Nat),k ≤ n ∧ n < g + k ∧ ix = .int .i64 k ∧ zgA x y k m N L ∧ zaq wr 83 gs N N L ∧ Below w.heap.size w wr ∧ wr.cell? ⟨w.heap.size,0,none⟩ = some (.slice A n c) ∧ Blk wr (w.heap.size + 1 + 1) 40 #[.slice none 0 0] ∧ zas wr gs 1 A1 m (zat .u64 (dg 18446744073709551616 y)))
 case atStart => exact ⟨0,_,Nat.zero_le _,by omega,rfl,hI.out,hR,hB,g1,hk,hr1⟩
 case round =>
  clear hB g1 hk hr1 hR hI
  obtain ⟨k,L0,hkn,hg,rfl,hM,hR,hB,g1,hk,hr1⟩:=hrel
  obtain ⟨wo,hwo⟩ : ∃ wo,wo = wr:=⟨_,rfl⟩
  subst hwo
  by_cases hlt : k < n
  ·have WX:=lh9 (fun w' (h : Below w.heap.size w w') => zcF x A n c k w' (HA.out w' h))
   have ha:=zbC x k
   have hRB:=lh9 (RowB.start y (wd x k) k hM.len hM.dgs)
   have hMS:=lh9 (fun L c (h : RowB L0 y (wd x k) k m N L c) => zgA.step hM h (by have:=hlm.out; omega) (by have:=HN.out; omega))
   obtain ⟨a,haa⟩ : ∃ a,wd x k = a:=⟨_,rfl⟩
   rw [haa] at WX ha hRB hMS
   clear haa hM
   go_wp2_with fail
   refine (WX.out _ hB).mono ?_
   rintro e w5 ⟨rfl,hb⟩
   have hB:=zac hB hb
   have g1:=zad hb g1
   have hk:=zae hb hk
   have hr1:=hr1.below (hb.mono (Nat.le_of_lt hR.lt))
   have hR:=hR.keep hb
   clear hb
   go_wp2_with fail
   go_loopg [9,30] (m + 1) (fun g cy jx wr => ∃ (j cc : Nat) (L : List Nat),j ≤ m ∧ m < g + j ∧ jx = .int .i64 j ∧ cy = .int .u64 cc ∧ RowB L0 y a k j N L cc ∧ zaq wr 83 gs N N L ∧ Below w.heap.size w wr ∧ wr.cell? ⟨w.heap.size,0,none⟩ = some (.slice A n c) ∧ Blk wr (w.heap.size + 1 + 1) 40 #[.slice none 0 0] ∧ zas wr gs 1 A1 m (zat .u64 (dg 18446744073709551616 y)))
   case atStart => exact ⟨0,0,L0,Nat.zero_le _,by omega,rfl,rfl,hRB.out,hR,hB,g1,hk,hr1⟩
   case round =>
    clear hB g1 hk hr1 hR hRB
    obtain ⟨j,cc,L,hjm,hg2,rfl,rfl,hI,hR,hB,g1,hk,hr1⟩:=hrel
    by_cases hjl : j < m
    ·have hNN:=HN.out
     obtain ⟨ad,rfl,hadb,h1⟩:=zbe hr1 (k:=j) hjl
     rw [zdv] at h1
     have hp:=hI.dgs.getD (by decide) (k + j)
     have h2:=hR.cell (k + j) (by omega)
     have h3:=hR.frozen (k + j)
     have hb2:=zbC y j
     have hc2:=hI.carry
     have hST:=hI.step (s:=wd y j * a + L.getD (k + j) 0 + cc) ha (by omega) rfl
     obtain ⟨b,hbb⟩ : ∃ b,wd y j = b:=⟨_,rfl⟩
     obtain ⟨p,hpp⟩ : ∃ b,L.getD (k + j) 0 = b:=⟨_,rfl⟩
     rw [hbb] at h1 hb2 hST
     rw [hpp] at h2 hp hST
     have HMA:=lh9 (fun w' => zha b a p cc hb2 ha hp hc2 w')
     obtain ⟨s1,e1⟩ : ∃ s1,(b * a + p + cc) % 18446744073709551616 = s1:=⟨_,rfl⟩
     obtain ⟨s2,e2⟩ : ∃ s2,(b * a + p + cc) / 18446744073709551616 = s2:=⟨_,rfl⟩
     rw [e1,e2] at HMA hST
     have HST:=lh9 hST
     have HRS:=lh9 (hR.set_ (k + j) s1 (by omega))
     obtain ⟨q,hq⟩ : ∃ q,k + j = q:=⟨_,rfl⟩
     rw [hq] at h2 h3 HST HRS
     have i1 : (0 : Int) ≤ (k : Int) + (j : Int):=by omega
     have i2 : (k : Int) + (j : Int) < (N : Int):=by omega
     have i3 : ((k : Int) + (j : Int)).toNat = q:=by omega
     have hBS:=fun u => zaf (p:=⟨gs,q,none⟩) u (by show w.heap.size ≤ gs; omega) hB
     have gS:=fun u => zai (p:=⟨w.heap.size,0,none⟩) (q:=⟨gs,q,none⟩) u (by show w.heap.size ≠ gs; omega) g1
     have kS:=fun u => hk.far (p:=⟨gs,q,none⟩) (by show w.heap.size + 1 + 1 ≠ gs; omega) u
     clear hST hbb hpp e1 e2 hI hq hNN
     go_wp2_with fail
     refine (HMA.out _).mono ?_
     rintro e w' ⟨rfl,rfl⟩
     go_wp2
     go_roundg (m - j)
     case measure => omega
     case rel => exact ⟨j + 1,s2,_,by omega,by omega,by go_num,rfl,HST.out,HRS.out,hBS _,gS _,kS _,hr1.setCell (Nat.le_refl _) _⟩
    ·have hjm2 : j = m:=by omega
     subst hjm2
     have hNN:=HN.out
     have h3:=hR.frozen (k + j)
     have HMN:=lh9 (hMS.out L cc hI)
     have HRS:=lh9 (hR.set_ (k + j) cc (by omega))
     obtain ⟨u,hu⟩ : ∃ u,wr.cell? ⟨gs,k + j,none⟩ = some u:=⟨_,hR.cell (k + j) (by omega)⟩
     obtain ⟨q,hq⟩ : ∃ q,k + j = q:=⟨_,rfl⟩
     rw [hq] at h3 HMN HRS hu
     have i1 : (0 : Int) ≤ (k : Int) + (j : Int):=by omega
     have i2 : (k : Int) + (j : Int) < (N : Int):=by omega
     have i3 : ((k : Int) + (j : Int)).toNat = q:=by omega
     have hBS:=fun u => zaf (p:=⟨gs,q,none⟩) u (by show w.heap.size ≤ gs; omega) hB
     have gS:=fun u => zai (p:=⟨w.heap.size,0,none⟩) (q:=⟨gs,q,none⟩) u (by show w.heap.size ≠ gs; omega) g1
     have kS:=fun u => hk.far (p:=⟨gs,q,none⟩) (by show w.heap.size + 1 + 1 ≠ gs; omega) u
     clear hI hq hNN hMS
     go_wp2
     go_roundg (n - k)
     case measure => omega
     case rel => exact ⟨k + 1,_,by omega,by omega,by go_num,HMN.out,HRS.out,hBS _,gS _,kS _,hr1.setCell (Nat.le_refl _) _⟩
  ·have hkn2 : k = n:=by omega
   subst hkn2
   have hNN:=HN.out
   have e:=zgA.done (L:=L0) (by rw [hNN]; exact hM) (by have:=hln.out; omega)
   have O:=zbY (some ⟨gs,0,none⟩) N N L0 wo hR.reads hM.dgs (Nat.le_refl _) (by omega) (by omega)
   rw [e] at O
   have HO:=lh9 O
   clear O e hNN hM
   go_wp2_with fail
   refine HO.out.mono ?_
   rintro e w' ⟨A2,n2,c2,rfl,hw,hb,hf⟩
   have hk2:=zae hb hk
   have hc1 : w'.cell? ⟨w.heap.size + 1 + 1,0,none⟩ = some (.slice none 0 0):=hk2.cell 0
   have hf1:=hk2.frozen 0
   have hsz:=hR.lt
   have HG : Hid (zaC w (x * y) (.returned (.agg #[.slice A2 n2 c2])) (w'.setCell ⟨w.heap.size + 1 + 1,0,none⟩ (.slice A2 n2 c2))) :=
    zfr hw (zac hB hb) (by show _ ≤ _; simp; omega) (fun ad e => by have:=hf ad e; show ad.block ≠ _; simp; omega) (fun ad e => by have:=hf ad e; omega) _
   clear hb hw hf hk2 hsz hk hB g1 hr1 hR
   go_wp2
   refine bodyPost_ret (v:=.agg #[.slice A2 n2 c2]) (by simp [results,Tryz.results79,go_sem,hc1]) rfl ?_
   exact HG.out
theorem lt_bits (x : Nat) : x < 2 ^ bitLen x:=by
 unfold bitLen
 split
 ·rename_i h; subst h; decide
 ·exact Nat.lt_log2_self
theorem shr_step (k j : Nat) : k / 2 ^ j = k / 2 ^ (j + 1) + k / 2 ^ (j + 1) + k / 2 ^ j % 2:=by
 rw [Nat.pow_succ,← Nat.div_div_eq_div_mul]; omega
end Go.Proofs.YtkiedljcgkoaiaaGreatDoor
