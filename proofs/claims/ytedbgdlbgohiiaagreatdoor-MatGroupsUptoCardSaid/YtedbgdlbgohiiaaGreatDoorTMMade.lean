/- What this claim leans on. -/
import Derived.Test.YtedbgdlbgohiiaaGreatDoorTMMat
namespace Go.Proofs.YtedbgdlbgohiiaaGreatDoor
open Go Go.RowKit
set_option maxHeartbeats 16000000
set_option maxRecDepth 100000
set_option linter.unusedVariables false
set_option linter.unusedSimpArgs false
theorem zfH (n m : Nat) (f : Nat → Nat → Rat) : (zcQ n m f).length = n:=by simp [zcQ]
theorem zhr {n m : Nat} (f : Nat → Nat → Rat) {r : Nat} (h : r < n) : (zcQ n m f)[r]? = some ((List.range m).map (f r)):=by
 unfold zcQ
 rw [List.getElem?_map,List.getElem?_range h]
 rfl
theorem zkT (m : Nat) (f : Nat → Rat) : ((List.range m).map f).length = m:=by simp
theorem zkS {m : Nat} (f : Nat → Rat) {c : Nat} (h : c < m) : ((List.range m).map f)[c]? = some (f c):=by
 rw [List.getElem?_map,List.getElem?_range h]
 rfl
theorem zfw {w : World} {g n m : Nat} {M : List (List Rat)} (h : zaQ (zaJ zaj) w 51 g n M) (hd : zbU M n m) (hn : n ≤ 64) (hm : m ≤ 64) : zap w (some ⟨g,0,none⟩) n n m M:=⟨hd,Nat.le_refl _,by omega,hn,hm,h.rows,fun ad e => by obtain ⟨cs,hk,_⟩:=h.blk; injection e with e; subst e; exact ⟨cs,hk⟩⟩
def GivesAt (f : Nat → Nat → Rat) (F : FuncId) (cap : Array Value) (n m : Nat) (w : World) : Prop :=
 (∀ (args : Array Value) (w' : World),Sem.run Tryz.prog (callFunc F args) w' = .ok (.enter F args) w') ∧
   ∀ r c,r < n → c < m → ∀ w',Below w.heap.size w w' → Calls Tryz.prog F (#[.int .i64 (r : Int),.int .i64 (c : Int)] ++ cap) w' (zaH w' (f r c))
theorem zft {K : Nat} (f : Nat → Nat → Rat) (F : FuncId) (cap : Array Value) (n m : Nat) (w : World) (hT : zak w) (hG : GivesAt f F cap n m w) (hS : ∀ r c,r < n → c < m → SzQ K (f r c)) (hn : n ≤ 64:=by omega) (hm : m ≤ 64:=by omega) (hK : K + 2 ≤ 67108864:=by omega) :
  Calls Tryz.prog 56 #[.int .i64 (n : Int),.int .i64 (m : Int),.func (.func F) #[] cap] w (zbz w n m (zcQ n m f)):=by
 obtain ⟨hEn,hF⟩:=hG
 have HF:=lh9 hF
 have HT:=lh9 (fun w' (hb : Below w.heap.size w w') => hT.on hb)
 have HLM:=lh9 (zfH n m f)
 have HGM : Hid (∀ r,r < n → (zcQ n m f)[r]? = some ((List.range m).map (f r))):=fun r hr => zhr f hr
 have HGR : Hid (∀ r c,c < m → ((List.range m).map (f r))[c]? = some (f r c)):=fun r c hc => zkS (f r) hc
 have HLR : Hid (∀ r,((List.range m).map (f r)).length = m):=fun r => zkT m (f r)
 have HSR : Hid (∀ r,r < n → zay K ((List.range m).map (f r))):=fun r hr x hx => by
  obtain ⟨c,hc,rfl⟩:=List.mem_map.1 hx
  exact hS r c hr (List.mem_range.1 hc)
 have HDM:=lh9 (zcx n m f)
 obtain ⟨ROW,hROW⟩ : ∃ ROW : Nat → List Rat,(fun r => (List.range m).map (f r)) = ROW:=⟨_,rfl⟩
 have hROW2 : ∀ r,(List.range m).map (f r) = ROW r:=fun r => by rw [← hROW]
 simp only [hROW2] at HGM HGR HLR HSR
 obtain ⟨M,hM⟩ : ∃ M,zcQ n m f = M:=⟨_,rfl⟩
 rw [hM] at HLM HGM HDM ⊢
 obtain ⟨Z,hZ⟩:=zdy m (by omega)
 have HMK : ∀ W,(Instr.makeSlice 51 (.int .i64 (m : Int)) (.int .i64 (m : Int))).run Tryz.prog W = .ok (.slice (some ⟨W.heap.size,0,none⟩) m m) (W.alloc (.cells Z 48)):=fun W => (hZ W).1
 have HOWN:=lh9 (fun W => (hZ W).2)
 obtain ⟨Y,hY⟩:=zhU n (by omega)
 have HMKV : ∀ W,(Instr.makeSlice 26 (.int .i64 (n : Int)) (.int .i64 (n : Int))).run Tryz.prog W = .ok (.slice (some ⟨W.heap.size,0,none⟩) n n) (W.alloc (.cells Y 51)):=fun W => (hY W).1
 have HOWNV:=lh9 (fun W => (hY W).2)
 obtain ⟨b1,b2,b3,b4,b5⟩:=zbd w 28 51 28 #[.slice none 0 0,.int .i64 0] Y #[.slice (some ⟨w.heap.size + 1,0,none⟩) n n,.int .i64 (m : Int)]
 clear hT hF hS hROW hROW2 hM hZ hY
 unfold zbz
 have i0 : (0 : Int) ≤ (n : Int):=by omega
 have i1 : (0 : Int) ≤ (m : Int):=by omega
 go_enter Tryz.func56,Tryz.ntmps56
 go_wp2_with fail
 have hrow : zaQ (zaJ zaj) (((w.alloc (.cells #[.slice none 0 0,.int .i64 0] 28)).alloc (.cells Y 51)).alloc (.cells #[.slice (some ⟨w.heap.size + 1,0,none⟩) n n,.int .i64 (m : Int)] 28)) 51 (w.heap.size + 1) n (zbB [] M n 0):=by
  have h1:=HOWNV.out (w.alloc (.cells #[.slice none 0 0,.int .i64 0] 28))
  have e1 : (w.alloc (.cells #[.slice none 0 0,.int .i64 0] 28)).heap.size = w.heap.size + 1:=by simp
  rw [e1] at h1
  rw [zbj]
  exact h1.below (zaA zam) (zaz _ _ _).1
 clear b3 HOWNV HMKV
 obtain ⟨g0,hg0⟩ : ∃ g,w.heap.size = g:=⟨_,rfl⟩
 have hwg : w.heap.size ≤ g0:=by omega
 rw [hg0] at hrow b1 b2 b4 b5 ⊢
 generalize ((w.alloc (.cells #[.slice none 0 0,.int .i64 0] 28)).alloc (.cells Y 51)).alloc (.cells #[.slice (some ⟨g0 + 1,0,none⟩) n n,.int .i64 (m : Int)] 28) = W1 at *
 rw [← hg0] at b1
 clear hg0
 go_loopg [18] (n + 1) (fun g ix wr => ∃ (k : Nat),k ≤ n ∧ n < g + k ∧ ix = .int .i64 k ∧ zaQ (zaJ zaj) wr 51 (g0 + 1) n (zbB [] M n k) ∧ Below w.heap.size w wr ∧ Blk wr g0 28 #[.slice none 0 0,.int .i64 0] ∧ Blk wr (g0 + 1 + 1) 28 #[.slice (some ⟨g0 + 1,0,none⟩) n n,.int .i64 (m : Int)])
 case atStart => exact ⟨0,Nat.zero_le _,by omega,rfl,hrow,b1,b2,b4⟩
 case round =>
  clear hrow b1 b2 b4 b5
  obtain ⟨k,hkn,hg,rfl,hrow,hB,hk0,hk2⟩:=hrel
  obtain ⟨wo,hwo⟩ : ∃ wo,wo = wr:=⟨_,rfl⟩
  subst hwo
  by_cases hlt : k < n
  ·have hd1 : decide ((k : Int) < (n : Int)) = true:=decide_eq_true (by omega)
   have i2 : (0 : Int) ≤ (k : Int):=by omega
   have i3 : (k : Int) < (n : Int):=by omega
   have hg1:=hrow.lt
   have HROW:=lh9 hrow
   have HB:=lh9 hB
   have HK0:=lh9 hk0
   have HK2:=lh9 hk2
   have HGRK:=lh9 (HGR.out k)
   have HLRK:=lh9 (HLR.out k)
   have HSRK:=lh9 (HSR.out k hlt)
   have HGMK:=lh9 (HGM.out k hlt)
   obtain ⟨R,hR⟩ : ∃ R,ROW k = R:=⟨_,rfl⟩
   rw [hR] at HGRK HLRK HSRK HGMK
   clear hrow hB hk0 hk2 hR
   go_wp2_with fail
   have hin:=HOWN.out wo
   have hb1 : Below wo.heap.size wo (wo.alloc (.cells Z 48)):=(Below.refl _ wo).alloc (Nat.le_refl _) _
   rw [← zbj 0 R m] at hin
   obtain ⟨gr,hgr⟩ : ∃ g,wo.heap.size = g:=⟨_,rfl⟩
   have hwr : wo.heap.size ≤ gr:=by omega
   rw [hgr] at hin ⊢
   generalize wo.alloc (.cells Z 48) = W2 at *
   clear hgr
   go_loopg [25] (m + 1) (fun g jx wr => ∃ (j : Nat),j ≤ m ∧ m < g + j ∧ jx = .int .i64 j ∧ zco wr gr m (zbB 0 R m j) ∧ Below wo.heap.size wo wr)
   case atStart => exact ⟨0,Nat.zero_le _,by omega,rfl,hin,hb1⟩
   case round =>
    clear hin hb1
    obtain ⟨j,hjm,hg2,rfl,hin,hb1⟩:=hrel
    by_cases hjl : j < m
    ·have hd2 : decide ((j : Int) < (m : Int)) = true:=decide_eq_true (by omega)
     have i4 : (0 : Int) ≤ (j : Int):=by omega
     have i5 : (j : Int) < (m : Int):=by omega
     have HIN:=lh9 hin
     have HB1:=lh9 hb1
     have HGJ:=lh9 (HGRK.out j hjl)
     clear hin hb1
     go_wp2_with fail
     refine (HF.out k j hlt hjl _ (zaa HB.out HB1.out)).mono ?_
     rintro e w3 ⟨b3,A3,n3,c3,E3,k3,f3,rfl,hw3,hb⟩
     have hr3:=HIN.out.keep hb
     have hr4:=zaZ.set_ zam hr3 hjl hw3
     rw [zbw 0 R m j HLRK.out hjl _ HGJ.out] at hr4
     obtain ⟨q0,q1,q2,sc0,sf0,sc1,sf1,sc2,sf2⟩:=hr3.ready hjl (.bool b3) (.slice A3 n3 c3)
     have HR4:=lh9 hr4
     have HB4:=lh9 (zch (j * 3) (j * 3 + 1) (j * 3 + 2) (.bool b3) (.slice A3 n3 c3) (.slice E3 k3 f3) hwr (zaa HB1.out hb))
     clear hr3 hr4 hb hw3 HIN HB1
     go_wp2
     go_roundg (m - j)
     case measure => omega
     case rel => exact ⟨j + 1,by omega,by omega,by go_num,HR4.out,HB4.out⟩
    ·have hj : j = m:=by omega
     subst hj
     have hd2 : decide ((j : Int) < (j : Int)) = false:=by simp
     have HV:=lh9 (zbD (zbv 0 R j HLRK.out ▸ hin))
     have HB1:=lh9 hb1
     have hz2:=zac hb1 HK2.out
     have HROW1:=lh9 (HROW.out.below (zaA zam) hb1)
     have HB2:=lh9 (zaa HB.out hb1)
     have HK01:=lh9 (zac hb1 HK0.out)
     have HK21:=lh9 hz2
     obtain ⟨p0,p1⟩:=hz2.c2
     have hbd:=(Below.refl wr.heap.size wr).drew
     clear hin hb1
     go_wp2_with fail
     refine rg (csc p0 csn) (fun hHeld => ?_)
     clear p0 p1
     have HV:=lh9 (HV.out.keep hbd)
     have HROW1:=lh9 (HROW1.out.below (zaA zam) hbd)
     have HB2:=lh9 (zaa HB2.out hbd)
     have HK01:=lh9 (zac hbd HK01.out)
     have HK21:=lh9 (zac hbd HK21.out)
     clear hbd
     generalize wr.drew = D at *
     refine tk 0 ?_
     refine tk 1 ?_
     refine tk 2 ?_
     refine tk 3 ?_
     refine rc 4 (fun KK hK9 => ?_)
     go_simp
     (with_reducible refine (vec_copy (HT.out _ HB2.out) HV.out HSRK.out).mono ?_)
     rintro e w5 ⟨g5,rfl,hg5,ho5,hb⟩
     refine hK9.out _ _ (Cs.below hHeld hb) (fun hHeld => ?_)
     clear hK9 KK
     have hr5:=HROW1.out.below (zaA zam) hb
     have hr6:=zaQ.set_ (zaA zam) hr5 hlt (zbD ho5) HLRK.out
     rw [zbw [] M n k HLM.out hlt _ HGMK.out] at hr6
     obtain ⟨q0,sc0,sf0⟩:=hr5.ready hlt
     have hne : g0 + 1 + 1 ≠ g0 + 1:=by omega
     have HR6:=lh9 hr6
     have HB6:=lh9 (zae (p:=⟨g0 + 1,k,none⟩) (.slice (some ⟨g5,0,none⟩) j j) (show w.heap.size ≤ g0 + 1 by omega) (zaa HB2.out hb))
     have HK06:=lh9 (Blk.far (p:=⟨g0 + 1,k,none⟩) (zac hb HK01.out) (by show g0 ≠ g0 + 1; omega) (.slice (some ⟨g5,0,none⟩) j j))
     have HK26:=lh9 (Blk.far (p:=⟨g0 + 1,k,none⟩) (zac hb HK21.out) (by show g0 + 1 + 1 ≠ g0 + 1; omega) (.slice (some ⟨g5,0,none⟩) j j))
     clear hb hr5 hr6 ho5 HROW1 HB2 HK01 HK21 HV
     refine tk 5 ?_
     refine rc 6 (fun KK hK9 => ?_)
     go_simp
     refine hK9.out _ _ ?_ (fun hHeld => ?_)
     ·refine Cs.far hHeld ((zdn.refl (g0 + 1) _).set_ k _) ⟨?_,trivial⟩
      show g0 + 1 + 1 ≠ g0 + 1
      omega
     clear hK9 KK
     refine rdn ?_
     clear hHeld sc0 sf0
     go_wp2
     go_roundg (n - k)
     case measure => omega
     case rel => exact ⟨k + 1,by omega,by omega,by go_num,HR6.out,HB6.out,HK06.out,HK26.out⟩
  ·have hk : k = n:=by omega
   subst hk
   have hd1 : decide ((k : Int) < (k : Int)) = false:=by simp
   have HM:=lh9 (zfw (zbv [] M k HLM.out ▸ hrow) HDM.out hn hm)
   obtain ⟨p0,p1⟩:=hk2.c2
   obtain ⟨sc0,sf0,sc1,sf1⟩:=st2 hk0 (.slice (some ⟨g0 + 1,0,none⟩) k k)
   obtain ⟨r0,r1⟩:=(sn2 hk0 (.slice (some ⟨g0 + 1,0,none⟩) k k) (.int .i64 (m : Int))).c2
   have HG:=lh9 (gm2 HM.out (fun ad e => by injection e with e; subst e; show g0 < g0 + 1; omega) hk0 hB hwg)
   unfold zbz at HG
   clear hrow hB hk0 hk2
   go_wp2
   refine bodyPost_ret (v:=.agg #[.slice (some ⟨g0 + 1,0,none⟩) k k,.int .i64 (m : Int)]) (by simp [results,Tryz.results56,go_sem,r0,r1]) rfl ?_
   exact HG.out
end Go.Proofs.YtedbgdlbgohiiaaGreatDoor
