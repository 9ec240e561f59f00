/- What this claim leans on. -/
import Derived.Test.YtedbgdlbgohiiaaGreatDoorTVOne
import Derived.Test.YtedbgdlbgohiiaaGreatDoorTMMade
import Derived.ArgAppend
namespace Go.Proofs.YtedbgdlbgohiiaaGreatDoor
open Go Go.RowKit
set_option maxHeartbeats 16000000
set_option maxRecDepth 100000
set_option linter.unusedVariables false
set_option linter.unusedSimpArgs false
theorem zgV {r c : Int} {b : Bool} (h : zeE r c = b) (w : World) : Calls Tryz.prog 55 #[.int .i64 r,.int .i64 c] w (fun e w' => e = .returned (.bool b) ∧ w = w'):=h ▸ mat_may r c w
theorem zkH (fn : Fn) (first cap : Array Value) (w : World) : (Instr.makeFunc fn first cap).run Tryz.prog w = .ok (.func fn first cap) w:=rfl
theorem sz_one : SzQ 1 (1 : Rat):=⟨by decide,by decide⟩
theorem zkO (r c : Nat) : SzQ 1 (if r = c then (1 : Rat) else 0):=by split <;> first | exact sz_one | exact SzQ.zero
theorem zlz {n : Nat} {w : World} (hT : zak w) (hn : n ≤ 64) : Calls Tryz.prog 15 #[.int .i64 (n : Int)] w (zds w n n (zha n)):=by
 have H:=fun W => lh9 (zgV (zgU hn hn) W)
 obtain ⟨bx1,bx2,bz⟩:=zaz w 28 #[.slice none 0 0,.int .i64 0]
 have HM : Hid (Calls _ _ _ _ (zbz _ n n (zha n))):=zft (K:=1) (fun r c => if r = c then 1 else 0) 59 #[] n n _ (hT.on bx1) ⟨en_one1,fun r c _ _ w' hb => cl_one ((hT.on bx1).on hb) r c⟩ (fun r c _ _ => zkO r c) hn hn
 have HK:=lh9 bx2
 have HB:=lh9 bx1
 clear bx1 bx2 bz hT
 go_enter Tryz.func15,Tryz.ntmps15
 go_wp2_with fail
 refine (H _).out.mono ?_
 rintro e w1 ⟨rfl,rfl⟩
 go_wp2_with fail
 refine HM.out.mono ?_
 rintro e w3 ⟨A3,c3,rfl,hm3,hf3,hb⟩
 have hk3:=zac hb HK.out
 obtain ⟨sc0,sf0,sc1,sf1⟩:=st2 hk3 (.slice A3 n c3)
 obtain ⟨r0,r1⟩:=(sn2 hk3 (.slice A3 n c3) (.int .i64 (n : Int))).c2
 have HG:=lh9 (gmb2 hm3 (fun ad e => Nat.lt_of_lt_of_le HK.out.lt (hf3 ad e)) hk3 (zaa HB.out hb) (by omega))
 clear hb hk3 hm3 hf3 HK HB
 go_wp2
 refine bodyPost_ret (v:=.tuple #[.agg #[.slice A3 n c3,.int .i64 (n : Int)],.bool true]) (by simp [results,Tryz.results15,go_sem,r0,r1]) rfl ?_
 exact HG.out
section
variable {A : oA9} {n c m K : Nat} {MM : List (List Rat)} {w : World}
theorem zbK (hT : zak w) (h : zap w A n c m MM) (z : zas K MM) (hK : K + 2 ≤ 67108864:=by omega) : Calls Tryz.prog 32 #[.agg #[.slice A n c,.int .i64 (m : Int)]] w (zbz w m n (zaN n m MM)):=by
 obtain ⟨hn,hm⟩:=And.intro h.hn h.hm
 have HR:=fun W => lh9 (zcG A n c (m : Int) W)
 obtain ⟨bx1,bx2,bx3,bz⟩:=zbs w 28 28 #[.slice A n c,.int .i64 (m : Int)] #[.slice none 0 0,.int .i64 0]
 have HM : ∀ W,Below w.heap.size w W → Blk W w.heap.size 28 #[.slice A n c,.int .i64 (m : Int)] → Hid (Calls Tryz.prog 56 #[.int .i64 (m : Int),.int .i64 (n : Int),.func (.func 77) #[] #[.pointer (some ⟨w.heap.size,0,none⟩)]] W (zbz W m n (zaN n m MM))):=fun W hW hk => by
  have hh:=h.keep hW
  exact zft (K:=K) (fun r c => atM MM c r) 77 #[.pointer (some ⟨w.heap.size,0,none⟩)] m n W (hT.on hW) ⟨zkr,fun r c hr hc w' hb => zma (hh.keep hb) (zac hb hk) hc hr⟩ (fun r c hr hc => z.at_ h.dims hc hr) hm hn hK
 have HKM:=lh9 bx2
 have HK:=lh9 bx3
 have HB:=lh9 bx1
 obtain ⟨p0,p1⟩:=bx2.c2
 clear bx1 bx2 bx3 bz hT h z
 go_enter Tryz.func32,Tryz.ntmps32
 go_wp2_with fail
 generalize (w.alloc (.cells #[.slice A n c,.int .i64 (m : Int)] 28)).alloc (.cells #[.slice none 0 0,.int .i64 0] 28) = W1 at *
 have hbd:=(Below.refl W1.heap.size W1).drew
 refine rg (csc p0 (csc p1 csn)) (fun hHeld => ?_)
 clear p0 p1
 have HB:=lh9 (zaa HB.out hbd)
 have HK:=lh9 (zac hbd HK.out)
 have HKM:=lh9 (zac hbd HKM.out)
 clear hbd
 generalize W1.drew = D at *
 refine tk 0 ?_
 refine tk 1 ?_
 refine tk 2 ?_
 refine tk 4 ?_
 refine rc 3 (fun KK hK9 => ?_)
 go_simp
 refine (HR _).out.mono ?_
 rintro e w2 ⟨rfl,hb⟩
 refine hK9.out _ _ (Cs.below hHeld hb) (fun hHeld => ?_)
 clear hK9 KK
 have HB:=lh9 (zaa HB.out hb)
 have HK:=lh9 (zac hb HK.out)
 have HKM:=lh9 (zac hb HKM.out)
 clear hb
 refine rc 5 (fun KK hK9 => ?_)
 go_simp
 refine (HM _ HB.out HKM.out).out.mono ?_
 rintro e w3 ⟨A3,c3,rfl,hm3,hf3,hb⟩
 refine hK9.out _ _ (Cs.below hHeld hb) (fun hHeld => ?_)
 clear hK9 KK
 have hk3:=zac hb HK.out
 obtain ⟨sc0,sf0,sc1,sf1⟩:=st2 hk3 (.slice A3 m c3)
 obtain ⟨r0,r1⟩:=(sn2 hk3 (.slice A3 m c3) (.int .i64 (n : Int))).c2
 have HG:=lh9 (gm2 hm3 (fun ad e => Nat.lt_of_lt_of_le HK.out.lt (hf3 ad e)) hk3 (zaa HB.out hb) (by omega))
 clear hb hk3 hm3 hf3 HK HB HKM HM
 refine rc 6 (fun KK hK9 => ?_)
 go_simp
 refine hK9.out _ _ ?_ (fun hHeld => ?_)
 ·refine Cs.far hHeld (zeF _ _ _ _) ⟨?_,?_,trivial⟩ <;> (show w.heap.size ≠ w.heap.size + 1; omega)
 clear hK9 KK
 refine rdn ?_
 clear hHeld sc0 sf0 sc1 sf1
 go_wp2
 refine bodyPost_ret (v:=.agg #[.slice A3 m c3,.int .i64 (n : Int)]) (by simp [results,Tryz.results32,go_sem,r0,r1]) rfl ?_
 exact HG.out
end
theorem zhV (z : Int) (w : World) : Calls Tryz.prog 131 #[.int .i64 z] w (fun e w' => e = .returned (.bool false) ∧ w = w'):=by
 have h1 : (z != z) = false:=by simp
 go_enter Tryz.func131,Tryz.ntmps131
 go_wp2
 go_ret
 exact ⟨rfl,rfl⟩
theorem zjf (n m : Nat) (w : World) : Calls Tryz.prog 106 #[.int .i64 (n : Int),.int .i64 (m : Int)] w (fun e w' => e = .returned (.int .i64 (cmpN n m)) ∧ w = w'):=by
 have H1:=lh9 (zhV (n : Int) w)
 have H2:=lh9 (zhV (m : Int) w)
 unfold cmpN
 by_cases h1 : n < m
 ·have hd : decide ((n : Int) < (m : Int)) = true:=decide_eq_true (by omega)
  have hd' : decide (n < m) = true:=decide_eq_true (by omega)
  rw [if_pos h1]
  go_enter Tryz.func106,Tryz.ntmps106
  go_wp2_with fail
  refine H1.out.mono ?_
  rintro e w1 ⟨rfl,rfl⟩
  go_wp2_with fail
  refine H2.out.mono ?_
  rintro e w1 ⟨rfl,rfl⟩
  go_wp2
  go_ret
  exact ⟨rfl,rfl⟩
 ·have hd : decide ((n : Int) < (m : Int)) = false:=decide_eq_false (by omega)
  have hd' : decide (n < m) = false:=decide_eq_false (by omega)
  rw [if_neg h1]
  by_cases h2 : n = m
  ·rw [if_pos h2]
   have hd2 : decide ((m : Int) < (n : Int)) = false:=decide_eq_false (by omega)
   have hd3 : decide ((n : Int) > (m : Int)) = false:=decide_eq_false (by omega)
   have hd4 : decide (m < n) = false:=decide_eq_false (by omega)
   clear h1 h2
   go_enter Tryz.func106,Tryz.ntmps106
   go_wp2_with fail
   refine H1.out.mono ?_
   rintro e w1 ⟨rfl,rfl⟩
   go_wp2_with fail
   refine H2.out.mono ?_
   rintro e w1 ⟨rfl,rfl⟩
   go_wp2
   go_ret
   exact ⟨rfl,rfl⟩
  ·rw [if_neg h2]
   have hd2 : decide ((m : Int) < (n : Int)) = true:=decide_eq_true (by omega)
   have hd3 : decide ((n : Int) > (m : Int)) = true:=decide_eq_true (by omega)
   have hd4 : decide (m < n) = true:=decide_eq_true (by omega)
   clear h1 h2
   go_enter Tryz.func106,Tryz.ntmps106
   go_wp2_with fail
   refine H1.out.mono ?_
   rintro e w1 ⟨rfl,rfl⟩
   go_wp2_with fail
   refine H2.out.mono ?_
   rintro e w1 ⟨rfl,rfl⟩
   go_wp2
   go_ret
   exact ⟨rfl,rfl⟩
section
variable {K K' : Nat} {xs ys : List Rat} {A B : oA9} {n n' c d : Nat} {w : World}
theorem zng {z : Int} (hz : zdM xs ys = z) (hT : zak w) (ha : zaG w A n c xs) (hb : zaG w B n' d ys) (hx : zay K xs) (hy : zay K' ys) (hn : n ≤ 1073741824:=by omega) (hn' : n' ≤ 1073741824:=by omega) (hK : K ≤ 67108864:=by omega) (hK' : K' ≤ 67108864:=by omega) :
  Calls Tryz.prog 95 #[.slice A n c,.slice B n' d] w (zbT w z):=by
 have hla:=ha.len
 have hlb:=hb.len
 have HLA:=lh9 hla
 have HLB:=lh9 hlb
 have HZ:=lh9 hz
 have HSX : Hid (∀ i,i < n → SzQ K (xs.getD i 0)):=fun i hi => hx.at_ (by omega)
 have HSY : Hid (∀ i,i < n' → SzQ K' (ys.getD i 0)):=fun i hi => hy.at_ (by omega)
 unfold zbT
 have HA:=lh9 ha
 have HB9:=lh9 hb
 have HT:=lh9 (fun w' (hb : Below w.heap.size w w') => hT.on hb)
 clear hT ha hb hx hy hla hlb hz
 have hB:=Below.refl w.heap.size w
 have i0 : (0 : Int) ≤ (n : Int):=by omega
 obtain ⟨N,hN⟩ : ∃ N,min n n' = N:=⟨_,rfl⟩
 have hNn : N ≤ n:=by omega
 have hNm : N ≤ n':=by omega
 have HN:=lh9 hN
 have hmn1 : min (n : Int) (n' : Int) = (N : Int):=by omega
 have hmn2 : (if (n' : Int) < (n : Int) then (n' : Int) else (n : Int)) = (N : Int):=by split <;> omega
 have hmn3 : (if n' < n then (n' : Int) else (n : Int)) = (N : Int):=by split <;> omega
 clear hN
 go_enter Tryz.func95,Tryz.ntmps95
 go_wp2_with fail
 clear hmn1 hmn2 hmn3
 go_loopg [11] (N + 1) (fun g ix wr => ∃ (k : Nat),k ≤ N ∧ N < g + k ∧ ix = .int .i64 k ∧ Hid (zdM (xs.drop k) (ys.drop k) = z) ∧ Below w.heap.size w wr)
 case atStart => exact ⟨0,Nat.zero_le _,by omega,rfl,HZ,hB⟩
 case round =>
  clear hB
  obtain ⟨k,hkn,hg,rfl,hz0,hB⟩:=hrel
  by_cases hlt : k < N
  ·have hltn : k < n:=by omega
   have hltm : k < n':=by omega
   obtain ⟨ad,b1,B1,m1,d1,E1,u1,v1,rfl,-,hc0,hc1,hc2,hx⟩:=HA.out.get hB hltn
   obtain ⟨ae,b2,B2,m2,d2,E2,u2,v2,rfl,-,he0,he1,he2,hy⟩:=HB9.out.get hB hltm
   have hd1 : decide ((k : Int) < (N : Int)) = true:=decide_eq_true (by omega)
   have i1 : (0 : Int) ≤ (k : Int):=by omega
   have i2 : (k : Int) < (n : Int):=by omega
   have i3 : (k : Int) < (n' : Int):=by omega
   have HX:=lh9 hx
   have HY:=lh9 hy
   have HB1:=lh9 hB
   have hlx : k < xs.length:=by have:=HLA.out; omega
   have hly : k < ys.length:=by have:=HLB.out; omega
   clear hx hy hB
   by_cases h0 : xs.getD k 0 = ys.getD k 0
   ·have HQ:=lh9 (decide_eq_true h0)
    have HZ1 : Hid (zdM (xs.drop (k + 1)) (ys.drop (k + 1)) = z):=by
     show _ = _
     rw [← zgF hlx hly h0]; exact hz0.out
    clear h0 hlx hly
    go_wp2_with fail
    have hBw:=(Below.refl wr.heap.size wr).drew
    refine rg (csc hc0 (csc hc1 (csc hc2 (csc he0 (csc he1 (csc he2 csn)))))) (fun hHeld => ?_)
    refine tk 0 ?_
    refine tk 1 ?_
    refine tk 2 ?_
    refine tk 3 ?_
    refine tk 4 ?_
    refine tk 5 ?_
    refine tk 6 ?_
    refine tk 7 ?_
    refine rc 8 (fun KK hK9 => ?_)
    go_simp
    (with_reducible refine (q_same HQ.out (HT.out _ (zaa HB1.out hBw)) (HX.out.below hBw) (HY.out.below hBw) (HSX.out k hltn) (HSY.out k hltm) hK hK').mono ?_); rintro e wa ⟨rfl,hb⟩; have hBw:=zaa hBw hb; refine hK9.out _ _ (Cs.below hHeld hb) (fun hHeld => ?_); clear hK9 KK hb
    refine tk 9 ?_
    refine rdn ?_
    have HB2:=lh9 (zaa HB1.out hBw)
    clear hHeld hBw hc0 hc1 hc2 he0 he1 he2 HX HY HB1
    go_wp2
    go_roundg (N - k)
    case measure => omega
    case rel => exact ⟨k + 1,by omega,by omega,by go_num,HZ1,HB2.out⟩
   ·have HQ:=lh9 (decide_eq_false h0)
    have HF : Hid (zeR (xs.getD k 0) (ys.getD k 0) = z):=by
     show _ = _
     rw [← zgl hlx hly h0]; exact hz0.out
    clear h0 hlx hly
    go_wp2_with fail
    have hBw:=(Below.refl wr.heap.size wr).drew
    refine rg (csc hc0 (csc hc1 (csc hc2 (csc he0 (csc he1 (csc he2 csn)))))) (fun hHeld => ?_)
    refine tk 0 ?_
    refine tk 1 ?_
    refine tk 2 ?_
    refine tk 3 ?_
    refine tk 4 ?_
    refine tk 5 ?_
    refine tk 6 ?_
    refine tk 7 ?_
    refine rc 8 (fun KK hK9 => ?_)
    go_simp
    (with_reducible refine (q_same HQ.out (HT.out _ (zaa HB1.out hBw)) (HX.out.below hBw) (HY.out.below hBw) (HSX.out k hltn) (HSY.out k hltm) hK hK').mono ?_); rintro e wa ⟨rfl,hb⟩; have hBw:=zaa hBw hb; refine hK9.out _ _ (Cs.below hHeld hb) (fun hHeld => ?_); clear hK9 KK hb
    refine tk 9 ?_
    refine rdn ?_
    have HB2:=lh9 (zaa HB1.out hBw)
    have HX2:=lh9 (HX.out.below hBw)
    have HY2:=lh9 (HY.out.below hBw)
    obtain ⟨c0,c1,c2,e0,e1,e2,-⟩:=hHeld
    clear hBw hc0 hc1 hc2 he0 he1 he2 HX HY HB1
    go_wp2_with fail
    have hBw:=(Below.refl wa.heap.size wa).drew
    refine rg (csc c0 (csc c1 (csc c2 (csc e0 (csc e1 (csc e2 csn)))))) (fun hHeld => ?_)
    refine tk 0 ?_
    refine tk 1 ?_
    refine tk 2 ?_
    refine tk 3 ?_
    refine tk 4 ?_
    refine tk 5 ?_
    refine tk 6 ?_
    refine tk 7 ?_
    refine rc 8 (fun KK hK9 => ?_)
    go_simp
    (with_reducible refine (zbE HF.out (q_cmp (HT.out _ (zaa HB2.out hBw)) (HX2.out.below hBw) (HY2.out.below hBw) (HSX.out k hltn) (HSY.out k hltm) hK hK')).mono ?_); rintro e wb ⟨rfl,hb⟩; have hBw:=zaa hBw hb; refine hK9.out _ _ (Cs.below hHeld hb) (fun hHeld => ?_); clear hK9 KK hb
    refine tk 9 ?_
    refine rdn ?_
    have HB3:=lh9 (zaa HB2.out hBw)
    clear hHeld hBw c0 c1 c2 e0 e1 e2
    go_wp2
    go_ret
    exact ⟨rfl,HB3.out⟩
  ·have hk : k = N:=by omega
   subst hk
   have hd1 : decide ((k : Int) < (k : Int)) = false:=by simp
   have HF : Hid (cmpN n n' = z):=by
    have h1:=HLA.out
    have h2:=HLB.out
    have h3:=HN.out
    have h4:=hz0.out
    rw [cmpV_end (by rw [h1,h2]; exact h3.symm),h1,h2] at h4
    exact h4
   have HB2:=lh9 hB
   have H1:=lh9 (zjf n n' wr)
   rw [HF.out] at H1
   clear hB
   go_wp2_with fail
   refine H1.out.mono ?_
   rintro e w1 ⟨rfl,rfl⟩
   go_wp2
   go_ret
   exact ⟨rfl,HB2.out⟩
theorem zdT {t : Bool} (e : decide (xs = ys) = t) (hT : zak w) (ha : zaG w A n c xs) (hb : zaG w B n' d ys) (hx : zay K xs) (hy : zay K' ys) (hn : n ≤ 1073741824:=by omega) (hn' : n' ≤ 1073741824:=by omega) (hK : K ≤ 67108864:=by omega) (hK' : K' ≤ 67108864:=by omega) :
  Calls Tryz.prog 53 #[.slice A n c,.slice B n' d] w (fun e w' => e = .returned (.bool t) ∧ Below w.heap.size w w'):=by
 obtain ⟨z,hz⟩ : ∃ z,zdM xs ys = z:=⟨_,rfl⟩
 have H:=lh9 (zng hz hT ha hb hx hy hn hn' hK hK')
 have ht : (z == 0) = t:=by
  rw [← e,← hz]
  by_cases h : xs = ys
  ·rw [decide_eq_true h,(zit xs ys).2 h]; rfl
  ·rw [decide_eq_false h,beq_eq_false_iff_ne]
   exact fun h9 => h ((zit xs ys).1 h9)
 clear hz hT ha hb hx hy e
 have HE:=lh9 ht
 clear ht
 go_enter Tryz.func53,Tryz.ntmps53
 go_wp2_with fail
 refine H.out.mono ?_
 rintro e w1 ⟨rfl,hb⟩
 go_wp2
 go_ret
 exact ⟨by rw [← HE.out]; rfl,hb⟩
end
theorem zaD.vals {R : RP Rat} {w : World} {ad : Addr} {n : Nat} {Ls : List (List Rat)} (h : zaD R w (some ad) n Ls) : ∃ vs : List Value,vs.length = n ∧ (∀ u ∈ vs,zbV u) ∧ (∀ j u,vs[j]? = some u → w.cell? (ad.add j) = some u) ∧ ∀ (i : Nat) (L : List Rat),Ls[i]? = some L → ∃ (B : oA9) (d : Nat),vs[i]? = some (Value.slice B L.length d) ∧ R w B L.length d L:=by
 have hl:=h.len
 have each : ∀ i,i < n → ∃ u,w.cell? (ad.add i) = some u ∧ zbV u:=fun i hi => by
  obtain ⟨ad',B,d,e,_,h2,_⟩:=h.num i _ (zcB (d:=[]) (by omega))
  injection e with e
  subst e
  exact ⟨_,h2,_,_,_,rfl⟩
 refine ⟨(List.range n).map fun i => (w.cell? (ad.add i)).getD undef,by simp,fun u hu => ?_,fun j u hu => ?_,fun i L hi => ?_⟩
 ·obtain ⟨i,hi,rfl⟩:=List.mem_map.1 hu
  obtain ⟨u,h1,h2⟩:=each i (List.mem_range.1 hi)
  rw [h1]; exact h2
 ·have hj : j < n:=by
   have:=(List.getElem?_eq_some_iff.1 hu).1
   simpa using this
  obtain ⟨u',h1,h2⟩:=each j hj
  rw [List.getElem?_map,List.getElem?_range hj] at hu
  injection hu with hu
  dsimp only at hu
  rw [h1] at hu ⊢
  rw [← hu]; rfl
 ·have hlt:=(List.getElem?_eq_some_iff.1 hi).1
  obtain ⟨ad',B,d,e,_,h2,h3⟩:=h.num i L hi
  injection e with e
  subst e
  refine ⟨B,d,?_,h3⟩
  rw [List.getElem?_map,List.getElem?_range (by omega)]
  show some ((w.cell? (ad.add i)).getD undef) = _
  rw [h2]; rfl
structure zee (w : World) (base g n cap : Nat) (Ls : List (List Rat)) : Prop where
 ge : base ≤ g
 len : Ls.length = n
 fits : n ≤ cap
 most : cap ≤ 9223372036854775807
 blk : ∃ cs : Array Value,Blk w g 51 cs ∧ (∀ u ∈ cs.toList,zbV u) ∧ cs.size = cap
 num : ∀ i L,Ls[i]? = some L → ∃ (B : oA9) (d : Nat),w.cell? ⟨g,i,none⟩ = some (.slice B L.length d) ∧ zaG w B L.length d L
theorem zee.below {w w' : World} {base g n cap : Nat} {Ls : List (List Rat)} (h : zee w base g n cap Ls) (hb : Below w.heap.size w w') : zee w' base g n cap Ls:=by
 refine ⟨h.ge,h.len,h.fits,h.most,?_,fun i L hi => ?_⟩
 ·obtain ⟨cs,hk,h1,h2⟩:=h.blk
  exact ⟨cs,zac hb hk,h1,h2⟩
 ·obtain ⟨B,d,h1,h2⟩:=h.num i L hi
  exact ⟨B,d,zab hb h1,zaG.keep h2 hb⟩
theorem zee.rows {w : World} {base g n cap : Nat} {Ls : List (List Rat)} (h : zee w base g n cap Ls) : zaD (zaJ zaj) w (some ⟨g,0,none⟩) n Ls :=
 ⟨h.len,fun i L hi => by
  obtain ⟨cs,hk,_⟩:=h.blk
  obtain ⟨B,d,h1,h2⟩:=h.num i L hi
  exact ⟨_,B,d,rfl,hk.lt,by rw [zaL]; exact h1,h2⟩⟩
def zgy (w : World) (Ls : List (List Rat)) (e : Ending) (w' : World) : Prop:=∃ (v : Value) (vs : List Value),e = .returned v ∧ zby (zaJ zaj) w' w.heap.size 51 v Ls vs ∧ Below w.heap.size w w'
theorem zle {A : oA9} {n c : Nat} {Ls : List (List Rat)} {w : World} (h : zaD (zaJ zaj) w A n Ls) (hn : n ≤ 1048576) :
  Calls Tryz.prog 85 #[.slice A n c] w (zgy w Ls):=by
 obtain ⟨i0,hi0,hz0,hz1,hz2⟩:=info_parts zfr
 have q : ∀ (w : World) (a : oA9) (n c n' c' : Nat),(binOp .eql 26 (.slice a n c) (.slice none n' c')).run Tryz.prog w = .ok (.bool a.isNone) w:=fun w a n c n' c' => Lib.run_eql_slice_nil w _ _ a n c n' c' Tryz.underlying26
 rcases A with _ | ad
 ·have hl:=h.len
  have hn0 : Ls = []:=by
   rcases Nat.eq_zero_or_pos n with h0 | h0
   ·exact List.eq_nil_of_length_eq_zero (by omega)
   ·obtain ⟨ad,B,d,e,_⟩:=h.num 0 _ (zcB (d:=[]) (by omega))
    cases e
  subst hn0
  clear h hl
  go_enter Tryz.func85,Tryz.ntmps85
  go_wp2
  go_ret
  exact ⟨_,[],rfl,zby.nil _ _ _,Below.refl _ _⟩
 ·obtain ⟨vs,h1,h2,h3,h4⟩:=h.vals
  have hl:=h.len
  obtain ⟨t1,t2,-⟩:=zaz w 51 #[]
  have H3 : Hid (∀ j u,vs[j]? = some u → (w.alloc (.cells #[] 51)).cell? (ad.add j) = some u):=fun j u hu => zab t1 (h3 j u hu)
  have H4 : Hid (∀ (i : Nat) (L : List Rat),Ls[i]? = some L → ∃ (B : oA9) (d : Nat),vs[i]? = some (Value.slice B L.length d) ∧ zaG (w.alloc (.cells #[] 51)) B L.length d L):=fun i L hi => by
   obtain ⟨B,d,h5,h6⟩:=h4 i L hi
   exact ⟨B,d,h5,zaG.keep h6 t1⟩
  have HL:=lh9 hl
  have HV:=lh9 h1
  have HSL:=lh9 h2
  have HONE : Hid (∀ u ∈ vs,u.oneCell' = true):=fun u hu => by obtain ⟨A,n,c,e⟩:=h2 u hu; rw [e]; rfl
  have HZS : Hid (∀ u ∈ (Value.slice none 0 0).cells.toList,zbV u):=by intro u hu; simp [Value.cells] at hu; exact ⟨_,_,_,hu⟩
  have HRS : Hid (zbm (w.alloc (.cells #[] 51)) (.slice (some ⟨w.heap.size,0,none⟩) 0 0)):=fun g hg => by
   simp [Value.ownBlock] at hg
   subst hg
   exact ⟨#[],_,t2,fun u hu => by simp at hu⟩
  have HB:=lh9 t1
  clear h h1 h2 h3 h4 hl t1 t2
  go_enter Tryz.func85,Tryz.ntmps85
  go_wp2_with (at_builtin; go_loud (refine zbR _ rfl (.tmp 5) (.tmp 6) 26 rfl w.heap.size 51 i0 (.slice none 0 0) 1 24 Tryz.underlying26 hi0 hz0 hz1 hz2 rfl (by decide) (.slice (some ⟨w.heap.size,0,none⟩) 0 0) 0 [] rfl (World.ownsRow_made w #[] 0 (Nat.le_refl _) (Nat.zero_le _) rfl) ad n c vs rfl (by have:=HV.out; omega) H3.out HONE.out (by unfold maxLen; omega) (by omega) HB.out.size HRS.out HZS.out HSL.out ?_; intro v' w1 hown' hgrow hat hsl'))
  have G : Hid (zgy w Ls (.returned v') w1):=by
   refine ⟨v',vs,rfl,⟨by rw [HL.out]; simpa using hown',hsl',fun i L hi => ?_⟩,HB.out.grown hgrow HB.out.size (fun g hg => by simp [Value.ownBlock] at hg; omega)⟩
   obtain ⟨B,d,h5,h6⟩:=H4.out i L hi
   exact ⟨B,d,h5,(zaA zam).grown h6 hgrow HRS.out⟩
  clear hown' hgrow hat hsl'
  go_wp2
  go_ret
  exact G.out
end Go.Proofs.YtedbgdlbgohiiaaGreatDoor
