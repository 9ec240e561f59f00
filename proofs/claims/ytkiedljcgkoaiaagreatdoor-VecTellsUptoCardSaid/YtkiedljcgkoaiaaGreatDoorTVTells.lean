/- What this claim leans on. -/
import Derived.Test.YtkiedljcgkoaiaaGreatDoorTVAwake
import Derived.Test.YtkiedljcgkoaiaaGreatDoorTVLook
import Derived.Test.YtkiedljcgkoaiaaGreatDoorTVRefs
namespace Go.Proofs.YtkiedljcgkoaiaaGreatDoor
open Go Go.RowKit
set_option maxHeartbeats 16000000
set_option maxRecDepth 100000
set_option linter.unusedVariables false
set_option linter.unusedSimpArgs false
theorem zjM (xs : List Rat) (x : Rat) : zaV (xs ++ [x]) = if zaV xs < 0 then (if x = 0 then -1 else (xs.length : Int)) else zaV xs:=by
 by_cases h : ∀ y ∈ xs,y = 0
 ·rw [if_pos ((zfk xs).2 h)]
  by_cases h0 : x = 0
  ·rw [if_pos h0]
   refine zgu fun j hj => ?_
   have hm : (xs ++ [x])[j] ∈ xs ++ [x]:=List.getElem_mem hj
   rw [List.getD_eq_getElem?_getD,List.getElem?_eq_getElem hj]
   show (xs ++ [x])[j] = 0
   rcases List.mem_append.1 hm with h1 | h1
   ·exact h _ h1
   ·rw [List.mem_singleton.1 h1]; exact h0
  ·rw [if_neg h0]
   refine zgc (by simp) (fun j hj => ?_) ?_
   ·rw [List.getD_eq_getElem?_getD,List.getElem?_append_left hj,List.getElem?_eq_getElem hj]
    exact h _ (List.getElem_mem hj)
   ·rw [List.getD_eq_getElem?_getD,List.getElem?_append_right (Nat.le_refl _),Nat.sub_self]
    exact h0
 ·have hn : ¬ zaV xs < 0:=fun h1 => h ((zfk xs).1 h1)
  rw [if_neg hn]
  have ha : ¬ xs.all (fun x => decide (x = 0)) = true:=fun h1 => h fun y hy => of_decide_eq_true (List.all_eq_true.1 h1 y hy)
  have hb : ¬ (xs ++ [x]).all (fun x => decide (x = 0)) = true:=fun h1 => ha (by rw [List.all_append,Bool.and_eq_true] at h1; exact h1.1)
  unfold zaV
  rw [if_neg ha,if_neg hb,List.findIdx_append,if_pos]
  refine List.findIdx_lt_length_of_exists ?_
  refine Decidable.byContradiction fun h2 => h fun y hy => ?_
  refine Decidable.byContradiction fun h3 => h2 ⟨y,hy,by simp [h3]⟩
theorem zjN {xs : List Rat} {k : Nat} (h : k < xs.length) : zaV (xs.take (k + 1)) = if zaV (xs.take k) < 0 then (if xs.getD k 0 = 0 then -1 else (k : Int)) else zaV (xs.take k):=by
 have e : xs.take (k + 1) = xs.take k ++ [xs.getD k 0]:=by rw [List.take_succ_eq_append_getElem h,List.getD_eq_getElem?_getD,List.getElem?_eq_getElem h]; rfl
 rw [e,zjM,List.length_take,Nat.min_eq_left (by omega)]
theorem zmW (xs : List Rat) : -1 ≤ zaV xs ∧ zaV xs ≤ xs.length:=by
 unfold zaV
 split
 ·omega
 ·have:=List.findIdx_le_length (xs:=xs) (p:=fun x => !decide (x = 0)); omega
theorem zeK (n : Nat) : decide (zaV (List.replicate n 0) < 0) = true:=decide_eq_true ((zfk _).2 fun x hx => (List.mem_replicate.1 hx).2)
theorem zkL (n k : Nat) : (zda n k).length = n:=by unfold zda; simp
theorem zmI {n k : Nat} (h : k < n) : (zda n k).getD k 0 = 1:=by
 unfold zda
 rw [List.getD_eq_getElem?_getD,List.getElem?_set_self (by simpa using h)]; rfl
theorem zlS {n k : Nat} (h : k < n) : zaV (zda n k) = (k : Int):=by
 refine zgc (by rw [zkL]; exact h) (fun j hj => ?_) (by rw [zmI h]; decide)
 unfold zda
 rw [List.getD_eq_getElem?_getD,List.getElem?_set_ne (by omega),List.getElem?_replicate,if_pos (by omega)]; rfl
theorem unit_sz (n k : Nat) : zau 1 (zda n k):=fun x hx => by
 unfold zda at hx
 rcases List.mem_or_eq_of_mem_set hx with hx | rfl
 ·rw [(List.mem_replicate.1 hx).2]; exact SzQ.zero
 ·exact ⟨by decide,by decide⟩
theorem one_szT : SzQ 1 (1 : Rat):=⟨by decide,by decide⟩
theorem zhU (n : Nat) : zau 1 (List.replicate n 0):=fun x hx => by rw [(List.mem_replicate.1 hx).2]; exact SzQ.zero
theorem vec_at0 {w : World} {g n c : Nat} {xs : List Rat} (h : zaQ w (some ⟨g,0,none⟩) n c xs) {i : Nat} (hi : i < n) : ∃ (b : Bool) (B : oA9) (m d : Nat) (F : oA9) (u v : Nat),w.cell? ⟨g,i * 3,none⟩ = some (.bool b) ∧ w.cell? ⟨g,i * 3 + 1,none⟩ = some (.slice B m d) ∧ w.cell? ⟨g,i * 3 + 2,none⟩ = some (.slice F u v) ∧ zan w (xs.getD i 0) b B m d F u v:=by
 obtain ⟨ad,b,B,m,d,F,u,v,e,_,h1,h2,h3,h4⟩:=h.at_ hi 0
 obtain rfl : (⟨g,0,none⟩ : Addr) = ad:=by injection e
 rw [zbu] at h1 h2 h3
 exact ⟨b,B,m,d,F,u,v,h1,h2,h3,h4⟩
theorem zlT (n k : Nat) : zcs 0 (zda n k) = List.replicate n 0:=by rw [zhJ,zkL]
theorem zkK {X : List Rat} {k m : Nat} {f : Int} {bl b1 : Bool} {B1 E1 : oA9} {m1 d1 u1 v1 : Nat} {wr : World} (hlx : k < X.length) (hf : zaV (X.take k) = f) (hb : zcH (X.take k) = bl) (hm0 : zcU (X.take k) = m) (hm : m ≤ 128) (hS : SzQ 1 (X.getD k 0)) (hmk : zcU (X.take (k + 1)) ≤ 128 * 1) (hx : zel wr (X.getD k 0) b1 B1 m1 d1 E1 u1 v1) :
  ∃ (M bx bz : Nat) (xk : Rat),M ≤ 128 ∧ max (m : Int) ((bx : Int) + (bz : Int)) = (M : Int) ∧ (if (m : Int) < (bx : Int) + (bz : Int) then (bx : Int) + (bz : Int) else (m : Int)) = (M : Int) ∧ IntKind.i64.wrap ((bx : Int) + (bz : Int)) = (bx : Int) + (bz : Int) ∧
   Hid (zcU (X.take (k + 1)) = M) ∧ Hid (((bitLen xk.num.natAbs : Nat) : Int) = (bx : Int)) ∧ Hid (((bitLen xk.den : Nat) : Int) = (bz : Int)) ∧ Hid (zai wr xk.num.natAbs B1 m1 d1) ∧ Hid (zai wr xk.den E1 u1 v1) ∧ m1 ≤ 274877906944 ∧ u1 ≤ 274877906944 ∧
   ((f < 0 ∧ 0 < m1 ∧ zaV (X.take (k + 1)) = (k : Int)) ∨ (f < 0 ∧ ¬ 0 < m1 ∧ zaV (X.take (k + 1)) = f) ∨ (¬ f < 0 ∧ zaV (X.take (k + 1)) = f)) ∧ ((bl = true ∧ zcH (X.take (k + 1)) = true) ∨ (bl = false ∧ zcH (X.take (k + 1)) = b1)):=by
 have e1:=zjN hlx
 have e2:=zgq X k hlx
 have e3:=zfe X k hlx
 have e5:=(zmW (X.take k)).1
 rw [hf] at e1 e5
 rw [hb] at e2
 rw [hm0] at e3
 have h16:=zka hx.1.2
 have hbq:=hx.1.1
 have hbl:=ziV hS
 have h1:=hS.num.holds' hx.1.2
 have h2:=hS.den.holds' hx.2
 refine ⟨max m (zeg (X.getD k 0)),bitLen (X.getD k 0).num.natAbs,bitLen (X.getD k 0).den,X.getD k 0,by rw [← e3]; exact hmk,?_,?_,?_,e3,rfl,rfl,hx.1.2,hx.2,by omega,by omega,?_,?_⟩
 ·unfold zeg; omega
 ·unfold zeg; split <;> omega
 ·unfold zeg at hbl
  exact IntWalk.i64_in _ (by omega)
 ·by_cases hf0 : f < 0
  ·rw [if_pos hf0] at e1
   by_cases h0 : X.getD k 0 = 0
   ·rw [if_pos h0] at e1
    rw [h0] at h16
    have : ¬ 0 < m1:=fun h => by
     rw [decide_eq_true h] at h16
     exact absurd h16 (by decide)
    exact .inr (.inl ⟨hf0,this,by omega⟩)
   ·rw [if_neg h0] at e1
    have : 0 < m1:=by
     have h9 : 0 < (X.getD k 0).num.natAbs:=Int.natAbs_pos.2 (fun h => h0 (Rat.num_eq_zero.1 h))
     rw [decide_eq_true h9] at h16
     exact of_decide_eq_true h16
    exact .inl ⟨hf0,this,e1⟩
  ·rw [if_neg hf0] at e1
   exact .inr (.inr ⟨hf0,e1⟩)
 ·cases bl
  ·exact .inr ⟨rfl,by rw [e2,← hbq]; rfl⟩
  ·exact .inl ⟨rfl,by rw [e2]; rfl⟩
theorem zgK (A0 : oA9) (n0 c0 : Nat) (L0 : List (Int × Int)) (A1 : oA9) (n1 c1 : Nat) (L1 : List (Int × Int)) (a2 : Int) (a3 : Int) (w : World) (h0 : zaF w A0 n0 c0 L0) (h1 : zaF w A1 n1 c1 L1) (b2 : zbc a2) (b3 : zbc a3) (p0 : 12 < n0) (hT : zam w) :
  Calls Tryz.prog 4 #[.slice A0 n0 c0,.slice A1 n1 c1,.int .i64 a2,.int .i64 a3] w fun e w' => e = .returned (.bool true) ∧ Below w.heap.size w w':=by
 have hn0 : n0 ≤ 1048576:=Nat.le_trans h0.fits h0.small
 have hl0 : (zbO L0).length = n0:=by rw [zbz]; exact h0.len
 have HL0:=lh9 hl0
 clear hl0
 have HSA0:=lh9 (zcR h0)
 have HA0:=lh9 (fun w' (hb : Below w.heap.size w w') => h0.below hb)
 have hn1 : n1 ≤ 1048576:=Nat.le_trans h1.fits h1.small
 have hl1 : (zbO L1).length = n1:=by rw [zbz]; exact h1.len
 have HL1:=lh9 hl1
 clear hl1
 have HSA1:=lh9 (zcR h1)
 have HA1:=lh9 (fun w' (hb : Below w.heap.size w w') => h1.below hb)
 have d1 : decide ((n0 : Int) > 12) = true:=decide_eq_true (by omega)
 have d2 : decide ((12 : Int) < (n0 : Int)) = true:=decide_eq_true (by omega)
 have d3 : decide (12 < n0) = true:=decide_eq_true (by omega)
 have HT:=lh9 (fun w' (hb : Below w.heap.size w w') => hT.on hb)
 have HB:=lh9 (Below.refl w.heap.size w)
 clear hT h0 h1 p0
 go_enter Tryz.func4,Tryz.ntmps4
 go_wp2_with fail
 (with_reducible refine (zcE (HT.out _ HB.out)).mono ?_)
 rintro e X1 ⟨rfl,hb⟩
 have HB:=lh9 (zac HB.out hb)
 clear hb 
 go_wp2
 go_ret
 exact ⟨rfl,HB.out⟩
theorem zgL (A0 : oA9) (n0 c0 : Nat) (L0 : List (Int × Int)) (A1 : oA9) (n1 c1 : Nat) (L1 : List (Int × Int)) (a2 : Int) (a3 : Int) (w : World) (h0 : zaF w A0 n0 c0 L0) (h1 : zaF w A1 n1 c1 L1) (b2 : zbc a2) (b3 : zbc a3) (p0 : n0 ≤ 12) (p1 : 12 < n1) (hT : zam w) :
  Calls Tryz.prog 4 #[.slice A0 n0 c0,.slice A1 n1 c1,.int .i64 a2,.int .i64 a3] w fun e w' => e = .returned (.bool true) ∧ Below w.heap.size w w':=by
 have hn0 : n0 ≤ 1048576:=Nat.le_trans h0.fits h0.small
 have hl0 : (zbO L0).length = n0:=by rw [zbz]; exact h0.len
 have HL0:=lh9 hl0
 clear hl0
 have HSA0:=lh9 (zcR h0)
 have HA0:=lh9 (fun w' (hb : Below w.heap.size w w') => h0.below hb)
 have hn1 : n1 ≤ 1048576:=Nat.le_trans h1.fits h1.small
 have hl1 : (zbO L1).length = n1:=by rw [zbz]; exact h1.len
 have HL1:=lh9 hl1
 clear hl1
 have HSA1:=lh9 (zcR h1)
 have HA1:=lh9 (fun w' (hb : Below w.heap.size w w') => h1.below hb)
 have d1 : decide ((n0 : Int) > 12) = false:=decide_eq_false (by omega)
 have d2 : decide ((12 : Int) < (n0 : Int)) = false:=decide_eq_false (by omega)
 have d3 : decide (12 < n0) = false:=decide_eq_false (by omega)
 have e1 : decide ((n1 : Int) > 12) = true:=decide_eq_true (by omega)
 have e2 : decide ((12 : Int) < (n1 : Int)) = true:=decide_eq_true (by omega)
 have e3 : decide (12 < n1) = true:=decide_eq_true (by omega)
 have HT:=lh9 (fun w' (hb : Below w.heap.size w w') => hT.on hb)
 have HB:=lh9 (Below.refl w.heap.size w)
 clear hT h0 h1 p0 p1
 go_enter Tryz.func4,Tryz.ntmps4
 go_wp2_with fail
 (with_reducible refine (zcE (HT.out _ HB.out)).mono ?_)
 rintro e X1 ⟨rfl,hb⟩
 have HB:=lh9 (zac HB.out hb)
 clear hb 
 go_wp2
 go_ret
 exact ⟨rfl,HB.out⟩
theorem zib (A0 : oA9) (n0 c0 : Nat) (L0 : List (Int × Int)) (A1 : oA9) (n1 c1 : Nat) (L1 : List (Int × Int)) (a2 : Int) (a3 : Int) (w : World) (h0 : zaF w A0 n0 c0 L0) (h1 : zaF w A1 n1 c1 L1) (b2 : zbc a2) (b3 : zbc a3) (p0 : n0 ≤ 12) (p1 : n1 ≤ 12) (hT : zam w) :
  Calls Tryz.prog 4 #[.slice A0 n0 c0,.slice A1 n1 c1,.int .i64 a2,.int .i64 a3] w fun e w' => e = .returned (.bool true) ∧ Below w.heap.size w w':=by
 have hn0 : n0 ≤ 1048576:=Nat.le_trans h0.fits h0.small
 have hl0 : (zbO L0).length = n0:=by rw [zbz]; exact h0.len
 have HL0:=lh9 hl0
 clear hl0
 have HSA0:=lh9 (zcR h0)
 have HA0:=lh9 (fun w' (hb : Below w.heap.size w w') => h0.below hb)
 have hn1 : n1 ≤ 1048576:=Nat.le_trans h1.fits h1.small
 have hl1 : (zbO L1).length = n1:=by rw [zbz]; exact h1.len
 have HL1:=lh9 hl1
 clear hl1
 have HSA1:=lh9 (zcR h1)
 have HA1:=lh9 (fun w' (hb : Below w.heap.size w w') => h1.below hb)
 have d01 : decide ((n0 : Int) > 12) = false:=decide_eq_false (by omega)
 have d02 : decide ((12 : Int) < (n0 : Int)) = false:=decide_eq_false (by omega)
 have d03 : decide (12 < n0) = false:=decide_eq_false (by omega)
 have d11 : decide ((n1 : Int) > 12) = false:=decide_eq_false (by omega)
 have d12 : decide ((12 : Int) < (n1 : Int)) = false:=decide_eq_false (by omega)
 have d13 : decide (12 < n1) = false:=decide_eq_false (by omega)
 obtain ⟨X,hx0⟩ : ∃ X,zbO L0 = X:=⟨_,rfl⟩
 rw [hx0] at HL0 HSA0
 have HX0:=lh9 hx0
 clear hx0
 obtain ⟨Y,hx1⟩ : ∃ X,zbO L1 = X:=⟨_,rfl⟩
 rw [hx1] at HL1 HSA1
 have HX1:=lh9 hx1
 clear hx1
 have HBV : Hid (∀ k,k ≤ n0 → zcU (X.take k) ≤ 128 * 1):=fun k hk => zha HSA0.out k (by rw [HL0.out]; exact hk)
 obtain ⟨c,hc⟩ : ∃ c,zcI X Y = c:=⟨_,rfl⟩
 have HC:=lh9 hc
 obtain ⟨sm,hsm⟩ : ∃ t,decide (X = Y) = t:=⟨_,rfl⟩
 have HSM:=lh9 hsm
 have kc1 : (c != c) = false:=by simp
 have ksm : (sm == (c == 0)) = true:=by
  rw [← hsm,← hc]
  by_cases h9 : X = Y
  ·rw [decide_eq_true h9,(zfC X Y).2 h9]; rfl
  ·have h8 : (zcI X Y == 0) = false:=by rw [beq_eq_false_iff_ne]; exact fun h7 => h9 ((zfC X Y).1 h7)
   rw [decide_eq_false h9,h8]; rfl
 have ks1 : (sm != (c == 0)) = false:=by rw [bne,ksm]; rfl
 have ks2 : (!(sm == (c == 0))) = false:=by rw [ksm]; rfl
 clear hc hsm ksm
 have HT:=lh9 (fun w' (hb : Below w.heap.size w w') => hT.on hb)
 have HB:=lh9 (Below.refl w.heap.size w)
 clear hT h0 h1
 go_enter Tryz.func4,Tryz.ntmps4
 go_wp2_with fail
 (with_reducible refine (zcE (HT.out _ HB.out)).mono ?_)
 rintro e X1 ⟨rfl,hb⟩
 have HB:=lh9 (zac HB.out hb)
 clear hb 
 go_wp2_with fail
 (with_reducible refine (HX0.out ▸ zdU (HT.out _ HB.out) (HA0.out _ HB.out)).mono ?_)
 rintro e X3 ⟨A2,c2,rfl,hv2,-,hb⟩
 have HB:=lh9 (zac HB.out hb)
 have HV2:=lh9 (hv2)
 clear hb hv2
 go_wp2_with fail
 (with_reducible refine (HX1.out ▸ zdU (HT.out _ HB.out) (HA1.out _ HB.out)).mono ?_)
 rintro e X5 ⟨A4,c4,rfl,hv4,-,hb⟩
 have HB:=lh9 (zac HB.out hb)
 have HV2:=lh9 (HV2.out.keep hb)
 have HV4:=lh9 (hv4)
 clear hb hv4
 go_wp2_with fail
 (with_reducible refine (HX0.out ▸ zir (HA0.out _ HB.out)).mono ?_)
 rintro e X7 ⟨A6,c6,rfl,hv6,hb⟩
 have HB:=lh9 (zac HB.out hb)
 have HV2:=lh9 (HV2.out.keep hb)
 have HV4:=lh9 (HV4.out.keep hb)
 have HR6:=lh9 (hv6)
 clear hb hv6
 go_wp2_with fail
 (with_reducible refine (HX1.out ▸ zir (HA1.out _ HB.out)).mono ?_)
 rintro e X9 ⟨A8,c8,rfl,hv8,hb⟩
 have HB:=lh9 (zac HB.out hb)
 have HV2:=lh9 (HV2.out.keep hb)
 have HV4:=lh9 (HV4.out.keep hb)
 have HR6:=lh9 (zbl.below zaC HR6.out hb)
 have HR8:=lh9 (hv8)
 clear hb hv8
 go_wp2_with fail
 go_loopg [13,14,15,16] (n0 + 1) (fun g s13 s14 s15 ix wr => ∃ (k m : Nat) (f : Int) (bl : Bool),k ≤ n0 ∧ n0 < g + k ∧ ix = .int .i64 k ∧ s13 = .int .i64 f ∧ s14 = .bool bl ∧ s15 = .int .i64 m ∧ Hid (zaV (X.take k) = f) ∧ Hid (zcH (X.take k) = bl) ∧ Hid (zcU (X.take k) = m) ∧ m ≤ 128 ∧ Below X9.heap.size X9 wr)
 case atStart => exact ⟨0,0,-1,false,Nat.zero_le _,by omega,rfl,rfl,rfl,rfl,rfl,rfl,rfl,by omega,Below.refl _ _⟩
 case round =>
  obtain ⟨k,m,f,bl,hkn,hg,rfl,rfl,rfl,rfl,hf0,hbl0,hm0,hm,hBk⟩:=hrel
  by_cases hlt : k < n0
  ·obtain ⟨ad,b1,B1,m1,d1,E1,u1,v1,rfl,-,hc0,hc1,hc2,hx⟩:=zdO.get HR6.out hBk hlt
   have hlx : k < X.length:=by rw [HL0.out]; exact hlt
   obtain ⟨M,bx,bz,xk,hM2,hmx,hmx2,hwr,HE3,HBX,HBY,HH1,HH2,hN1,hN2,hcf,hcb⟩:=zkK hlx hf0.out hbl0.out hm0.out hm (HSA0.out.at_ hlx) (HBV.out (k + 1) (by omega)) hx
   have hd1 : decide ((k : Int) < (n0 : Int)) = true:=decide_eq_true (by omega)
   have i1 : (0 : Int) ≤ (k : Int):=by omega
   have i2 : (k : Int) < (n0 : Int):=by omega
   have HBK:=lh9 hBk
   have HCC:=lh9 (And.intro hc0 (And.intro hc1 hc2))
   clear hx hlx hBk hf0 hbl0 hm0 hc0 hc1 hc2
   rcases hcf with ⟨hq1,hq2,hq3⟩ | ⟨hq1,hq2,hq3⟩ | ⟨hq1,hq3⟩ <;> rcases hcb with ⟨rfl,hq4⟩ | ⟨rfl,hq4⟩
   ·have kf : decide (f < 0) = true:=decide_eq_true hq1
    have km1 : decide ((m1 : Int) > 0) = true:=decide_eq_true (by omega)
    have km2 : decide ((0 : Int) < (m1 : Int)) = true:=decide_eq_true (by omega)
    have km3 : decide (0 < m1) = true:=decide_eq_true hq2
    clear hq1 hq2
    have HF9:=lh9 hq3
    have HB9:=lh9 hq4
    obtain ⟨hc0,hc1,hc2⟩:=HCC.out
    clear hq3 hq4
    go_wp2_with fail
    have hBw:=(Below.refl wr.heap.size wr).drew
    refine rg (csc hc1 (csc hc2 csn)) (fun hHeld => ?_)
    refine tk 0 ?_
    refine tk 1 ?_
    refine tk 2 ?_
    refine tk 3 ?_
    refine tk 4 ?_
    refine tk 5 ?_
    refine tk 6 ?_
    refine tk 8 ?_
    refine tk 9 ?_
    refine tk 10 ?_
    refine tk 11 ?_
    refine tk 12 ?_
    refine rc 7 (fun KK hK => ?_)
    go_simp
    (with_reducible refine (zbg xk.num.natAbs (bx : Int) B1 m1 d1 _ (HH1.out.below hBw) hN1 HBX.out).mono ?_); rintro e wa ⟨rfl,hb⟩; have hBw:=zac hBw hb; refine hK.out _ _ (Cs.below hHeld hb) (fun hHeld => ?_); clear hK KK hb
    refine rc 13 (fun KK hK => ?_)
    go_simp
    (with_reducible refine (zbg xk.den (bz : Int) E1 u1 v1 _ (HH2.out.below hBw) hN2 HBY.out).mono ?_); rintro e wb ⟨rfl,hb⟩; have hBw:=zac hBw hb; refine hK.out _ _ (Cs.below hHeld hb) (fun hHeld => ?_); clear hK KK hb
    refine tk 14 ?_
    refine tk 15 ?_
    refine tk 16 ?_
    refine rdn ?_
    have HB2:=lh9 (zac HBK.out hBw)
    clear hHeld hBw hc0 hc1 hc2
    go_wp2
    go_roundg (n0 - k)
    case measure => omega
    case rel => exact ⟨k + 1,M,_,_,by omega,by omega,by go_num,rfl,rfl,rfl,HF9.out,HB9.out,HE3.out,hM2,HB2.out⟩
   ·have kf : decide (f < 0) = true:=decide_eq_true hq1
    have km1 : decide ((m1 : Int) > 0) = true:=decide_eq_true (by omega)
    have km2 : decide ((0 : Int) < (m1 : Int)) = true:=decide_eq_true (by omega)
    have km3 : decide (0 < m1) = true:=decide_eq_true hq2
    clear hq1 hq2
    have HF9:=lh9 hq3
    have HB9:=lh9 hq4
    obtain ⟨hc0,hc1,hc2⟩:=HCC.out
    clear hq3 hq4
    go_wp2_with fail
    have hBw:=(Below.refl wr.heap.size wr).drew
    refine rg (csc hc1 (csc hc2 csn)) (fun hHeld => ?_)
    refine tk 0 ?_
    refine tk 1 ?_
    refine tk 2 ?_
    refine tk 3 ?_
    refine tk 4 ?_
    refine tk 5 ?_
    refine tk 6 ?_
    refine tk 8 ?_
    refine tk 9 ?_
    refine tk 10 ?_
    refine tk 11 ?_
    refine tk 12 ?_
    refine rc 7 (fun KK hK => ?_)
    go_simp
    (with_reducible refine (zbg xk.num.natAbs (bx : Int) B1 m1 d1 _ (HH1.out.below hBw) hN1 HBX.out).mono ?_); rintro e wa ⟨rfl,hb⟩; have hBw:=zac hBw hb; refine hK.out _ _ (Cs.below hHeld hb) (fun hHeld => ?_); clear hK KK hb
    refine rc 13 (fun KK hK => ?_)
    go_simp
    (with_reducible refine (zbg xk.den (bz : Int) E1 u1 v1 _ (HH2.out.below hBw) hN2 HBY.out).mono ?_); rintro e wb ⟨rfl,hb⟩; have hBw:=zac hBw hb; refine hK.out _ _ (Cs.below hHeld hb) (fun hHeld => ?_); clear hK KK hb
    refine tk 14 ?_
    refine tk 15 ?_
    refine tk 16 ?_
    refine rdn ?_
    have HB2:=lh9 (zac HBK.out hBw)
    clear hHeld hBw hc0 hc1 hc2
    go_wp2
    go_roundg (n0 - k)
    case measure => omega
    case rel => exact ⟨k + 1,M,_,_,by omega,by omega,by go_num,rfl,rfl,rfl,HF9.out,HB9.out,HE3.out,hM2,HB2.out⟩
   ·have kf : decide (f < 0) = true:=decide_eq_true hq1
    have km1 : decide ((m1 : Int) > 0) = false:=decide_eq_false (by omega)
    have km2 : decide ((0 : Int) < (m1 : Int)) = false:=decide_eq_false (by omega)
    have km3 : decide (0 < m1) = false:=decide_eq_false hq2
    clear hq1 hq2
    have HF9:=lh9 hq3
    have HB9:=lh9 hq4
    obtain ⟨hc0,hc1,hc2⟩:=HCC.out
    clear hq3 hq4
    go_wp2_with fail
    have hBw:=(Below.refl wr.heap.size wr).drew
    refine rg (csc hc1 (csc hc2 csn)) (fun hHeld => ?_)
    refine tk 0 ?_
    refine tk 1 ?_
    refine tk 2 ?_
    refine tk 3 ?_
    refine tk 4 ?_
    refine tk 5 ?_
    refine tk 6 ?_
    refine tk 8 ?_
    refine tk 9 ?_
    refine tk 10 ?_
    refine tk 11 ?_
    refine tk 12 ?_
    refine rc 7 (fun KK hK => ?_)
    go_simp
    (with_reducible refine (zbg xk.num.natAbs (bx : Int) B1 m1 d1 _ (HH1.out.below hBw) hN1 HBX.out).mono ?_); rintro e wa ⟨rfl,hb⟩; have hBw:=zac hBw hb; refine hK.out _ _ (Cs.below hHeld hb) (fun hHeld => ?_); clear hK KK hb
    refine rc 13 (fun KK hK => ?_)
    go_simp
    (with_reducible refine (zbg xk.den (bz : Int) E1 u1 v1 _ (HH2.out.below hBw) hN2 HBY.out).mono ?_); rintro e wb ⟨rfl,hb⟩; have hBw:=zac hBw hb; refine hK.out _ _ (Cs.below hHeld hb) (fun hHeld => ?_); clear hK KK hb
    refine tk 14 ?_
    refine tk 15 ?_
    refine tk 16 ?_
    refine rdn ?_
    have HB2:=lh9 (zac HBK.out hBw)
    clear hHeld hBw hc0 hc1 hc2
    go_wp2
    go_roundg (n0 - k)
    case measure => omega
    case rel => exact ⟨k + 1,M,_,_,by omega,by omega,by go_num,rfl,rfl,rfl,HF9.out,HB9.out,HE3.out,hM2,HB2.out⟩
   ·have kf : decide (f < 0) = true:=decide_eq_true hq1
    have km1 : decide ((m1 : Int) > 0) = false:=decide_eq_false (by omega)
    have km2 : decide ((0 : Int) < (m1 : Int)) = false:=decide_eq_false (by omega)
    have km3 : decide (0 < m1) = false:=decide_eq_false hq2
    clear hq1 hq2
    have HF9:=lh9 hq3
    have HB9:=lh9 hq4
    obtain ⟨hc0,hc1,hc2⟩:=HCC.out
    clear hq3 hq4
    go_wp2_with fail
    have hBw:=(Below.refl wr.heap.size wr).drew
    refine rg (csc hc1 (csc hc2 csn)) (fun hHeld => ?_)
    refine tk 0 ?_
    refine tk 1 ?_
    refine tk 2 ?_
    refine tk 3 ?_
    refine tk 4 ?_
    refine tk 5 ?_
    refine tk 6 ?_
    refine tk 8 ?_
    refine tk 9 ?_
    refine tk 10 ?_
    refine tk 11 ?_
    refine tk 12 ?_
    refine rc 7 (fun KK hK => ?_)
    go_simp
    (with_reducible refine (zbg xk.num.natAbs (bx : Int) B1 m1 d1 _ (HH1.out.below hBw) hN1 HBX.out).mono ?_); rintro e wa ⟨rfl,hb⟩; have hBw:=zac hBw hb; refine hK.out _ _ (Cs.below hHeld hb) (fun hHeld => ?_); clear hK KK hb
    refine rc 13 (fun KK hK => ?_)
    go_simp
    (with_reducible refine (zbg xk.den (bz : Int) E1 u1 v1 _ (HH2.out.below hBw) hN2 HBY.out).mono ?_); rintro e wb ⟨rfl,hb⟩; have hBw:=zac hBw hb; refine hK.out _ _ (Cs.below hHeld hb) (fun hHeld => ?_); clear hK KK hb
    refine tk 14 ?_
    refine tk 15 ?_
    refine tk 16 ?_
    refine rdn ?_
    have HB2:=lh9 (zac HBK.out hBw)
    clear hHeld hBw hc0 hc1 hc2
    go_wp2
    go_roundg (n0 - k)
    case measure => omega
    case rel => exact ⟨k + 1,M,_,_,by omega,by omega,by go_num,rfl,rfl,rfl,HF9.out,HB9.out,HE3.out,hM2,HB2.out⟩
   ·have kf : decide (f < 0) = false:=decide_eq_false hq1
    clear hq1
    have HF9:=lh9 hq3
    have HB9:=lh9 hq4
    obtain ⟨hc0,hc1,hc2⟩:=HCC.out
    clear hq3 hq4
    go_wp2_with fail
    have hBw:=(Below.refl wr.heap.size wr).drew
    refine rg (csc hc1 (csc hc2 csn)) (fun hHeld => ?_)
    refine tk 0 ?_
    refine tk 1 ?_
    refine tk 2 ?_
    refine tk 3 ?_
    refine tk 4 ?_
    refine tk 5 ?_
    refine tk 6 ?_
    refine tk 8 ?_
    refine tk 9 ?_
    refine tk 10 ?_
    refine tk 11 ?_
    refine tk 12 ?_
    refine rc 7 (fun KK hK => ?_)
    go_simp
    (with_reducible refine (zbg xk.num.natAbs (bx : Int) B1 m1 d1 _ (HH1.out.below hBw) hN1 HBX.out).mono ?_); rintro e wa ⟨rfl,hb⟩; have hBw:=zac hBw hb; refine hK.out _ _ (Cs.below hHeld hb) (fun hHeld => ?_); clear hK KK hb
    refine rc 13 (fun KK hK => ?_)
    go_simp
    (with_reducible refine (zbg xk.den (bz : Int) E1 u1 v1 _ (HH2.out.below hBw) hN2 HBY.out).mono ?_); rintro e wb ⟨rfl,hb⟩; have hBw:=zac hBw hb; refine hK.out _ _ (Cs.below hHeld hb) (fun hHeld => ?_); clear hK KK hb
    refine tk 14 ?_
    refine tk 15 ?_
    refine tk 16 ?_
    refine rdn ?_
    have HB2:=lh9 (zac HBK.out hBw)
    clear hHeld hBw hc0 hc1 hc2
    go_wp2
    go_roundg (n0 - k)
    case measure => omega
    case rel => exact ⟨k + 1,M,_,_,by omega,by omega,by go_num,rfl,rfl,rfl,HF9.out,HB9.out,HE3.out,hM2,HB2.out⟩
   ·have kf : decide (f < 0) = false:=decide_eq_false hq1
    clear hq1
    have HF9:=lh9 hq3
    have HB9:=lh9 hq4
    obtain ⟨hc0,hc1,hc2⟩:=HCC.out
    clear hq3 hq4
    go_wp2_with fail
    have hBw:=(Below.refl wr.heap.size wr).drew
    refine rg (csc hc1 (csc hc2 csn)) (fun hHeld => ?_)
    refine tk 0 ?_
    refine tk 1 ?_
    refine tk 2 ?_
    refine tk 3 ?_
    refine tk 4 ?_
    refine tk 5 ?_
    refine tk 6 ?_
    refine tk 8 ?_
    refine tk 9 ?_
    refine tk 10 ?_
    refine tk 11 ?_
    refine tk 12 ?_
    refine rc 7 (fun KK hK => ?_)
    go_simp
    (with_reducible refine (zbg xk.num.natAbs (bx : Int) B1 m1 d1 _ (HH1.out.below hBw) hN1 HBX.out).mono ?_); rintro e wa ⟨rfl,hb⟩; have hBw:=zac hBw hb; refine hK.out _ _ (Cs.below hHeld hb) (fun hHeld => ?_); clear hK KK hb
    refine rc 13 (fun KK hK => ?_)
    go_simp
    (with_reducible refine (zbg xk.den (bz : Int) E1 u1 v1 _ (HH2.out.below hBw) hN2 HBY.out).mono ?_); rintro e wb ⟨rfl,hb⟩; have hBw:=zac hBw hb; refine hK.out _ _ (Cs.below hHeld hb) (fun hHeld => ?_); clear hK KK hb
    refine tk 14 ?_
    refine tk 15 ?_
    refine tk 16 ?_
    refine rdn ?_
    have HB2:=lh9 (zac HBK.out hBw)
    clear hHeld hBw hc0 hc1 hc2
    go_wp2
    go_roundg (n0 - k)
    case measure => omega
    case rel => exact ⟨k + 1,M,_,_,by omega,by omega,by go_num,rfl,rfl,rfl,HF9.out,HB9.out,HE3.out,hM2,HB2.out⟩
  ·have hd1 : decide ((k : Int) < (n0 : Int)) = false:=decide_eq_false (by omega)
   have HF : Hid (zaV X = f):=by have h:=hf0.out; rw [List.take_of_length_le (by rw [HL0.out]; omega)] at h; exact h
   have HBE : Hid (zcH X = bl):=by have h:=hbl0.out; rw [List.take_of_length_le (by rw [HL0.out]; omega)] at h; exact h
   have HBI : Hid (((zcU X : Nat) : Int) = (m : Int)):=by have h:=hm0.out; rw [List.take_of_length_le (by rw [HL0.out]; omega)] at h; show _ = _; rw [h]
   obtain ⟨zt,hzt⟩ : ∃ t,decide (f < 0) = t:=⟨_,rfl⟩
   have HZT : Hid (decide (zaV X < 0) = zt):=by show _ = _; rw [HF.out]; exact hzt
   clear hf0 hbl0 hm0
   have hb:=hBk
   have HB:=lh9 (zac HB.out hb)
   have HV2:=lh9 (HV2.out.keep hb)
   have HV4:=lh9 (HV4.out.keep hb)
   have HR6:=lh9 (zbl.below zaC HR6.out hb)
   have HR8:=lh9 (zbl.below zaC HR8.out hb)
   clear hb hBk
   have k1a : (f != f) = false:=by simp
   have k1b : (!(f == f)) = false:=by simp
   have k2a : ((m : Int) != (m : Int)) = false:=by simp
   have k2b : (!((m : Int) == (m : Int))) = false:=by simp
   have k3a : (bl != bl) = false:=by simp
   have k3b : (!(bl == bl)) = false:=by simp
   have k4a : (zt != zt) = false:=by simp
   have k4b : (!(zt == zt)) = false:=by simp
   go_wp2_with fail
   (with_reducible refine (znA HC.out HR6.out HR8.out HSA0.out HSA1.out (by decide) (by decide) (by omega) (by omega)).mono ?_)
   rintro e X10 ⟨rfl,hb⟩
   have HB:=lh9 (zac HB.out hb)
   have HV2:=lh9 (HV2.out.keep hb)
   have HV4:=lh9 (HV4.out.keep hb)
   have HR6:=lh9 (zbl.below zaC HR6.out hb)
   have HR8:=lh9 (zbl.below zaC HR8.out hb)
   clear hb 
   go_wp2_with fail
   (with_reducible refine (zgl HC.out (HT.out _ HB.out) HV2.out HV4.out HSA0.out HSA1.out (by omega) (by omega) (by decide) (by decide)).mono ?_)
   rintro e X11 ⟨rfl,hb⟩
   have HB:=lh9 (zac HB.out hb)
   have HV2:=lh9 (HV2.out.keep hb)
   have HV4:=lh9 (HV4.out.keep hb)
   have HR6:=lh9 (zbl.below zaC HR6.out hb)
   have HR8:=lh9 (zbl.below zaC HR8.out hb)
   clear hb 
   go_wp2_with fail
   (with_reducible refine (zeb HSM.out (HT.out _ HB.out) HV2.out HV4.out HSA0.out HSA1.out (by omega) (by omega) (by decide) (by decide)).mono ?_)
   rintro e X12 ⟨rfl,hb⟩
   have HB:=lh9 (zac HB.out hb)
   have HV2:=lh9 (HV2.out.keep hb)
   have HV4:=lh9 (HV4.out.keep hb)
   have HR6:=lh9 (zbl.below zaC HR6.out hb)
   have HR8:=lh9 (zbl.below zaC HR8.out hb)
   clear hb 
   go_wp2_with fail
   (with_reducible refine (zeH HF.out (HT.out _ HB.out) HV2.out HSA0.out (by omega) (by decide)).mono ?_)
   rintro e X13 ⟨rfl,hb⟩
   have HB:=lh9 (zac HB.out hb)
   have HV2:=lh9 (HV2.out.keep hb)
   have HV4:=lh9 (HV4.out.keep hb)
   have HR6:=lh9 (zbl.below zaC HR6.out hb)
   have HR8:=lh9 (zbl.below zaC HR8.out hb)
   clear hb 
   go_wp2_with fail
   (with_reducible refine (zfY HZT.out (HT.out _ HB.out) HV2.out HSA0.out (by omega) (by decide)).mono ?_)
   rintro e X14 ⟨rfl,hb⟩
   have HB:=lh9 (zac HB.out hb)
   have HV2:=lh9 (HV2.out.keep hb)
   have HV4:=lh9 (HV4.out.keep hb)
   have HR6:=lh9 (zbl.below zaC HR6.out hb)
   have HR8:=lh9 (zbl.below zaC HR8.out hb)
   clear hb 
   go_wp2_with fail
   (with_reducible refine (zkP HBE.out (HT.out _ HB.out) HV2.out HSA0.out (by omega) (by decide)).mono ?_)
   rintro e X15 ⟨rfl,hb⟩
   have HB:=lh9 (zac HB.out hb)
   have HV2:=lh9 (HV2.out.keep hb)
   have HV4:=lh9 (HV4.out.keep hb)
   have HR6:=lh9 (zbl.below zaC HR6.out hb)
   have HR8:=lh9 (zbl.below zaC HR8.out hb)
   clear hb 
   go_wp2_with fail
   (with_reducible refine (zlV HBI.out (HT.out _ HB.out) HV2.out HSA0.out (by omega) (by decide)).mono ?_)
   rintro e X16 ⟨rfl,hb⟩
   have HB:=lh9 (zac HB.out hb)
   have HV2:=lh9 (HV2.out.keep hb)
   have HV4:=lh9 (HV4.out.keep hb)
   have HR6:=lh9 (zbl.below zaC HR6.out hb)
   have HR8:=lh9 (zbl.below zaC HR8.out hb)
   clear hb 
   go_upto_region 17 with fail
   clear HV2 HV4 HR6 HR8
   clear k1a k1b k2a k2b k3a k3b k4a k4b hzt HF HBE HBI HZT kc1 ks1 ks2 HC HSM hd1
   by_cases c1 : a2 < 0
   ·have m1 : decide (a2 ≥ 0) = false:=decide_eq_false (by omega)
    have m2 : decide (0 ≤ a2) = false:=decide_eq_false (by omega)
    have HU : ∀ W,Hid (Calls Tryz.prog 33 #[.int .i64 a2,.int .i64 a3] W (zaT W)):=fun W => zeZ a2 a3 W (.inl c1)
    have HN : ∀ W,Hid (Calls Tryz.prog 34 #[.int .i64 a2] W (zaT W)):=fun W => zdt a2 W (.inl c1)
    clear c1
    go_wp2_with fail
    (with_reducible refine ((HU _).out).mono ?_)
    rintro e X17 ⟨rfl,hb⟩
    have HB:=lh9 (zac HB.out hb)
    clear hb 
    go_wp2_with fail
    (with_reducible refine ((HN _).out).mono ?_)
    rintro e X18 ⟨rfl,hb⟩
    have HB:=lh9 (zac HB.out hb)
    clear hb 
    go_wp2
    go_ret
    exact ⟨rfl,HB.out⟩
   ·by_cases c2 : 64 < a2
    ·have m1 : decide (a2 ≥ 0) = true:=decide_eq_true (by omega)
     have m2 : decide (0 ≤ a2) = true:=decide_eq_true (by omega)
     have m3 : decide (a2 ≤ 64) = false:=decide_eq_false (by omega)
     have HU : ∀ W,Hid (Calls Tryz.prog 33 #[.int .i64 a2,.int .i64 a3] W (zaT W)):=fun W => zeZ a2 a3 W (.inr c2)
     have HN : ∀ W,Hid (Calls Tryz.prog 34 #[.int .i64 a2] W (zaT W)):=fun W => zdt a2 W (.inr c2)
     clear c1 c2
     go_wp2_with fail
     (with_reducible refine ((HU _).out).mono ?_)
     rintro e X17 ⟨rfl,hb⟩
     have HB:=lh9 (zac HB.out hb)
     clear hb 
     go_wp2_with fail
     (with_reducible refine ((HN _).out).mono ?_)
     rintro e X18 ⟨rfl,hb⟩
     have HB:=lh9 (zac HB.out hb)
     clear hb 
     go_wp2
     go_ret
     exact ⟨rfl,HB.out⟩
    ·obtain ⟨N,rfl⟩:=Int.eq_ofNat_of_zero_le (show 0 ≤ a2 by omega)
     have hN : N ≤ 64:=by omega
     have m1 : decide ((N : Int) ≥ 0) = true:=decide_eq_true (by omega)
     have m2 : decide (0 ≤ (N : Int)) = true:=decide_eq_true (by omega)
     have m3 : decide ((N : Int) ≤ 64) = true:=decide_eq_true (by omega)
     have m4 : decide (N ≤ 64) = true:=decide_eq_true (by omega)
     have m5 : ((N : Int) != (N : Int)) = false:=by simp
     have m6 : ((N : Int) == (N : Int)) = true:=by simp
     clear c1 c2
     by_cases c3 : a3 < 0
     ·have m7 : decide (a3 ≥ 0) = false:=decide_eq_false (by omega)
      have m8 : decide (0 ≤ a3) = false:=decide_eq_false (by omega)
      have HU : ∀ W,Hid (Calls Tryz.prog 33 #[.int .i64 (N : Int),.int .i64 a3] W (zaT W)):=fun W => zeI N a3 W hN (.inl c3)
      have HN : ∀ W,Hid (Calls Tryz.prog 34 #[.int .i64 (N : Int)] W (zcb W N (List.replicate N 0))):=fun W => zdc N W hN
      clear c3
      go_wp2_with fail
      (with_reducible refine ((HU _).out).mono ?_)
      rintro e X17 ⟨rfl,hb⟩
      have HB:=lh9 (zac HB.out hb)
      clear hb 
      have HS18 : Hid (zau (1) (List.replicate N 0)):=zhU N
      go_wp2_with fail
      (with_reducible refine ((HN _).out).mono ?_)
      rintro e X19 ⟨g18,rfl,hg18,ho18,hb⟩
      have HB:=lh9 (zac HB.out hb)
      have HV18:=lh9 (zaY ho18)
      clear hb hg18 ho18
      go_wp2_with fail
      (with_reducible refine (zfY (zeK N) (HT.out _ HB.out) HV18.out HS18.out (by omega) (by decide)).mono ?_)
      rintro e X20 ⟨rfl,hb⟩
      have HB:=lh9 (zac HB.out hb)
      have HV18:=lh9 (HV18.out.keep hb)
      clear hb 
      go_wp2
      go_ret
      exact ⟨rfl,HB.out⟩
     ·by_cases c4 : (N : Int) ≤ a3
      ·have m7 : decide (a3 ≥ 0) = true:=decide_eq_true (by omega)
       have m8 : decide (0 ≤ a3) = true:=decide_eq_true (by omega)
       have m9 : decide (a3 < (N : Int)) = false:=decide_eq_false (by omega)
       have HU : ∀ W,Hid (Calls Tryz.prog 33 #[.int .i64 (N : Int),.int .i64 a3] W (zaT W)):=fun W => zeI N a3 W hN (.inr c4)
       have HN : ∀ W,Hid (Calls Tryz.prog 34 #[.int .i64 (N : Int)] W (zcb W N (List.replicate N 0))):=fun W => zdc N W hN
       clear c3 c4
       go_wp2_with fail
       (with_reducible refine ((HU _).out).mono ?_)
       rintro e X17 ⟨rfl,hb⟩
       have HB:=lh9 (zac HB.out hb)
       clear hb 
       have HS18 : Hid (zau (1) (List.replicate N 0)):=zhU N
       go_wp2_with fail
       (with_reducible refine ((HN _).out).mono ?_)
       rintro e X19 ⟨g18,rfl,hg18,ho18,hb⟩
       have HB:=lh9 (zac HB.out hb)
       have HV18:=lh9 (zaY ho18)
       clear hb hg18 ho18
       go_wp2_with fail
       (with_reducible refine (zfY (zeK N) (HT.out _ HB.out) HV18.out HS18.out (by omega) (by decide)).mono ?_)
       rintro e X20 ⟨rfl,hb⟩
       have HB:=lh9 (zac HB.out hb)
       have HV18:=lh9 (HV18.out.keep hb)
       clear hb 
       go_wp2
       go_ret
       exact ⟨rfl,HB.out⟩
      ·obtain ⟨kk,rfl⟩:=Int.eq_ofNat_of_zero_le (show 0 ≤ a3 by omega)
       have hkk : kk < N:=by omega
       have m7 : decide ((kk : Int) ≥ 0) = true:=decide_eq_true (by omega)
       have m8 : decide (0 ≤ (kk : Int)) = true:=decide_eq_true (by omega)
       have m9 : decide ((kk : Int) < (N : Int)) = true:=decide_eq_true (by omega)
       have m10 : decide (kk < N) = true:=decide_eq_true (by omega)
       have m11 : ((kk : Int) == (kk : Int)) = true:=by simp
       have i1 : (0 : Int) ≤ (kk : Int):=by omega
       have i2 : (kk : Int) < (N : Int):=by omega
       have HN : ∀ W,Hid (Calls Tryz.prog 34 #[.int .i64 (N : Int)] W (zcb W N (List.replicate N 0))):=fun W => zdc N W hN
       have HUF:=lh9 (zlS hkk)
       have HE1 : Hid (decide (zcs 0 (zda N kk) = List.replicate N 0) = true):=decide_eq_true (zlT N kk)
       clear c3 c4
       have HS17 : Hid (zau (1) (zda N kk)):=unit_sz N kk
       go_wp2_with fail
       (with_reducible refine (vec_unit N kk _ (HT.out _ HB.out) hN hkk).mono ?_)
       rintro e X18 ⟨g17,rfl,hg17,ho17,hb⟩
       have HB:=lh9 (zac HB.out hb)
       have HV17:=lh9 (zaY ho17)
       clear hb hg17 ho17
       have HS19 : Hid (zau (1) (List.replicate N 0)):=zhU N
       go_wp2_with fail
       (with_reducible refine ((HN _).out).mono ?_)
       rintro e X20 ⟨g19,rfl,hg19,ho19,hb⟩
       have HB:=lh9 (zac HB.out hb)
       have HV17:=lh9 (HV17.out.keep hb)
       have HV19:=lh9 (zaY ho19)
       clear hb hg19 ho19
       go_wp2_with fail
       (with_reducible refine (zfY (zeK N) (HT.out _ HB.out) HV19.out HS19.out (by omega) (by decide)).mono ?_)
       rintro e X21 ⟨rfl,hb⟩
       have HB:=lh9 (zac HB.out hb)
       have HV17:=lh9 (HV17.out.keep hb)
       have HV19:=lh9 (HV19.out.keep hb)
       clear hb 
       go_wp2_with fail
       (with_reducible refine (zeH HUF.out (HT.out _ HB.out) HV17.out HS17.out (by omega) (by decide)).mono ?_)
       rintro e X22 ⟨rfl,hb⟩
       have HB:=lh9 (zac HB.out hb)
       have HV17:=lh9 (HV17.out.keep hb)
       have HV19:=lh9 (HV19.out.keep hb)
       clear hb 
       obtain ⟨bu,Bu,mu,du,Eu,uu,vu,hc0,hc1,hc2,hxu⟩:=vec_at0 HV17.out hkk
       rw [zmI hkk] at hxu
       have HXU:=lh9 hxu
       clear hxu
       go_wp2_with fail
       clear hc0 hc1 hc2
       (with_reducible refine (zmm (fun _ _ h hb => h.on hb) zbF qc10 1 1 _ 1 bu Bu mu du Eu uu vu _ (by decide) one_szT HXU.out (HT.out _ HB.out) (by decide) (by decide) (by decide) (by decide) (by decide) (by decide)).mono ?_)
       rintro e X23 ⟨rfl,hb⟩
       have HB:=lh9 (zac HB.out hb)
       have HV17:=lh9 (HV17.out.keep hb)
       have HV19:=lh9 (HV19.out.keep hb)
       have HXU:=lh9 (HXU.out.below hb)
       clear hb 
       have HS24 : Hid (SzQ (1) (((0 : Int) : Rat))):=SzQ.zero
       go_wp2_with fail
       (with_reducible refine (zfO 0 _ (HT.out _ HB.out) (by decide) (by decide)).mono ?_)
       rintro e X25 ⟨b24,A24,n24,c24,E24,k24,f24,rfl,hw24,hb⟩
       have HB:=lh9 (zac HB.out hb)
       have HV17:=lh9 (HV17.out.keep hb)
       have HV19:=lh9 (HV19.out.keep hb)
       have HXU:=lh9 (HXU.out.below hb)
       have HQ24:=lh9 (hw24)
       clear hb hw24
       have HS26 : Hid (zau (2) (zcs 0 (zda N kk))):=(zau.scale HS24.out HS17.out).up (by decide)
       go_wp2_with fail
       (with_reducible refine (ziK (r:=0) (HT.out _ HB.out) HQ24.out HV17.out HS24.out HS17.out (by omega) (by decide) (by decide)).mono ?_)
       rintro e X27 ⟨g26,rfl,hg26,ho26,hb⟩
       have HB:=lh9 (zac HB.out hb)
       have HV17:=lh9 (HV17.out.keep hb)
       have HV19:=lh9 (HV19.out.keep hb)
       have HXU:=lh9 (HXU.out.below hb)
       have HQ24:=lh9 (HQ24.out.below hb)
       have HV26:=lh9 (zaY ho26)
       clear hb hg26 ho26
       go_wp2_with fail
       (with_reducible refine (zeb HE1.out (HT.out _ HB.out) HV26.out HV19.out HS26.out HS19.out (by omega) (by omega) (by decide) (by decide)).mono ?_)
       rintro e X28 ⟨rfl,hb⟩
       have HB:=lh9 (zac HB.out hb)
       have HV17:=lh9 (HV17.out.keep hb)
       have HV19:=lh9 (HV19.out.keep hb)
       have HXU:=lh9 (HXU.out.below hb)
       have HQ24:=lh9 (HQ24.out.below hb)
       have HV26:=lh9 (HV26.out.keep hb)
       clear hb 
       go_wp2
       go_ret
       exact ⟨rfl,HB.out⟩
theorem vecTells_core (A0 : oA9) (n0 c0 : Nat) (L0 : List (Int × Int)) (A1 : oA9) (n1 c1 : Nat) (L1 : List (Int × Int)) (a2 a3 : Int) (w : World) (h0 : zaF w A0 n0 c0 L0) (h1 : zaF w A1 n1 c1 L1) (b2 : zbc a2) (b3 : zbc a3) (hT : zam w) :
  Calls Tryz.prog 4 #[.slice A0 n0 c0,.slice A1 n1 c1,.int .i64 a2,.int .i64 a3] w fun e w' => e = .returned (.bool true) ∧ Below w.heap.size w w':=by
 by_cases p0 : n0 ≤ 12
 ·by_cases p1 : n1 ≤ 12
  ·exact zib A0 n0 c0 L0 A1 n1 c1 L1 a2 a3 w h0 h1 b2 b3 p0 p1 hT
  ·exact zgL A0 n0 c0 L0 A1 n1 c1 L1 a2 a3 w h0 h1 b2 b3 p0 (by omega) hT
 ·exact zgK A0 n0 c0 L0 A1 n1 c1 L1 a2 a3 w h0 h1 b2 b3 (by omega) hT
end Go.Proofs.YtkiedljcgkoaiaaGreatDoor
