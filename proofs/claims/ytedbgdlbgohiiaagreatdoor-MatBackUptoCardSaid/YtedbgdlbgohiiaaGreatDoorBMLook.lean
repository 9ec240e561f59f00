/- What this claim leans on. -/
import Derived.Test.YtedbgdlbgohiiaaGreatDoorBMMat
namespace Go.Proofs.YtedbgdlbgohiiaaGreatDoor
open Go Go.RowKit
set_option maxHeartbeats 16000000
set_option maxRecDepth 100000
set_option linter.unusedVariables false
set_option linter.unusedSimpArgs false
theorem zgb {r : Int} {n : Nat} {b : Bool} (e : inB r n = b) (A : oA9) (c : Nat) (z : Int) (w : World) : Calls Tryz.prog 66 #[.agg #[.slice A n c,.int .i64 z],.int .i64 r] w (fun e w' => e = .returned (.bool b) ∧ Below w.heap.size w w'):=e ▸ zlo A n c z r w
theorem zik {r : Int} {m : Nat} {b : Bool} (e : inB r m = b) (A : oA9) (n c : Nat) (w : World) : Calls Tryz.prog 67 #[.agg #[.slice A n c,.int .i64 (m : Int)],.int .i64 r] w (fun e w' => e = .returned (.bool b) ∧ Below w.heap.size w w'):=e ▸ zhi A n c m r w
section
variable {A : oA9} {n c m K : Nat} {MM : List (List Rat)} {w : World}
theorem ziX {i j : Nat} (hT : zaj w) (h : zat w A n c m MM) (z : zau K MM) (hi : i < n) (hj : j < m) (hK : K + 2 ≤ 67108864:=by omega) :
  Calls Tryz.prog 20 #[.agg #[.slice A n c,.int .i64 (m : Int)],.int .i64 (i : Int),.int .i64 (j : Int)] w (zaI w (atM MM i j)):=by
 have HR:=fun W => lh9 (zgb (zfz hi) A c (m : Int) W)
 have HC:=fun W => lh9 (zik (zfz hj) A n c W)
 obtain ⟨bx1,bx2,bx3,bz⟩:=zbo w 28 48 #[.slice A n c,.int .i64 (m : Int)] #[.bool false,.slice none 0 0,.slice none 0 0]
 obtain ⟨g0,g1⟩:=bx2.c2
 have HM:=lh9 h
 have HS:=lh9 (z.at_ h.dims hi hj)
 have HT:=lh9 (fun w' (hb : Below w.heap.size w w') => hT.on hb)
 have HB:=lh9 bx1
 have HK1:=lh9 bx2
 have HK2:=lh9 bx3
 clear hT h z bx1 bx2 bx3 bz
 go_enter Tryz.func20,Tryz.ntmps20
 go_wp2_with fail
 refine (HR _).out.mono ?_
 rintro e w1 ⟨rfl,hb⟩
 have HB1:=lh9 (zaa HB.out hb)
 have HK3:=lh9 (zac hb HK1.out)
 have HK4:=lh9 (zac hb HK2.out)
 obtain ⟨g0,g1⟩:=HK3.out.c2
 clear hb HB HK1 HK2
 go_wp2_with fail
 refine (HC _).out.mono ?_
 rintro e w2 ⟨rfl,hb⟩
 have HB2:=lh9 (zaa HB1.out hb)
 have HK5:=lh9 (zac hb HK3.out)
 have HK6:=lh9 (zac hb HK4.out)
 obtain ⟨g0,g1⟩:=HK5.out.c2
 clear hb HB1 HK3 HK4
 obtain ⟨ad,B,d,rfl,-,hc,ae,b3,A3,n3,c3,E3,k3,f3,rfl,-,h0,h1,h2,hw3⟩:=HM.out.place HB2.out hi hj
 have i1 : (0 : Int) ≤ (i : Int):=by omega
 have i2 : (i : Int) < (n : Int):=by omega
 have i3 : (0 : Int) ≤ (j : Int):=by omega
 have i4 : (j : Int) < (m : Int):=by omega
 obtain ⟨t1,t2,-⟩:=zaC w2 48 #[.bool b3,.slice A3 n3 c3,.slice E3 k3 f3]
 have HL:=lh9 (zkB t2 (hw3.below t1))
 have HB3:=lh9 (zaa HB2.out t1)
 have HK7:=lh9 (zac t1 HK6.out)
 have HSA : Hid (zav K [atM MM i j]):=fun y hy => by rw [List.mem_singleton.1 hy]; exact HS.out
 clear hw3 t1 t2 HK5 HK6 HB2
 go_wp2_with fail
 (with_reducible refine (q_sum (HT.out _ HB3.out) HL.out HSA.out (by decide) (by omega)).mono ?_)
 rintro e w5 ⟨b5,A5,n5,c5,E5,k5,f5,rfl,hw5,hb⟩
 have hw5 : zai w5 (atM MM i j) b5 A5 n5 c5 E5 k5 f5:=by
  have e : zcI [atM MM i j] = atM MM i j:=by rw [zdU,ziB,Rat.add_zero]
  rw [e] at hw5
  exact hw5
 have hk5:=zac hb HK7.out
 obtain ⟨sc0,sf0,sc1,sf1,sc2,sf2⟩:=st3 hk5 (.bool b5) (.slice A5 n5 c5)
 obtain ⟨r0,r1,r2⟩:=(sn3 hk5 (.bool b5) (.slice A5 n5 c5) (.slice E5 k5 f5)).c3
 have HG:=lh9 (gq3 hw5 hk5 (zaa HB3.out hb) (by omega))
 clear hb hk5 hw5 HK7 HB3 HL g0 g1 hc h0 h1 h2
 go_wp2
 refine bodyPost_ret (v:=.agg #[.bool b5,.slice A5 n5 c5,.slice E5 k5 f5]) (by simp [results,Tryz.results20,go_sem,r0,r1,r2]) rfl ?_
 exact HG.out
theorem mat_row {i : Nat} (hT : zaj w) (h : zat w A n c m MM) (z : zau K MM) (hi : i < n) (hK : K + 2 ≤ 67108864:=by omega) :
  Calls Tryz.prog 21 #[.agg #[.slice A n c,.int .i64 (m : Int)],.int .i64 (i : Int)] w (zcz w m (MM.getD i [])):=by
 have hm:=h.hm
 obtain ⟨bx1,bx2,bz⟩:=zaC w 28 #[.slice A n c,.int .i64 (m : Int)]
 obtain ⟨g0,g1⟩:=bx2.c2
 have HR:=fun W => lh9 (zgb (zfz hi) A c (m : Int) W)
 have HM:=lh9 h
 have HT:=lh9 (fun w' (hb : Below w.heap.size w w') => hT.on hb)
 have HS:=lh9 (z.row (i:=i) (by rw [h.dims.rows]; exact hi))
 have HB:=lh9 bx1
 have HK:=lh9 bx2
 clear hT h z bx1 bx2 bz
 unfold zcz
 go_enter Tryz.func21,Tryz.ntmps21
 go_wp2_with fail
 refine (HR _).out.mono ?_
 rintro e w1 ⟨rfl,hb⟩
 have HB1:=lh9 (zaa HB.out hb)
 obtain ⟨g0,g1⟩:=(zac hb HK.out).c2
 obtain ⟨ad,B,d,rfl,-,hc,hv⟩:=HM.out.row HB1.out hi
 have i1 : (0 : Int) ≤ (i : Int):=by omega
 have i2 : (i : Int) < (n : Int):=by omega
 have HV:=lh9 hv
 clear hb HB HK hv
 go_wp2_with fail
 (with_reducible refine (zkA (HT.out _ HB1.out) HV.out HS.out).mono ?_)
 rintro e w5 ⟨g5,rfl,hg5,ho5,hb⟩
 have HG:=lh9 (And.intro (Nat.le_trans HB1.out.size hg5) (And.intro ho5 (zaa HB1.out hb)))
 clear g0 g1 hg5 ho5 hb hc
 go_wp2
 go_ret2
 exact ⟨g5,rfl,HG.out⟩
theorem zgS (z : zau K MM) : ∀ k,k ≤ MM.length → zcr (MM.take k) ≤ 128 * K
 | 0,_ => by simp [zcr]
 | k + 1,hk => by
   rw [zeT MM k (by omega)]
   have h1:=zgS z k (by omega)
   have h2:=zfo (z.row (i:=k) (by omega)) (MM.getD k []).length (Nat.le_refl _)
   rw [List.take_of_length_le (Nat.le_refl _)] at h2
   omega
theorem mat_bits {v : Int} (hv : ((zcr MM : Nat) : Int) = v) (hT : zaj w) (h : zat w A n c m MM) (z : zau K MM) (hK : K ≤ 67108864:=by omega) :
  Calls Tryz.prog 45 #[.agg #[.slice A n c,.int .i64 (m : Int)]] w (zbA w v):=by
 obtain ⟨hn,hm⟩:=And.intro h.hn h.hm
 have hl:=h.dims.rows
 obtain ⟨bx1,bx2,bz⟩:=zaC w 28 #[.slice A n c,.int .i64 (m : Int)]
 obtain ⟨g0,g1⟩:=bx2.c2
 have HM:=lh9 h
 have HT:=lh9 (fun w' (hb : Below w.heap.size w w') => hT.on hb)
 have HS : Hid (∀ i,i < n → zav K (MM.getD i [])):=fun i hi => z.row (by omega)
 have HBS : Hid (∀ k,k ≤ n → zcr (MM.take k) ≤ 128 * K):=fun k hk => zgS z k (by omega)
 have HSU : Hid (∀ k,k < n → zcr (MM.take (k + 1)) = max (zcr (MM.take k)) (zcs (MM.getD k []))):=fun k hk => zeT MM k (by omega)
 have HVL : Hid (∀ k,k < n → zcs (MM.getD k []) ≤ 128 * K):=fun k hk => by
  have h2:=zfo (z.row (i:=k) (by omega)) (MM.getD k []).length (Nat.le_refl _)
  rw [List.take_of_length_le (Nat.le_refl _)] at h2
  exact h2
 have HF : Hid (((zcr (MM.take n) : Nat) : Int) = v):=by show _ = _; rw [List.take_of_length_le (by omega)]; exact hv
 have hB:=bx1
 clear hT h z bx1 bx2 bz hl hv
 unfold zbA
 have i0 : (0 : Int) ≤ (n : Int):=by omega
 go_enter Tryz.func45,Tryz.ntmps45
 go_wp2_with fail
 clear g0 g1
 generalize w.alloc (.cells #[.slice A n c,.int .i64 (m : Int)] 28) = W1 at *
 go_loopg [3,9] (n + 1) (fun g mx ix wr => ∃ (k q : Nat),k ≤ n ∧ n < g + k ∧ ix = .int .i64 k ∧ mx = .int .i64 q ∧ Hid (zcr (MM.take k) = q) ∧ q ≤ 8589934592 ∧ Below w.heap.size w wr)
 case atStart => exact ⟨0,0,Nat.zero_le _,by omega,rfl,rfl,rfl,by omega,hB⟩
 case round =>
  clear hB
  obtain ⟨k,q,hkn,hg,rfl,rfl,hz0,hq9,hB⟩:=hrel
  by_cases hlt : k < n
  ·obtain ⟨ad,B,d,rfl,-,hc,hv⟩:=HM.out.row hB hlt
   have hd1 : decide ((k : Int) < (n : Int)) = true:=decide_eq_true (by omega)
   have i1 : (0 : Int) ≤ (k : Int):=by omega
   have i2 : (k : Int) < (n : Int):=by omega
   have HV:=lh9 hv
   have HB1:=lh9 hB
   have h4:=HVL.out k hlt
   have h5:=HSU.out k hlt
   rw [hz0.out] at h5
   obtain ⟨p,hp⟩ : ∃ p,zcs (MM.getD k []) = p:=⟨_,rfl⟩
   rw [hp] at h4 h5
   obtain ⟨X,hX⟩ : ∃ X,max q p = X:=⟨_,rfl⟩
   rw [hX] at h5
   have hX2 : X ≤ 8589934592:=by omega
   have HP : Hid (((zcs (MM.getD k []) : Nat) : Int) = (p : Int)):=by show _ = _; rw [hp]
   have HZ1:=lh9 h5
   have hmx1 : (if (q : Int) < (p : Int) then (p : Int) else (q : Int)) = (X : Int):=by rw [← hX]; split <;> omega
   have hmx2 : (if q < p then (p : Int) else (q : Int)) = (X : Int):=by rw [← hX]; split <;> omega
   have hmx3 : max (q : Int) (p : Int) = (X : Int):=by omega
   have hmx4 : (if (p : Int) < (q : Int) then (q : Int) else (p : Int)) = (X : Int):=by rw [← hX]; split <;> omega
   have hmx5 : (if p < q then (q : Int) else (p : Int)) = (X : Int):=by rw [← hX]; split <;> omega
   clear hp h5 hX hv hB
   go_wp2_with fail
   (with_reducible refine (zhM HP.out (HT.out _ HB1.out) HV.out (HS.out k hlt)).mono ?_)
   rintro e w3 ⟨rfl,hb⟩
   have HB2:=lh9 (zaa HB1.out hb)
   clear hb hc HV HB1
   go_wp2
   go_roundg (n - k)
   case measure => omega
   case rel => exact ⟨k + 1,X,by omega,by omega,by go_num,rfl,HZ1,hX2,HB2.out⟩
  ·have hk : k = n:=by omega
   subst hk
   have hd1 : decide ((k : Int) < (k : Int)) = false:=by simp
   have HE : Hid ((q : Int) = v):=by show _ = _; rw [← HF.out,hz0.out]
   have HB2:=lh9 hB
   clear hB
   go_wp2
   go_ret
   exact ⟨by rw [← HE.out]; rfl,HB2.out⟩
end
section
variable {A A' : oA9} {n n' c c' m m' K K' q q' : Nat} {MM NN : List (List Rat)} {w : World}
theorem en_vsame : ∀ (args : Array Value) (w' : World),Sem.run Tryz.prog (callFunc 53 args) w' = .ok (.enter 53 args) w':=Go.Proofs.enters_of Tryz.func53 (by kernel_rfl) rfl
theorem same_len {α : Type} {xs ys : List α} {n n' : Nat} (hx : xs.length = n) (hy : ys.length = n') (h : n ≠ n') : xs ≠ ys:=fun e => h (by rw [← hx,← hy,e])
theorem same_at {xs ys : List (List Rat)} {n k : Nat} (hx : xs.length = n) (hy : ys.length = n) (hk : k < n) (h : xs.getD k [] ≠ ys.getD k []) : xs ≠ ys:=fun e => h (by rw [e])
theorem same_all {xs ys : List (List Rat)} {n : Nat} (hx : xs.length = n) (hy : ys.length = n) (h : ∀ k,k < n → xs.getD k [] = ys.getD k []) : xs = ys:=by
 apply List.ext_getElem
 ·omega
 ·intro i h1 h2
  have:=h i (by omega)
  rw [List.getD_eq_getElem?_getD,List.getD_eq_getElem?_getD,List.getElem?_eq_getElem h1,List.getElem?_eq_getElem h2] at this
  exact this
theorem zla {t : Bool} (e : decide (MM = NN) = t) (hT : zaj w) (h : zaE (zaH zai) w A n MM) (h' : zaE (zaH zai) w A' n' NN) (z : zau K MM) (z' : zau K' NN) (hr : ∀ L ∈ MM,L.length ≤ 64) (hr' : ∀ L ∈ NN,L.length ≤ 64) (hn : n ≤ 64) (hK : K ≤ 67108864) (hK' : K' ≤ 67108864) :
  Calls Tryz.prog 83 #[.slice A n q,.slice A' n' q',.func (.func 53) #[] #[]] w (fun e w' => e = .returned (.bool t) ∧ Below w.heap.size w w'):=by
 have hl:=h.len
 have hl':=h'.len
 have hEn:=en_vsame
 by_cases hq : n = n'
 ·subst hq
  have HA:=lh9 h
  have HA':=lh9 h'
  have HT:=lh9 (fun w' (hb : Below w.heap.size w w') => hT.on hb)
  have HS : Hid (∀ i,i < n → zav K (MM.getD i [])):=fun i hi => z.row (by omega)
  have HS' : Hid (∀ i,i < n → zav K' (NN.getD i [])):=fun i hi => z'.row (by omega)
  have HR : Hid (∀ i,i < n → (MM.getD i []).length ≤ 64):=fun i hi => hr _ (List.mem_of_getElem? (zcB (by omega)))
  have HR' : Hid (∀ i,i < n → (NN.getD i []).length ≤ 64):=fun i hi => hr' _ (List.mem_of_getElem? (zcB (by omega)))
  have HNE : Hid (∀ k,k < n → MM.getD k [] ≠ NN.getD k [] → false = t):=fun k hk hne => by
   rw [← e]; exact (decide_eq_false (same_at hl hl' hk hne)).symm
  have HEQ : Hid ((∀ k,k < n → MM.getD k [] = NN.getD k []) → true = t):=fun ha => by
   rw [← e]; exact (decide_eq_true (same_all hl hl' ha)).symm
  have hB:=Below.refl w.heap.size w
  have e0 : ((n : Int) != (n : Int)) = false:=by simp
  have i0 : (0 : Int) ≤ (n : Int):=by omega
  clear h h' hT z z' hr hr' e hl hl'
  go_enter Tryz.func83,Tryz.ntmps83
  go_wp2_with fail
  go_loopg [17] (n + 1) (fun g ix wr => ∃ (k : Nat),k ≤ n ∧ n < g + k ∧ ix = .int .i64 k ∧ Hid (∀ i,i < k → MM.getD i [] = NN.getD i []) ∧ Below w.heap.size w wr)
  case atStart => exact ⟨0,Nat.zero_le _,by omega,rfl,fun i hi => by omega,hB⟩
  case round =>
   clear hB
   obtain ⟨k,hkn,hg,rfl,hz0,hB⟩:=hrel
   by_cases hlt : k < n
   ·obtain ⟨ad,B,d,rfl,-,hc,hv⟩:=HA.out.get (zaA zal) hB hlt rfl
    obtain ⟨ad',B',d',rfl,-,hc',hv'⟩:=HA'.out.get (zaA zal) hB hlt rfl
    have hd1 : decide ((k : Int) < (n : Int)) = true:=decide_eq_true (by omega)
    have i1 : (0 : Int) ≤ (k : Int):=by omega
    have i2 : (k : Int) < (n : Int):=by omega
    have h5:=HR.out k hlt
    have h6:=HR'.out k hlt
    have HNK:=lh9 (HNE.out k hlt)
    have HSK:=lh9 (HS.out k hlt)
    have HSK':=lh9 (HS'.out k hlt)
    have HZ1 : Hid (MM.getD k [] = NN.getD k [] → ∀ i,i < k + 1 → MM.getD i [] = NN.getD i []):=fun hh i hi => by
     by_cases e : i = k
     ·rw [e]; exact hh
     ·exact hz0.out i (by omega)
    obtain ⟨X,hX⟩ : ∃ X,MM.getD k [] = X:=⟨_,rfl⟩
    obtain ⟨Y,hY⟩ : ∃ Y,NN.getD k [] = Y:=⟨_,rfl⟩
    rw [hX] at hc hv h5 HNK HSK HZ1
    rw [hY] at hc' hv' h6 HNK HSK' HZ1
    obtain ⟨lx,hlx⟩ : ∃ l,X.length = l:=⟨_,rfl⟩
    obtain ⟨ly,hly⟩ : ∃ l,Y.length = l:=⟨_,rfl⟩
    rw [hlx] at hc hv h5
    rw [hly] at hc' hv' h6
    have HV:=lh9 hv
    have HV':=lh9 hv'
    have HB1:=lh9 hB
    clear hX hY hv hv' hlx hly hB
    by_cases h0 : X = Y
    ·have HQ:=lh9 (decide_eq_true h0)
     have HZ2:=lh9 (HZ1.out h0)
     clear h0
     go_wp2_with fail
     (with_reducible refine (zdV HQ.out (HT.out _ HB1.out) HV.out HV'.out HSK.out HSK'.out (by omega) (by omega) hK hK').mono ?_)
     rintro e w3 ⟨rfl,hb⟩
     have HB2:=lh9 (zaa HB1.out hb)
     clear hb hc hc' HV HV' HB1
     go_wp2
     go_roundg (n - k)
     case measure => omega
     case rel => exact ⟨k + 1,by omega,by omega,by go_num,HZ2,HB2.out⟩
    ·have HQ:=lh9 (decide_eq_false h0)
     have HF:=lh9 (HNK.out h0)
     clear h0
     go_wp2_with fail
     (with_reducible refine (zdV HQ.out (HT.out _ HB1.out) HV.out HV'.out HSK.out HSK'.out (by omega) (by omega) hK hK').mono ?_)
     rintro e w3 ⟨rfl,hb⟩
     have HB2:=lh9 (zaa HB1.out hb)
     clear hb hc hc' HV HV' HB1
     go_wp2
     go_ret
     exact ⟨by rw [← HF.out]; rfl,HB2.out⟩
   ·have hk : k = n:=by omega
    subst hk
    have hd1 : decide ((k : Int) < (k : Int)) = false:=by simp
    have HF:=lh9 (HEQ.out hz0.out)
    have HB2:=lh9 hB
    clear hB
    go_wp2
    go_ret
    exact ⟨by rw [← HF.out]; rfl,HB2.out⟩
 ·have e0 : ((n : Int) != (n' : Int)) = true:=by rw [bne_iff_ne]; omega
  have HF : Hid (false = t):=by rw [← e]; exact (decide_eq_false (same_len hl hl' hq)).symm
  clear h h' hT z z' hr hr' e hl hl' hq
  go_enter Tryz.func83,Tryz.ntmps83
  go_wp2
  go_ret
  exact ⟨by rw [← HF.out]; rfl,Below.refl _ _⟩
theorem zel {t : Bool} (e : decide (m = m' ∧ MM = NN) = t) (hT : zaj w) (h : zat w A n c m MM) (h' : zat w A' n' c' m' NN) (z : zau K MM) (z' : zau K' NN) (hK : K ≤ 67108864:=by omega) (hK' : K' ≤ 67108864:=by omega) :
  Calls Tryz.prog 42 #[.agg #[.slice A n c,.int .i64 (m : Int)],.agg #[.slice A' n' c',.int .i64 (m' : Int)]] w (fun e w' => e = .returned (.bool t) ∧ Below w.heap.size w w'):=by
 obtain ⟨bx1,bx2,bx3,bz⟩:=zbo w 28 28 #[.slice A n c,.int .i64 (m : Int)] #[.slice A' n' c',.int .i64 (m' : Int)]
 obtain ⟨g0,g1⟩:=bx2.c2
 obtain ⟨p0,p1⟩:=bx3.c2
 by_cases hq : m = m'
 ·have e0 : ((m : Int) == (m' : Int)) = true:=by rw [beq_iff_eq]; omega
  have e1 : decide (MM = NN) = t:=by
   rw [← e]
   by_cases hx : MM = NN
   ·rw [decide_eq_true hx,decide_eq_true ⟨hq,hx⟩]
   ·rw [decide_eq_false hx,decide_eq_false (fun y => hx y.2)]
  have hx:=h.hm
  have hy:=h'.hm
  have H:=lh9 (zla (q:=c) (q':=c') e1 (hT.on bx1) (h.keep bx1).rows (h'.keep bx1).rows z z' (fun L hL => by rw [h.dims.cols L hL]; exact hx) (fun L hL => by rw [h'.dims.cols L hL]; exact hy) h.hn hK hK')
  have HB:=lh9 bx1
  clear h h' hT z z' bx1 bx2 bx3 bz e e1 hq
  go_enter Tryz.func42,Tryz.ntmps42
  go_wp2_with fail
  refine H.out.mono ?_
  rintro e w1 ⟨rfl,hb⟩
  have HB2:=lh9 (zaa HB.out hb)
  clear hb g0 g1 p0 p1
  go_wp2
  go_ret
  exact ⟨rfl,HB2.out⟩
 ·have e0 : ((m : Int) == (m' : Int)) = false:=by rw [beq_eq_false_iff_ne]; omega
  have HF : Hid (false = t):=by rw [← e]; exact (decide_eq_false (fun y => hq y.1)).symm
  have HB:=lh9 bx1
  clear h h' hT z z' bx1 bx2 bx3 bz e hq
  go_enter Tryz.func42,Tryz.ntmps42
  go_wp2
  go_ret
  exact ⟨by rw [← HF.out]; rfl,HB.out⟩
end
end Go.Proofs.YtedbgdlbgohiiaaGreatDoor
