/- What this claim leans on. -/
import Derived.Test.YtedbgdlbgohiiaaGreatDoorTMOf
namespace Go.Proofs.YtedbgdlbgohiiaaGreatDoor
open Go Go.RowKit
set_option maxHeartbeats 16000000
set_option maxRecDepth 100000
set_option linter.unusedVariables false
set_option linter.unusedSimpArgs false
theorem zmq {r : Int} {n : Nat} {b : Bool} (e : inB r n = b) (A : oA9) (c : Nat) (z : Int) (w : World) : Calls Tryz.prog 66 #[.agg #[.slice A n c,.int .i64 z],.int .i64 r] w (fun e w' => e = .returned (.bool b) ∧ Below w.heap.size w w'):=e ▸ zkG A n c z r w
theorem zmp {r : Int} {m : Nat} {b : Bool} (e : inB r m = b) (A : oA9) (n c : Nat) (w : World) : Calls Tryz.prog 67 #[.agg #[.slice A n c,.int .i64 (m : Int)],.int .i64 r] w (fun e w' => e = .returned (.bool b) ∧ Below w.heap.size w w'):=e ▸ zgR A n c m r w
section
variable {A : oA9} {n c m K : Nat} {MM : List (List Rat)} {w : World}
theorem mat_at {i j : Nat} (hT : zak w) (h : zap w A n c m MM) (z : zas K MM) (hi : i < n) (hj : j < m) (hK : K + 2 ≤ 67108864:=by omega) :
  Calls Tryz.prog 20 #[.agg #[.slice A n c,.int .i64 (m : Int)],.int .i64 (i : Int),.int .i64 (j : Int)] w (zaH w (atM MM i j)):=by
 have HR:=fun W => lh9 (zmq (zlw hi) A c (m : Int) W)
 have HC:=fun W => lh9 (zmp (zlw hj) A n c W)
 obtain ⟨bx1,bx2,bx3,bz⟩:=zbs w 28 48 #[.slice A n c,.int .i64 (m : Int)] #[.bool false,.slice none 0 0,.slice none 0 0]
 obtain ⟨g0,g1⟩:=bx2.c2
 have HM:=lh9 h
 have HS:=lh9 (z.at_ h.dims hi hj)
 have HT:=lh9 (fun w' (hb : Below w.heap.size w w') => hT.on hb)
 have HB:=lh9 bx1
 have HK1:=lh9 bx2
 have HK2:=lh9 bx3
 clear hT h z bx1 bx2 bx3 bz
 go_enter Tryz.func20,Tryz.ntmps20
 go_wp2_with fail
 refine (HR _).out.mono ?_
 rintro e w1 ⟨rfl,hb⟩
 have HB1:=lh9 (zaa HB.out hb)
 have HK3:=lh9 (zac hb HK1.out)
 have HK4:=lh9 (zac hb HK2.out)
 obtain ⟨g0,g1⟩:=HK3.out.c2
 clear hb HB HK1 HK2
 go_wp2_with fail
 refine (HC _).out.mono ?_
 rintro e w2 ⟨rfl,hb⟩
 have HB2:=lh9 (zaa HB1.out hb)
 have HK5:=lh9 (zac hb HK3.out)
 have HK6:=lh9 (zac hb HK4.out)
 obtain ⟨g0,g1⟩:=HK5.out.c2
 clear hb HB1 HK3 HK4
 obtain ⟨ad,B,d,rfl,-,hc,ae,b3,A3,n3,c3,E3,k3,f3,rfl,-,h0,h1,h2,hw3⟩:=HM.out.place HB2.out hi hj
 have i1 : (0 : Int) ≤ (i : Int):=by omega
 have i2 : (i : Int) < (n : Int):=by omega
 have i3 : (0 : Int) ≤ (j : Int):=by omega
 have i4 : (j : Int) < (m : Int):=by omega
 obtain ⟨t1,t2,-⟩:=zaz w2 48 #[.bool b3,.slice A3 n3 c3,.slice E3 k3 f3]
 have HL:=lh9 (zjT t2 (hw3.below t1))
 have HB3:=lh9 (zaa HB2.out t1)
 have HK7:=lh9 (zac t1 HK6.out)
 have HSA : Hid (zay K [atM MM i j]):=fun y hy => by rw [List.mem_singleton.1 hy]; exact HS.out
 clear hw3 t1 t2 HK5 HK6 HB2
 go_wp2_with fail
 (with_reducible refine (q_sum (HT.out _ HB3.out) HL.out HSA.out (by decide) (by omega)).mono ?_)
 rintro e w5 ⟨b5,A5,n5,c5,E5,k5,f5,rfl,hw5,hb⟩
 have hw5 : zaj w5 (atM MM i j) b5 A5 n5 c5 E5 k5 f5:=by
  have e : zcJ [atM MM i j] = atM MM i j:=by rw [zdS,zid,Rat.add_zero]
  rw [e] at hw5
  exact hw5
 have hk5:=zac hb HK7.out
 obtain ⟨sc0,sf0,sc1,sf1,sc2,sf2⟩:=st3 hk5 (.bool b5) (.slice A5 n5 c5)
 obtain ⟨r0,r1,r2⟩:=(sn3 hk5 (.bool b5) (.slice A5 n5 c5) (.slice E5 k5 f5)).c3
 have HG:=lh9 (gq3 hw5 hk5 (zaa HB3.out hb) (by omega))
 clear hb hk5 hw5 HK7 HB3 HL g0 g1 hc h0 h1 h2
 go_wp2
 refine bodyPost_ret (v:=.agg #[.bool b5,.slice A5 n5 c5,.slice E5 k5 f5]) (by simp [results,Tryz.results20,go_sem,r0,r1,r2]) rfl ?_
 exact HG.out
end
section
variable {A A' : oA9} {n n' c c' m m' K K' q q' : Nat} {MM NN : List (List Rat)} {w : World}
theorem en_vsame : ∀ (args : Array Value) (w' : World),Sem.run Tryz.prog (callFunc 53 args) w' = .ok (.enter 53 args) w':=Go.Proofs.enters_of Tryz.func53 (by kernel_rfl) rfl
theorem same_len {α : Type} {xs ys : List α} {n n' : Nat} (hx : xs.length = n) (hy : ys.length = n') (h : n ≠ n') : xs ≠ ys:=fun e => h (by rw [← hx,← hy,e])
theorem same_at {xs ys : List (List Rat)} {n k : Nat} (hx : xs.length = n) (hy : ys.length = n) (hk : k < n) (h : xs.getD k [] ≠ ys.getD k []) : xs ≠ ys:=fun e => h (by rw [e])
theorem same_all {xs ys : List (List Rat)} {n : Nat} (hx : xs.length = n) (hy : ys.length = n) (h : ∀ k,k < n → xs.getD k [] = ys.getD k []) : xs = ys:=by
 apply List.ext_getElem
 ·omega
 ·intro i h1 h2
  have:=h i (by omega)
  rw [List.getD_eq_getElem?_getD,List.getD_eq_getElem?_getD,List.getElem?_eq_getElem h1,List.getElem?_eq_getElem h2] at this
  exact this
theorem zks {t : Bool} (e : decide (MM = NN) = t) (hT : zak w) (h : zaD (zaJ zaj) w A n MM) (h' : zaD (zaJ zaj) w A' n' NN) (z : zas K MM) (z' : zas K' NN) (hr : ∀ L ∈ MM,L.length ≤ 64) (hr' : ∀ L ∈ NN,L.length ≤ 64) (hn : n ≤ 64) (hK : K ≤ 67108864) (hK' : K' ≤ 67108864) :
  Calls Tryz.prog 83 #[.slice A n q,.slice A' n' q',.func (.func 53) #[] #[]] w (fun e w' => e = .returned (.bool t) ∧ Below w.heap.size w w'):=by
 have hl:=h.len
 have hl':=h'.len
 have hEn:=en_vsame
 by_cases hq : n = n'
 ·subst hq
  have HA:=lh9 h
  have HA':=lh9 h'
  have HT:=lh9 (fun w' (hb : Below w.heap.size w w') => hT.on hb)
  have HS : Hid (∀ i,i < n → zay K (MM.getD i [])):=fun i hi => z.row (by omega)
  have HS' : Hid (∀ i,i < n → zay K' (NN.getD i [])):=fun i hi => z'.row (by omega)
  have HR : Hid (∀ i,i < n → (MM.getD i []).length ≤ 64):=fun i hi => hr _ (List.mem_of_getElem? (zcB (by omega)))
  have HR' : Hid (∀ i,i < n → (NN.getD i []).length ≤ 64):=fun i hi => hr' _ (List.mem_of_getElem? (zcB (by omega)))
  have HNE : Hid (∀ k,k < n → MM.getD k [] ≠ NN.getD k [] → false = t):=fun k hk hne => by
   rw [← e]; exact (decide_eq_false (same_at hl hl' hk hne)).symm
  have HEQ : Hid ((∀ k,k < n → MM.getD k [] = NN.getD k []) → true = t):=fun ha => by
   rw [← e]; exact (decide_eq_true (same_all hl hl' ha)).symm
  have hB:=Below.refl w.heap.size w
  have e0 : ((n : Int) != (n : Int)) = false:=by simp
  have i0 : (0 : Int) ≤ (n : Int):=by omega
  clear h h' hT z z' hr hr' e hl hl'
  go_enter Tryz.func83,Tryz.ntmps83
  go_wp2_with fail
  go_loopg [17] (n + 1) (fun g ix wr => ∃ (k : Nat),k ≤ n ∧ n < g + k ∧ ix = .int .i64 k ∧ Hid (∀ i,i < k → MM.getD i [] = NN.getD i []) ∧ Below w.heap.size w wr)
  case atStart => exact ⟨0,Nat.zero_le _,by omega,rfl,fun i hi => by omega,hB⟩
  case round =>
   clear hB
   obtain ⟨k,hkn,hg,rfl,hz0,hB⟩:=hrel
   by_cases hlt : k < n
   ·obtain ⟨ad,B,d,rfl,-,hc,hv⟩:=HA.out.get (zaA zam) hB hlt rfl
    obtain ⟨ad',B',d',rfl,-,hc',hv'⟩:=HA'.out.get (zaA zam) hB hlt rfl
    have hd1 : decide ((k : Int) < (n : Int)) = true:=decide_eq_true (by omega)
    have i1 : (0 : Int) ≤ (k : Int):=by omega
    have i2 : (k : Int) < (n : Int):=by omega
    have h5:=HR.out k hlt
    have h6:=HR'.out k hlt
    have HNK:=lh9 (HNE.out k hlt)
    have HSK:=lh9 (HS.out k hlt)
    have HSK':=lh9 (HS'.out k hlt)
    have HZ1 : Hid (MM.getD k [] = NN.getD k [] → ∀ i,i < k + 1 → MM.getD i [] = NN.getD i []):=fun hh i hi => by
     by_cases e : i = k
     ·rw [e]; exact hh
     ·exact hz0.out i (by omega)
    obtain ⟨X,hX⟩ : ∃ X,MM.getD k [] = X:=⟨_,rfl⟩
    obtain ⟨Y,hY⟩ : ∃ Y,NN.getD k [] = Y:=⟨_,rfl⟩
    rw [hX] at hc hv h5 HNK HSK HZ1
    rw [hY] at hc' hv' h6 HNK HSK' HZ1
    obtain ⟨lx,hlx⟩ : ∃ l,X.length = l:=⟨_,rfl⟩
    obtain ⟨ly,hly⟩ : ∃ l,Y.length = l:=⟨_,rfl⟩
    rw [hlx] at hc hv h5
    rw [hly] at hc' hv' h6
    have HV:=lh9 hv
    have HV':=lh9 hv'
    have HB1:=lh9 hB
    clear hX hY hv hv' hlx hly hB
    by_cases h0 : X = Y
    ·have HQ:=lh9 (decide_eq_true h0)
     have HZ2:=lh9 (HZ1.out h0)
     clear h0
     go_wp2_with fail
     (with_reducible refine (zdT HQ.out (HT.out _ HB1.out) HV.out HV'.out HSK.out HSK'.out (by omega) (by omega) hK hK').mono ?_)
     rintro e w3 ⟨rfl,hb⟩
     have HB2:=lh9 (zaa HB1.out hb)
     clear hb hc hc' HV HV' HB1
     go_wp2
     go_roundg (n - k)
     case measure => omega
     case rel => exact ⟨k + 1,by omega,by omega,by go_num,HZ2,HB2.out⟩
    ·have HQ:=lh9 (decide_eq_false h0)
     have HF:=lh9 (HNK.out h0)
     clear h0
     go_wp2_with fail
     (with_reducible refine (zdT HQ.out (HT.out _ HB1.out) HV.out HV'.out HSK.out HSK'.out (by omega) (by omega) hK hK').mono ?_)
     rintro e w3 ⟨rfl,hb⟩
     have HB2:=lh9 (zaa HB1.out hb)
     clear hb hc hc' HV HV' HB1
     go_wp2
     go_ret
     exact ⟨by rw [← HF.out]; rfl,HB2.out⟩
   ·have hk : k = n:=by omega
    subst hk
    have hd1 : decide ((k : Int) < (k : Int)) = false:=by simp
    have HF:=lh9 (HEQ.out hz0.out)
    have HB2:=lh9 hB
    clear hB
    go_wp2
    go_ret
    exact ⟨by rw [← HF.out]; rfl,HB2.out⟩
 ·have e0 : ((n : Int) != (n' : Int)) = true:=by rw [bne_iff_ne]; omega
  have HF : Hid (false = t):=by rw [← e]; exact (decide_eq_false (same_len hl hl' hq)).symm
  clear h h' hT z z' hr hr' e hl hl' hq
  go_enter Tryz.func83,Tryz.ntmps83
  go_wp2
  go_ret
  exact ⟨by rw [← HF.out]; rfl,Below.refl _ _⟩
theorem zej {t : Bool} (e : decide (m = m' ∧ MM = NN) = t) (hT : zak w) (h : zap w A n c m MM) (h' : zap w A' n' c' m' NN) (z : zas K MM) (z' : zas K' NN) (hK : K ≤ 67108864:=by omega) (hK' : K' ≤ 67108864:=by omega) :
  Calls Tryz.prog 42 #[.agg #[.slice A n c,.int .i64 (m : Int)],.agg #[.slice A' n' c',.int .i64 (m' : Int)]] w (fun e w' => e = .returned (.bool t) ∧ Below w.heap.size w w'):=by
 obtain ⟨bx1,bx2,bx3,bz⟩:=zbs w 28 28 #[.slice A n c,.int .i64 (m : Int)] #[.slice A' n' c',.int .i64 (m' : Int)]
 obtain ⟨g0,g1⟩:=bx2.c2
 obtain ⟨p0,p1⟩:=bx3.c2
 by_cases hq : m = m'
 ·have e0 : ((m : Int) == (m' : Int)) = true:=by rw [beq_iff_eq]; omega
  have e1 : decide (MM = NN) = t:=by
   rw [← e]
   by_cases hx : MM = NN
   ·rw [decide_eq_true hx,decide_eq_true ⟨hq,hx⟩]
   ·rw [decide_eq_false hx,decide_eq_false (fun y => hx y.2)]
  have hx:=h.hm
  have hy:=h'.hm
  have H:=lh9 (zks (q:=c) (q':=c') e1 (hT.on bx1) (h.keep bx1).rows (h'.keep bx1).rows z z' (fun L hL => by rw [h.dims.cols L hL]; exact hx) (fun L hL => by rw [h'.dims.cols L hL]; exact hy) h.hn hK hK')
  have HB:=lh9 bx1
  clear h h' hT z z' bx1 bx2 bx3 bz e e1 hq
  go_enter Tryz.func42,Tryz.ntmps42
  go_wp2_with fail
  refine H.out.mono ?_
  rintro e w1 ⟨rfl,hb⟩
  have HB2:=lh9 (zaa HB.out hb)
  clear hb g0 g1 p0 p1
  go_wp2
  go_ret
  exact ⟨rfl,HB2.out⟩
 ·have e0 : ((m : Int) == (m' : Int)) = false:=by rw [beq_eq_false_iff_ne]; omega
  have HF : Hid (false = t):=by rw [← e]; exact (decide_eq_false (fun y => hq y.1)).symm
  have HB:=lh9 bx1
  clear h h' hT z z' bx1 bx2 bx3 bz e hq
  go_enter Tryz.func42,Tryz.ntmps42
  go_wp2
  go_ret
  exact ⟨by rw [← HF.out]; rfl,HB.out⟩
end
section
variable {A : oA9} {n c m K : Nat} {MM : List (List Rat)} {w : World}
theorem zgT {V : oA9} {k cv N : Nat} {xs : List Rat} (hN : n + 1 = N) (h : zap w A n c m MM) (hv : zaG w V k cv xs) (hno : zeE (N : Int) (m : Int) = false ∨ k ≠ m) : Calls Tryz.prog 46 #[.agg #[.slice A n c,.int .i64 (m : Int)],.slice V k cv] w (zcR w):=by
 obtain ⟨i9,hi9,hz9,hz10,hz11⟩:=info_parts zfr
 obtain ⟨hn,hm⟩:=And.intro h.hn h.hm
 have hlx:=hv.len
 have HLX:=lh9 hlx
 have HLM:=lh9 h.dims.rows
 have HN:=lh9 hN
 have HOF : Hid (∀ (W : World) (Q : oA9) (q : Nat),Below w.heap.size w W → zaD (zaJ zaj) W Q N (MM ++ [xs]) → Calls Tryz.prog 50 #[.int .i64 (m : Int),.slice Q N q] W (zcR W)):=fun W Q q hb hr => by
  refine zmu hr (by omega) ?_
  rcases hno with h1 | h1
  ·exact Or.inl h1
  ·refine Or.inr ?_
   unfold badB
   refine List.any_eq_true.2 ⟨xs,List.mem_append.2 (Or.inr (List.mem_singleton.2 rfl)),?_⟩
   simp
   omega
 have HC:=lh9 (fun W (hb : Below w.heap.size w W) => zle (c:=c) (h.keep hb).rows (by omega))
 obtain ⟨bx1,bx2,bx3,bz⟩:=zbs w 28 28 #[.slice A n c,.int .i64 (m : Int)] #[.slice none 0 0,.int .i64 0]
 obtain ⟨p0,p1⟩:=bx2.c2
 have HB:=lh9 bx1
 have HKM:=lh9 bx2
 have HK:=lh9 bx3
 have HV:=lh9 (hv.keep bx1)
 clear h hv hN hlx bx1 bx2 bx3 bz hno
 go_enter Tryz.func46,Tryz.ntmps46
 go_wp2_with fail
 generalize (w.alloc (.cells #[.slice A n c,.int .i64 (m : Int)] 28)).alloc (.cells #[.slice none 0 0,.int .i64 0] 28) = W1 at *
 have hbd:=(Below.refl W1.heap.size W1).drew
 refine rg (csc p0 (csc p1 csn)) (fun hHeld => ?_)
 clear p0 p1
 have HB:=lh9 (zaa HB.out hbd)
 have HK:=lh9 (zac hbd HK.out)
 have HKM:=lh9 (zac hbd HKM.out)
 have HV:=lh9 (HV.out.keep hbd)
 clear hbd
 generalize W1.drew = D at *
 refine tk 0 ?_
 refine tk 1 ?_
 refine tk 2 ?_
 refine tk 3 ?_
 refine tk 5 ?_
 have HKB : Hid (w.heap.size + 1 < D.heap.size):=HK.out.lt
 refine rcb 4 6 (fun KK hK9 => ?_) (fun KK hK9 => ?_)
 ·go_simp
  refine (HC.out _ HB.out).mono ?_
  rintro e w4 ⟨v9,vs,rfl,hon,hb⟩
  refine hK9.out _ _ (Cs.below hHeld hb) (fun hHeld => ?_)
  clear hK9 KK
  have HB:=lh9 (zaa HB.out hb)
  have HK:=lh9 (zac hb HK.out)
  have HKM:=lh9 (zac hb HKM.out)
  have HV:=lh9 (HV.out.keep hb)
  obtain ⟨base,hbase⟩ : ∃ x,x = D.heap.size:=⟨_,rfl⟩
  rw [← hbase] at hon HKB
  have hbs : base ≤ w4.heap.size:=by rw [hbase]; exact hb.size
  have HWB : Hid (w.heap.size ≤ base):=by have:=HKB.out; show _ ≤ _; omega
  clear hb hbase
  refine rc 6 (fun KK hK9 => ?_)
  go_simp
  obtain ⟨t1,hlit,t3⟩:=zaz w4 51 #[.slice V k cv]
  refine hK9.out _ _ (Cs.below hHeld t1) (fun hHeld => ?_)
  clear hK9 KK
  have HB:=lh9 (zaa HB.out t1)
  have HK:=lh9 (zac t1 HK.out)
  have HKM:=lh9 (zac t1 HKM.out)
  have HV:=lh9 (HV.out.keep t1)
  have hon:=hon.below (zaA zam) t1
  have hbs:=Nat.le_trans hbs t1.size
  obtain ⟨W5,hW5⟩ : ∃ x,x = w4.alloc (.cells #[.slice V k cv] 51):=⟨_,rfl⟩
  obtain ⟨gl,hgl⟩ : ∃ x,x = w4.heap.size:=⟨_,rfl⟩
  rw [← hW5] at hon hbs hlit HB HK HKM HV hHeld ⊢
  rw [← hgl] at hlit ⊢
  clear t1 t3 hW5 hgl
  have HON : Hid (zby (zaJ zaj) W5 base 51 v9 MM vs):=hon
  clear hon
  have HOWN : Hid (W5.ownsRow base 51 1 v9 n vs):=by have:=HON.out.own; rw [HLM.out] at this; exact this
  have HSL:=lh9 HON.out.sl
  have HBS : Hid (base ≤ W5.heap.size):=hbs
  have HZS : Hid (∀ u ∈ (Value.slice none 0 0).cells.toList,zbV u):=by intro u hu; simp [Value.cells] at hu; exact ⟨_,_,_,hu⟩
  have HNN : Hid (∀ u ∈ [Value.slice V k cv],zbV u):=by intro u hu; simp at hu; exact ⟨_,_,_,hu⟩
  have HONE : Hid (∀ u ∈ [Value.slice V k cv],u.oneCell' = true):=by intro u hu; simp at hu; subst hu; rfl
  have HOB:=lh9 (fun r (h : v9.ownBlock = some r) => HON.out.own.lt r h)
  have HCELL : Hid (∀ j u,[Value.slice V k cv][j]? = some u → W5.cell? ((⟨gl,0,none⟩ : Addr).add j) = some u):=fun j u hu => by
   rw [zaL]
   match j,hu with
   | 0,hu => simp at hu; subst hu; exact hlit.c1
  clear hlit hbs
  refine rc 7 (fun KK hK9 => ?_)
  refine zfL _ (.tmp 10) (.tmp 12) 26 rfl base 51 i9 (.slice none 0 0) 1 24 Tryz.underlying26 hi9 hz9 hz10 hz11 rfl (by decide) v9 n vs rfl HOWN.out ⟨gl,0,none⟩ 1 1 [.slice V k cv] rfl rfl HCELL.out HONE.out (by unfold maxLen; omega) (by omega) HBS.out HSL.out HZS.out HNN.out ?_
  intro v' w8 hown' hgrow hat hsl'
  have hon8:=zby.grow (n:=n + 1) (L:=xs) (zaA zam) HON.out HV.out HLX.out hown' (by rw [HLM.out]) hgrow hsl'
  have HB8:=lh9 (HB.out.grown hgrow HB.out.size (fun r hr => Nat.le_trans HWB.out (HOB.out r hr).1))
  have HK8 : Hid (Blk w8 (w.heap.size + 1) 28 #[.slice none 0 0,.int .i64 0]):=zci HK.out hgrow (fun e => by have:=(HOB.out _ e).1; have:=HKB.out; omega)
  have HKM8 : Hid (Blk w8 w.heap.size 28 #[.slice A n c,.int .i64 (m : Int)]):=zci HKM.out hgrow (fun e => by have:=(HOB.out _ e).1; have:=HKB.out; omega)
  obtain ⟨Q,q,rfl,hq1,hq2,hrs,-⟩:=hon8.shape (n:=N) (by rw [List.length_append,HLM.out]; exact HN.out)
  have HRS:=lh9 hrs
  obtain ⟨p0,p1⟩:=HKM8.out.c2
  refine hK9.out _ _ (csc p0 (csc p1 csn)) (fun hHeld => ?_)
  clear hK9 KK hown' hgrow hat hsl' hon8 hrs p0 p1 HON HOWN HSL HBS HZS HNN HONE HOB HCELL HB HK HKM hq1 hq2
  have HB:=HB8
  have HK:=HK8
  clear HB8 HK8 HKM8
  refine rc 8 (fun KK hK9 => ?_)
  go_simp
  refine (HOF.out _ _ _ HB.out HRS.out).mono ?_
  rintro e w9 ⟨rfl,hb⟩
  refine hK9.out _ _ (Cs.below hHeld hb) (fun hHeld => ?_)
  clear hK9 KK
  have hk3:=zac hb HK.out
  obtain ⟨sc0,sf0,sc1,sf1⟩:=st2 hk3 (.slice none 0 0)
  obtain ⟨r0,r1⟩:=(sn2 hk3 (.slice none 0 0) (.int .i64 0)).c2
  have HG:=lh9 (gmn2 (g:=w.heap.size + 1) (zaa HB.out hb) (by omega))
  clear hb hk3  HB HK
  refine tk 9 ?_
  refine tk 10 ?_
  refine rc 11 (fun KK hK9 => ?_)
  go_simp
  refine hK9.out _ _ ?_ (fun hHeld => ?_)
  ·refine Cs.far hHeld (zeF _ _ _ _) ⟨?_,?_,trivial⟩ <;> (show w.heap.size ≠ w.heap.size + 1; omega)
  clear hK9 KK
  refine tk 12 ?_
  refine rdn ?_
  clear hHeld sc0 sf0 sc1 sf1
  go_wp2
  refine bodyPost_ret (v:=.tuple #[.agg #[.slice none 0 0,.int .i64 0],.bool false]) (by simp [results,Tryz.results46,go_sem,r0,r1]) rfl ?_
  exact HG.out
 ·go_simp
  obtain ⟨t1,hlit,t3⟩:=zaz D 51 #[.slice V k cv]
  refine hK9.out _ _ (Cs.below hHeld t1) (fun hHeld => ?_)
  clear hK9 KK
  have HB:=lh9 (zaa HB.out t1)
  have HK:=lh9 (zac t1 HK.out)
  have HKM:=lh9 (zac t1 HKM.out)
  have HV:=lh9 (HV.out.keep t1)
  obtain ⟨W4,hW4⟩ : ∃ x,x = D.alloc (.cells #[.slice V k cv] 51):=⟨_,rfl⟩
  obtain ⟨gl,hgl⟩ : ∃ x,x = D.heap.size:=⟨_,rfl⟩
  have HKB : Hid (w.heap.size + 1 < W4.heap.size):=by rw [hW4]; exact Nat.lt_of_lt_of_le HKB.out t1.size
  rw [← hW4] at hlit HB HK HKM HV hHeld ⊢
  rw [← hgl] at hlit ⊢
  clear t1 t3 hW4 hgl
  refine rc 4 (fun KK hK9 => ?_)
  go_simp
  refine (HC.out _ HB.out).mono ?_
  rintro e W5 ⟨v9,vs,rfl,hon,hb⟩
  refine hK9.out _ _ (Cs.below hHeld hb) (fun hHeld => ?_)
  clear hK9 KK
  have HB:=lh9 (zaa HB.out hb)
  have HK:=lh9 (zac hb HK.out)
  have HKM:=lh9 (zac hb HKM.out)
  have HV:=lh9 (HV.out.keep hb)
  have hlit:=zac hb hlit
  obtain ⟨base,hbase⟩ : ∃ x,x = W4.heap.size:=⟨_,rfl⟩
  rw [← hbase] at hon HKB
  have hbs : base ≤ W5.heap.size:=by rw [hbase]; exact hb.size
  have HWB : Hid (w.heap.size ≤ base):=by have:=HKB.out; show _ ≤ _; omega
  clear hb hbase
  have HON : Hid (zby (zaJ zaj) W5 base 51 v9 MM vs):=hon
  clear hon
  have HOWN : Hid (W5.ownsRow base 51 1 v9 n vs):=by have:=HON.out.own; rw [HLM.out] at this; exact this
  have HSL:=lh9 HON.out.sl
  have HBS : Hid (base ≤ W5.heap.size):=hbs
  have HZS : Hid (∀ u ∈ (Value.slice none 0 0).cells.toList,zbV u):=by intro u hu; simp [Value.cells] at hu; exact ⟨_,_,_,hu⟩
  have HNN : Hid (∀ u ∈ [Value.slice V k cv],zbV u):=by intro u hu; simp at hu; exact ⟨_,_,_,hu⟩
  have HONE : Hid (∀ u ∈ [Value.slice V k cv],u.oneCell' = true):=by intro u hu; simp at hu; subst hu; rfl
  have HOB:=lh9 (fun r (h : v9.ownBlock = some r) => HON.out.own.lt r h)
  have HCELL : Hid (∀ j u,[Value.slice V k cv][j]? = some u → W5.cell? ((⟨gl,0,none⟩ : Addr).add j) = some u):=fun j u hu => by
   rw [zaL]
   match j,hu with
   | 0,hu => simp at hu; subst hu; exact hlit.c1
  clear hlit hbs
  refine rc 7 (fun KK hK9 => ?_)
  refine zfL _ (.tmp 10) (.tmp 12) 26 rfl base 51 i9 (.slice none 0 0) 1 24 Tryz.underlying26 hi9 hz9 hz10 hz11 rfl (by decide) v9 n vs rfl HOWN.out ⟨gl,0,none⟩ 1 1 [.slice V k cv] rfl rfl HCELL.out HONE.out (by unfold maxLen; omega) (by omega) HBS.out HSL.out HZS.out HNN.out ?_
  intro v' w8 hown' hgrow hat hsl'
  have hon8:=zby.grow (n:=n + 1) (L:=xs) (zaA zam) HON.out HV.out HLX.out hown' (by rw [HLM.out]) hgrow hsl'
  have HB8:=lh9 (HB.out.grown hgrow HB.out.size (fun r hr => Nat.le_trans HWB.out (HOB.out r hr).1))
  have HK8 : Hid (Blk w8 (w.heap.size + 1) 28 #[.slice none 0 0,.int .i64 0]):=zci HK.out hgrow (fun e => by have:=(HOB.out _ e).1; have:=HKB.out; omega)
  have HKM8 : Hid (Blk w8 w.heap.size 28 #[.slice A n c,.int .i64 (m : Int)]):=zci HKM.out hgrow (fun e => by have:=(HOB.out _ e).1; have:=HKB.out; omega)
  obtain ⟨Q,q,rfl,hq1,hq2,hrs,-⟩:=hon8.shape (n:=N) (by rw [List.length_append,HLM.out]; exact HN.out)
  have HRS:=lh9 hrs
  obtain ⟨p0,p1⟩:=HKM8.out.c2
  refine hK9.out _ _ (csc p0 (csc p1 csn)) (fun hHeld => ?_)
  clear hK9 KK hown' hgrow hat hsl' hon8 hrs p0 p1 HON HOWN HSL HBS HZS HNN HONE HOB HCELL HB HK HKM hq1 hq2
  have HB:=HB8
  have HK:=HK8
  clear HB8 HK8 HKM8
  refine rc 8 (fun KK hK9 => ?_)
  go_simp
  refine (HOF.out _ _ _ HB.out HRS.out).mono ?_
  rintro e w9 ⟨rfl,hb⟩
  refine hK9.out _ _ (Cs.below hHeld hb) (fun hHeld => ?_)
  clear hK9 KK
  have hk3:=zac hb HK.out
  obtain ⟨sc0,sf0,sc1,sf1⟩:=st2 hk3 (.slice none 0 0)
  obtain ⟨r0,r1⟩:=(sn2 hk3 (.slice none 0 0) (.int .i64 0)).c2
  have HG:=lh9 (gmn2 (g:=w.heap.size + 1) (zaa HB.out hb) (by omega))
  clear hb hk3  HB HK
  refine tk 9 ?_
  refine tk 10 ?_
  refine rc 11 (fun KK hK9 => ?_)
  go_simp
  refine hK9.out _ _ ?_ (fun hHeld => ?_)
  ·refine Cs.far hHeld (zeF _ _ _ _) ⟨?_,?_,trivial⟩ <;> (show w.heap.size ≠ w.heap.size + 1; omega)
  clear hK9 KK
  refine tk 12 ?_
  refine rdn ?_
  clear hHeld sc0 sf0 sc1 sf1
  go_wp2
  refine bodyPost_ret (v:=.tuple #[.agg #[.slice none 0 0,.int .i64 0],.bool false]) (by simp [results,Tryz.results46,go_sem,r0,r1]) rfl ?_
  exact HG.out
end
end Go.Proofs.YtedbgdlbgohiiaaGreatDoor
