/- What this claim leans on. -/
import Derived.Test.YtedbgdlbgohiiaaGreatDoorBJ8Make
import Derived.Test.YtedbgdlbgohiiaaGreatDoorBMMade
import Derived.Test.YtedbgdlbgohiiaaGreatDoorBMClos
namespace Go.Proofs.YtedbgdlbgohiiaaGreatDoor
open Go Go.RowKit
set_option maxHeartbeats 16000000
set_option maxRecDepth 100000
set_option linter.unusedVariables false
set_option linter.unusedSimpArgs false
theorem zjU {p : Int} {w : World} (hT : zaj w) (hp : zbM p) :
  Calls Tryz.prog 74 #[.agg #[.int .i64 p,.int .i64 0]] w (zaI w (qOf p 0)):=by
 rw [qOf_zero]
 obtain ⟨hp1,hp2⟩:=hp
 have HT:=lh9 (fun w' (hb : Below w.heap.size w w') => hT.on hb)
 obtain ⟨bx1,bx2,bx3,bz⟩:=zbo w 61 48 #[.int .i64 p,.int .i64 0] #[.bool false,.slice none 0 0,.slice none 0 0]
 obtain ⟨g0,g1⟩:=bx2.c2
 have HB:=lh9 bx1
 have HK:=lh9 bx3
 clear hT bx1 bx2 bx3 bz
 go_enter Tryz.func74,Tryz.ntmps74
 go_wp2_with fail
 clear g0 g1
 (with_reducible refine (zfJ p _ (HT.out _ HB.out) hp1 hp2).mono ?_)
 rintro e w2 ⟨b2,A2,n2,c2,E2,k2,f2,rfl,hw2,hb⟩
 have hk2:=zac hb HK.out
 obtain ⟨sc0,sf0,sc1,sf1,sc2,sf2⟩:=st3 hk2 (.bool b2) (.slice A2 n2 c2)
 obtain ⟨r0,r1,r2⟩:=(sn3 hk2 (.bool b2) (.slice A2 n2 c2) (.slice E2 k2 f2)).c3
 have HG:=lh9 (gq3 hw2 hk2 (zaa HB.out hb) (by omega))
 clear hb hk2 hw2 HB HK
 go_wp2
 refine bodyPost_ret (v:=.agg #[.bool b2,.slice A2 n2 c2,.slice E2 k2 f2]) (by simp [results,Tryz.results74,go_sem,r0,r1,r2]) rfl ?_
 exact HG.out
theorem zjV {p q : Int} {w : World} (hT : zaj w) (hp : zbM p) (hq : zbM q) (h0 : q ≠ 0) :
  Calls Tryz.prog 74 #[.agg #[.int .i64 p,.int .i64 q]] w (zaI w (qOf p q)):=by
 rw [qOf_ne h0]
 obtain ⟨hp1,hp2⟩:=hp
 obtain ⟨hq1,hq2⟩:=hq
 have H0:=lh9 h0
 have hd0 : (q == 0) = false:=by rw [beq_eq_false_iff_ne]; exact h0
 have HT:=lh9 (fun w' (hb : Below w.heap.size w w') => hT.on hb)
 obtain ⟨bx1,bx2,bx3,bz⟩:=zbo w 61 48 #[.int .i64 p,.int .i64 q] #[.bool false,.slice none 0 0,.slice none 0 0]
 obtain ⟨g0,g1⟩:=bx2.c2
 have HB:=lh9 bx1
 have HK:=lh9 bx3
 clear hT bx1 bx2 bx3 bz h0
 go_enter Tryz.func74,Tryz.ntmps74
 go_wp2_with fail
 clear g0 g1
 (with_reducible refine (rat_of p q _ (HT.out _ HB.out) hp1 hp2 hq1 hq2 H0.out).mono ?_)
 rintro e w2 ⟨b2,A2,n2,c2,E2,k2,f2,rfl,hw2,hb⟩
 obtain ⟨s1,s2,s3⟩:=zaC w2 48 #[.bool b2,.slice A2 n2 c2,.slice E2 k2 f2]
 obtain ⟨p0,p1,p2⟩:=s2.c3
 have hk2:=zac s1 (zac hb HK.out)
 have hw3:=hw2.below s1
 obtain ⟨sc0,sf0,sc1,sf1,sc2,sf2⟩:=st3 hk2 (.bool b2) (.slice A2 n2 c2)
 obtain ⟨r0,r1,r2⟩:=(sn3 hk2 (.bool b2) (.slice A2 n2 c2) (.slice E2 k2 f2)).c3
 have HG:=lh9 (gq3 hw3 hk2 (zaa (zaa HB.out hb) s1) (by omega))
 clear hb hk2 hw2 hw3 HB HK s1 s2 s3
 go_wp2
 refine bodyPost_ret (v:=.agg #[.bool b2,.slice A2 n2 c2,.slice E2 k2 f2]) (by simp [results,Tryz.results74,go_sem,r0,r1,r2]) rfl ?_
 exact HG.out
theorem zil {p q : Int} {w : World} (hT : zaj w) (hp : zbM p) (hq : zbM q) :
  Calls Tryz.prog 74 #[.agg #[.int .i64 p,.int .i64 q]] w (zaI w (qOf p q)):=by
 by_cases h0 : q = 0
 ·subst h0; exact zjU hT hp
 ·exact zjV hT hp hq h0
def zcO (L : List (Int × Int)) : List Rat:=L.map fun q => qOf q.1 q.2
theorem qsOf_sz {W : World} {A : oA9} {n c : Nat} {L : List (Int × Int)} (h : zaS W A n c L) : zav 1 (zcO L):=fun x hx => by
 obtain ⟨q,hq,rfl⟩:=List.mem_map.1 hx
 obtain ⟨⟨h1,h2⟩,h3,h4⟩:=h.ints q hq
 exact qOf_sz h1 h2 h3 h4
theorem zdB (L : List (Int × Int)) : (zcO L).length = L.length:=List.length_map _
def GivesM (w : World) (n : Nat) (xs : List Rat) (e : Ending) (w' : World) : Prop:=∃ (A : oA9) (c : Nat),e = .returned (.slice A n c) ∧ zaD w' A n c xs ∧ (∀ ad,A = some ad → w.heap.size ≤ ad.block) ∧ Below w.heap.size w w'
theorem zli {A : oA9} {n c : Nat} {L : List (Int × Int)} {w : World} (hT : zaj w) (h : zaS w A n c L) :
  Calls Tryz.prog 37 #[.slice A n c] w (GivesM w n (zcO L)):=by
 obtain ⟨i1',hi1,hz10,hz11,hz12⟩:=info_parts ziV
 have hn0 : n ≤ 1048576:=Nat.le_trans h.fits h.small
 have HL:=lh9 h.len
 have HG : Hid (∀ k,k < n → zbM (L.getD k (0,0)).1 ∧ zbM (L.getD k (0,0)).2 ∧ ∃ ad,A = some ad ∧ ad.block < w.heap.size ∧ w.cell? (ad.add (k * 2)) = some (.int .i64 (L.getD k (0,0)).1) ∧ w.cell? (ad.add (k * 2 + 1)) = some (.int .i64 (L.getD k (0,0)).2)):=fun k hk => by
  have hl:=h.len
  have e : L[k]? = some (L.getD k (0,0)):=by rw [List.getD_eq_getElem?_getD,List.getElem?_eq_getElem (by omega)]; rfl
  obtain ⟨h1,h2⟩:=h.ints _ (List.mem_of_getElem? e)
  exact ⟨h1,h2,h.row k _ e⟩
 have HS : Hid (∀ k,k < n → zcO (L.take (k + 1)) = zcO (L.take k) ++ [qOf (L.getD k (0,0)).1 (L.getD k (0,0)).2]):=fun k hk => by
  have hl:=h.len
  unfold zcO
  rw [List.take_succ_eq_append_getElem (by omega),List.map_append,List.getD_eq_getElem?_getD,List.getElem?_eq_getElem (by omega)]
  rfl
 have HT:=lh9 (fun w' (hb : Below w.heap.size w w') => hT.on hb)
 unfold GivesM
 clear h hT
 have hB:=Below.refl w.heap.size w
 go_enter Tryz.func37,Tryz.ntmps37
 go_wp2_with fail
 go_loopg [3,4] (n + 1) (fun g sl ix wr => ∃ (k : Nat) (v : Value) (vs : List Value),k ≤ n ∧ n < g + k ∧ ix = .int .i64 k ∧ v = sl ∧ zcL zai wr w.heap.size 48 v (zcO (L.take k)) vs ∧ Below w.heap.size w wr)
 case atStart => exact ⟨0,_,_,Nat.zero_le _,by omega,rfl,rfl,zcL.nil _ _ _,hB⟩
 case round =>
  clear hB
  obtain ⟨k,v,vs,hkn,hg,rfl,rfl,hon,hB⟩:=hrel
  by_cases hlt : k < n
  ·obtain ⟨hi1',hi2',ad,rfl,hadb,hc0,hc1⟩:=HG.out k hlt
   have HSK:=lh9 (HS.out k hlt)
   obtain ⟨q,hq⟩ : ∃ q,L.getD k (0,0) = q:=⟨_,rfl⟩
   rw [hq] at hi1' hi2' hc0 hc1 HSK
   obtain ⟨q1,q2⟩:=q
   dsimp only at hi1' hi2' hc0 hc1 HSK
   have hc0:=zab hB hc0
   have hc1:=zfq (zab hB hc1)
   have hd1 : decide ((k : Int) < (n : Int)) = true:=decide_eq_true (by omega)
   have i1 : (0 : Int) ≤ (k : Int):=by omega
   have i2 : (k : Int) < (n : Int):=by omega
   have HON0:=lh9 hon
   have HB0:=lh9 hB
   have HI1:=lh9 hi1'
   have HI2:=lh9 hi2'
   have hlq : (zcO (L.take k)).length = k:=by rw [zdB,List.length_take,HL.out]; omega
   have HLQ:=lh9 hlq
   clear hon hB hi1' hi2' hq hlq
   go_wp2_with fail
   (with_reducible refine (zil (HT.out _ HB0.out) HI1.out HI2.out).mono ?_)
   rintro e w5 ⟨b5,B5,m5,d5,E5,u5,f5,rfl,hx5,hb⟩
   obtain ⟨t1,t2,_⟩:=zaC w5 48 #[.bool b5,.slice B5 m5 d5,.slice E5 u5 f5]
   obtain ⟨t20,t21,t22⟩:=t2.c3
   have hup:=zaa hb t1
   have hon:=zcL.below zal HON0.out hup
   have HX:=lh9 (hx5.below t1)
   have HB:=lh9 (zaa HB0.out hup)
   have hcell : ∀ j u,[Value.bool b5,.slice B5 m5 d5,.slice E5 u5 f5][j]? = some u → (w5.alloc (.cells #[.bool b5,.slice B5 m5 d5,.slice E5 u5 f5] 48)).cell? ((⟨w5.heap.size,0,none⟩ : Addr).add j) = some u:=fun j u hu => by
    rw [zay]
    match j,hu with
    | 0,hu => simp at hu; subst hu; exact t2.cell 0
    | 1,hu => simp at hu; subst hu; exact t2.cell 1
    | 2,hu => simp at hu; subst hu; exact t2.cell 2
   have HCELL:=lh9 hcell
   have HONE : Hid (∀ u ∈ [Value.bool b5,.slice B5 m5 d5,.slice E5 u5 f5],u.oneCell' = true):=by intro u hu; simp at hu; rcases hu with rfl | rfl | rfl <;> rfl
   have HNN : Hid (∀ u ∈ [Value.bool b5,.slice B5 m5 d5,.slice E5 u5 f5],zfT u):=by intro u hu y z; simp at hu; rcases hu with rfl | rfl | rfl <;> (intro h9; cases h9)
   have HZN : Hid (∀ u ∈ (Value.agg #[.bool false,.slice none 0 0,.slice none 0 0]).cells.toList,zfT u):=by intro u hu y z; simp [Value.cells] at hu; rcases hu with rfl | rfl <;> (intro h9; cases h9)
   have HBS : Hid (w.heap.size ≤ (w5.alloc (.cells #[.bool b5,.slice B5 m5 d5,.slice E5 u5 f5] 48)).heap.size):=HB.out.size
   have hown:=hon.own
   rw [HLQ.out] at hown
   have HOWN:=lh9 hown
   have HNOU:=lh9 hon.nou
   have HON:=lh9 hon
   have HOB:=lh9 (fun r (h : v.ownBlock = some r) => hon.own.lt r h)
   clear hb hup hx5 hcell hon t1 t2 hc0 hc1 t20 t21 t22 hown
   go_wp2_with (at_builtin; go_loud (refine zbO _ rfl (.tmp 11) (.tmp 17) 51 rfl w.heap.size 48 i1' (.agg #[.bool false,.slice none 0 0,.slice none 0 0]) 3 56 Tryz.underlying51 hi1 hz10 hz11 hz12 rfl (by decide) v k vs rfl HOWN.out ⟨w5.heap.size,0,none⟩ 1 1 [.bool b5,.slice B5 m5 d5,.slice E5 u5 f5] rfl rfl HCELL.out HONE.out (by unfold maxLen; omega) (by omega) HBS.out HNOU.out HZN.out HNN.out ?_; intro v' w8 hown' hgrow hat hnou'; have HON8:=lh9 (zcL.grow (n:=k + 1) zal HON.out HX.out hown' (by rw [HLQ.out]) hgrow hnou'); have HB8:=lh9 (HB.out.grown hgrow HBS.out (fun r hr => (HOB.out r hr).1)); clear hown' hgrow hat hnou'))
   rw [← HSK.out] at HON8
   go_roundg (n - k)
   case measure => omega
   case rel => exact ⟨k + 1,_,_,by omega,by omega,by go_num,rfl,HON8.out,HB8.out⟩
  ·have hd1 : decide ((k : Int) < (n : Int)) = false:=decide_eq_false (by omega)
   have hk : k = n:=by omega
   subst hk
   rw [List.take_of_length_le (by rw [HL.out]; exact Nat.le_refl _)] at hon
   have hlq : (zcO L).length = k:=by rw [zdB]; exact HL.out
   obtain ⟨A1,c1,rfl,hv,hf⟩:=hon.shape
   rw [hlq] at hv ⊢
   have HV:=lh9 hv
   have HF:=lh9 hf
   have HB1:=lh9 hB
   clear hon hv hB hlq hf
   go_wp2
   go_ret
   exact ⟨A1,c1,rfl,HV.out,HF.out,HB1.out⟩
theorem zgc {r c : Int} {b : Bool} (h : zeH r c = b) (w : World) : Calls Tryz.prog 55 #[.int .i64 r,.int .i64 c] w (fun e w' => e = .returned (.bool b) ∧ w = w'):=h ▸ mat_may r c w
theorem zlp (fn : Fn) (first cap : Array Value) (w : World) : (Instr.makeFunc fn first cap).run Tryz.prog w = .ok (.func fn first cap) w:=rfl
theorem sz_one : SzQ 1 (1 : Rat):=⟨by decide,by decide⟩
theorem one_sz (r c : Nat) : SzQ 1 (if r = c then (1 : Rat) else 0):=by split <;> first | exact sz_one | exact SzQ.zero
theorem mat_one {n : Nat} {w : World} (hT : zaj w) (hn : n ≤ 64) : Calls Tryz.prog 15 #[.int .i64 (n : Int)] w (zbq w n n (oneM n)):=by
 have H:=fun W => lh9 (zgc (zfB hn hn) W)
 obtain ⟨bx1,bx2,bz⟩:=zaC w 28 #[.slice none 0 0,.int .i64 0]
 have HM : Hid (Calls _ _ _ _ (zba _ n n (oneM n))):=zcZ (K:=1) (fun r c => if r = c then 1 else 0) 59 #[] n n _ (hT.on bx1) ⟨en_one1,fun r c _ _ w' hb => cl_one ((hT.on bx1).on hb) r c⟩ (fun r c _ _ => one_sz r c) hn hn
 have HK:=lh9 bx2
 have HB:=lh9 bx1
 clear bx1 bx2 bz hT
 go_enter Tryz.func15,Tryz.ntmps15
 go_wp2_with fail
 refine (H _).out.mono ?_
 rintro e w1 ⟨rfl,rfl⟩
 go_wp2_with fail
 refine HM.out.mono ?_
 rintro e w3 ⟨A3,c3,rfl,hm3,hf3,hb⟩
 have hk3:=zac hb HK.out
 obtain ⟨sc0,sf0,sc1,sf1⟩:=st2 hk3 (.slice A3 n c3)
 obtain ⟨r0,r1⟩:=(sn2 hk3 (.slice A3 n c3) (.int .i64 (n : Int))).c2
 have HG:=lh9 (gmb2 hm3 (fun ad e => Nat.lt_of_lt_of_le HK.out.lt (hf3 ad e)) hk3 (zaa HB.out hb) (by omega))
 clear hb hk3 hm3 hf3 HK HB
 go_wp2
 refine bodyPost_ret (v:=.tuple #[.agg #[.slice A3 n c3,.int .i64 (n : Int)],.bool true]) (by simp [results,Tryz.results15,go_sem,r0,r1]) rfl ?_
 exact HG.out
section
variable {A : oA9} {n c m K : Nat} {MM : List (List Rat)} {w : World}
theorem mat_copy (hT : zaj w) (h : zat w A n c m MM) (z : zau K MM) (hK : K + 2 ≤ 67108864:=by omega) : Calls Tryz.prog 34 #[.agg #[.slice A n c,.int .i64 (m : Int)]] w (zba w n m MM):=by
 obtain ⟨hn,hm⟩:=And.intro h.hn h.hm
 have HR:=fun W => lh9 (zaW A n c (m : Int) W)
 obtain ⟨bx1,bx2,bx3,bz⟩:=zbo w 28 28 #[.slice A n c,.int .i64 (m : Int)] #[.slice none 0 0,.int .i64 0]
 have HM : ∀ W,Below w.heap.size w W → Blk W w.heap.size 28 #[.slice A n c,.int .i64 (m : Int)] → Hid (Calls Tryz.prog 56 #[.int .i64 (n : Int),.int .i64 (m : Int),.func (.func 78) #[] #[.pointer (some ⟨w.heap.size,0,none⟩)]] W (zba W n m MM)):=fun W hW hk => by
  have hh:=h.keep hW
  have q:=zcZ (K:=K) (atM MM) 78 #[.pointer (some ⟨w.heap.size,0,none⟩)] n m W (hT.on hW) ⟨en_copy1,fun r c hr hc w' hb => cl_copy (hh.keep hb) (zac hb hk) hr hc⟩ (fun r c hr hc => z.at_ h.dims hr hc) hn hm hK
  rw [h.dims.eq] at q
  exact q
 have HKM:=lh9 bx2
 have HK:=lh9 bx3
 have HB:=lh9 bx1
 obtain ⟨p0,p1⟩:=bx2.c2
 clear bx1 bx2 bx3 bz hT h z
 go_enter Tryz.func34,Tryz.ntmps34
 go_wp2_with fail
 generalize (w.alloc (.cells #[.slice A n c,.int .i64 (m : Int)] 28)).alloc (.cells #[.slice none 0 0,.int .i64 0] 28) = W1 at *
 have hbd:=(Below.refl W1.heap.size W1).drew
 refine rg (csc p0 (csc p1 csn)) (fun hHeld => ?_)
 clear p0 p1
 have HB:=lh9 (zaa HB.out hbd)
 have HK:=lh9 (zac hbd HK.out)
 have HKM:=lh9 (zac hbd HKM.out)
 clear hbd
 generalize W1.drew = D at *
 refine tk 0 ?_
 refine tk 2 ?_
 refine tk 3 ?_
 refine tk 4 ?_
 refine rc 1 (fun KK hK9 => ?_)
 go_simp
 refine (HR _).out.mono ?_
 rintro e w2 ⟨rfl,hb⟩
 refine hK9.out _ _ (Cs.below hHeld hb) (fun hHeld => ?_)
 clear hK9 KK
 have HB:=lh9 (zaa HB.out hb)
 have HK:=lh9 (zac hb HK.out)
 have HKM:=lh9 (zac hb HKM.out)
 clear hb
 refine rc 5 (fun KK hK9 => ?_)
 go_simp
 refine (HM _ HB.out HKM.out).out.mono ?_
 rintro e w3 ⟨A3,c3,rfl,hm3,hf3,hb⟩
 refine hK9.out _ _ (Cs.below hHeld hb) (fun hHeld => ?_)
 clear hK9 KK
 have hk3:=zac hb HK.out
 obtain ⟨sc0,sf0,sc1,sf1⟩:=st2 hk3 (.slice A3 n c3)
 obtain ⟨r0,r1⟩:=(sn2 hk3 (.slice A3 n c3) (.int .i64 (m : Int))).c2
 have HG:=lh9 (gm2 hm3 (fun ad e => Nat.lt_of_lt_of_le HK.out.lt (hf3 ad e)) hk3 (zaa HB.out hb) (by omega))
 clear hb hk3 hm3 hf3 HK HB HKM HM
 refine rc 6 (fun KK hK9 => ?_)
 go_simp
 refine hK9.out _ _ ?_ (fun hHeld => ?_)
 ·refine Cs.far hHeld (zdf _ _ _ _) ⟨?_,?_,trivial⟩ <;> (show w.heap.size ≠ w.heap.size + 1; omega)
 clear hK9 KK
 refine rdn ?_
 clear hHeld sc0 sf0 sc1 sf1
 go_wp2
 refine bodyPost_ret (v:=.agg #[.slice A3 n c3,.int .i64 (m : Int)]) (by simp [results,Tryz.results34,go_sem,r0,r1]) rfl ?_
 exact HG.out
theorem zlq (hT : zaj w) (h : zat w A n c m MM) (z : zau K MM) (hK : K + 2 ≤ 67108864:=by omega) : Calls Tryz.prog 32 #[.agg #[.slice A n c,.int .i64 (m : Int)]] w (zba w m n (zbN n m MM)):=by
 obtain ⟨hn,hm⟩:=And.intro h.hn h.hm
 have HR:=fun W => lh9 (zaW A n c (m : Int) W)
 obtain ⟨bx1,bx2,bx3,bz⟩:=zbo w 28 28 #[.slice A n c,.int .i64 (m : Int)] #[.slice none 0 0,.int .i64 0]
 have HM : ∀ W,Below w.heap.size w W → Blk W w.heap.size 28 #[.slice A n c,.int .i64 (m : Int)] → Hid (Calls Tryz.prog 56 #[.int .i64 (m : Int),.int .i64 (n : Int),.func (.func 77) #[] #[.pointer (some ⟨w.heap.size,0,none⟩)]] W (zba W m n (zbN n m MM))):=fun W hW hk => by
  have hh:=h.keep hW
  exact zcZ (K:=K) (fun r c => atM MM c r) 77 #[.pointer (some ⟨w.heap.size,0,none⟩)] m n W (hT.on hW) ⟨zkZ,fun r c hr hc w' hb => zmK (hh.keep hb) (zac hb hk) hc hr⟩ (fun r c hr hc => z.at_ h.dims hc hr) hm hn hK
 have HKM:=lh9 bx2
 have HK:=lh9 bx3
 have HB:=lh9 bx1
 obtain ⟨p0,p1⟩:=bx2.c2
 clear bx1 bx2 bx3 bz hT h z
 go_enter Tryz.func32,Tryz.ntmps32
 go_wp2_with fail
 generalize (w.alloc (.cells #[.slice A n c,.int .i64 (m : Int)] 28)).alloc (.cells #[.slice none 0 0,.int .i64 0] 28) = W1 at *
 have hbd:=(Below.refl W1.heap.size W1).drew
 refine rg (csc p0 (csc p1 csn)) (fun hHeld => ?_)
 clear p0 p1
 have HB:=lh9 (zaa HB.out hbd)
 have HK:=lh9 (zac hbd HK.out)
 have HKM:=lh9 (zac hbd HKM.out)
 clear hbd
 generalize W1.drew = D at *
 refine tk 0 ?_
 refine tk 1 ?_
 refine tk 2 ?_
 refine tk 4 ?_
 refine rc 3 (fun KK hK9 => ?_)
 go_simp
 refine (HR _).out.mono ?_
 rintro e w2 ⟨rfl,hb⟩
 refine hK9.out _ _ (Cs.below hHeld hb) (fun hHeld => ?_)
 clear hK9 KK
 have HB:=lh9 (zaa HB.out hb)
 have HK:=lh9 (zac hb HK.out)
 have HKM:=lh9 (zac hb HKM.out)
 clear hb
 refine rc 5 (fun KK hK9 => ?_)
 go_simp
 refine (HM _ HB.out HKM.out).out.mono ?_
 rintro e w3 ⟨A3,c3,rfl,hm3,hf3,hb⟩
 refine hK9.out _ _ (Cs.below hHeld hb) (fun hHeld => ?_)
 clear hK9 KK
 have hk3:=zac hb HK.out
 obtain ⟨sc0,sf0,sc1,sf1⟩:=st2 hk3 (.slice A3 m c3)
 obtain ⟨r0,r1⟩:=(sn2 hk3 (.slice A3 m c3) (.int .i64 (n : Int))).c2
 have HG:=lh9 (gm2 hm3 (fun ad e => Nat.lt_of_lt_of_le HK.out.lt (hf3 ad e)) hk3 (zaa HB.out hb) (by omega))
 clear hb hk3 hm3 hf3 HK HB HKM HM
 refine rc 6 (fun KK hK9 => ?_)
 go_simp
 refine hK9.out _ _ ?_ (fun hHeld => ?_)
 ·refine Cs.far hHeld (zdf _ _ _ _) ⟨?_,?_,trivial⟩ <;> (show w.heap.size ≠ w.heap.size + 1; omega)
 clear hK9 KK
 refine rdn ?_
 clear hHeld sc0 sf0 sc1 sf1
 go_wp2
 refine bodyPost_ret (v:=.agg #[.slice A3 m c3,.int .i64 (n : Int)]) (by simp [results,Tryz.results32,go_sem,r0,r1]) rfl ?_
 exact HG.out
end
end Go.Proofs.YtedbgdlbgohiiaaGreatDoor
