/- What this claim leans on. -/
import Derived.Test.YtkiedljcgkoaiaaGreatDoorXJ8Etc
import Derived.Test.YtkiedljcgkoaiaaGreatDoorXVApp
namespace Go.Proofs.YtkiedljcgkoaiaaGreatDoor
open Go Go.RowKit
set_option maxHeartbeats 16000000
set_option maxRecDepth 100000
set_option linter.unusedVariables false
set_option linter.unusedSimpArgs false
theorem zid {p : Int} {w : World} (hT : zaj w) (hp : zbM p) :
  Calls Tryz.prog 17 #[.agg #[.int .i64 p,.int .i64 0]] w (zaA w (qOf p 0)):=by
 rw [qOf_zero]
 obtain ⟨hp1,hp2⟩:=hp
 have HT:=lh9 (fun w' (hb : Below w.heap.size w w') => hT.on hb)
 obtain ⟨bx1,bx2,bx3,bz⟩:=zbs w 24 44 #[.int .i64 p,.int .i64 0] #[.bool false,.slice none 0 0,.slice none 0 0]
 obtain ⟨g0,g1⟩:=bx2.c2
 have HB:=lh9 bx1
 have HK:=lh9 bx3
 clear hT bx1 bx2 bx3 bz
 go_enter Tryz.func17,Tryz.ntmps17
 go_wp2_with fail
 clear g0 g1
 (with_reducible refine (zfw p _ (HT.out _ HB.out) hp1 hp2).mono ?_)
 rintro e w2 ⟨b2,A2,n2,c2,E2,k2,f2,rfl,hw2,hb⟩
 have hk2:=zac hb HK.out
 obtain ⟨sc0,sf0,sc1,sf1,sc2,sf2⟩:=st3 hk2 (.bool b2) (.slice A2 n2 c2)
 obtain ⟨r0,r1,r2⟩:=(sn3 hk2 (.bool b2) (.slice A2 n2 c2) (.slice E2 k2 f2)).c3
 have HG:=lh9 (gq3 hw2 hk2 (zaa HB.out hb) (by omega))
 clear hb hk2 hw2 HB HK
 go_wp2
 refine bodyPost_ret (v:=.agg #[.bool b2,.slice A2 n2 c2,.slice E2 k2 f2]) (by simp [results,Tryz.results17,go_sem,r0,r1,r2]) rfl ?_
 exact HG.out
theorem zie {p q : Int} {w : World} (hT : zaj w) (hp : zbM p) (hq : zbM q) (h0 : q ≠ 0) :
  Calls Tryz.prog 17 #[.agg #[.int .i64 p,.int .i64 q]] w (zaA w (qOf p q)):=by
 rw [qOf_ne h0]
 obtain ⟨hp1,hp2⟩:=hp
 obtain ⟨hq1,hq2⟩:=hq
 have H0:=lh9 h0
 have hd0 : (q == 0) = false:=by rw [beq_eq_false_iff_ne]; exact h0
 have HT:=lh9 (fun w' (hb : Below w.heap.size w w') => hT.on hb)
 obtain ⟨bx1,bx2,bx3,bz⟩:=zbs w 24 44 #[.int .i64 p,.int .i64 q] #[.bool false,.slice none 0 0,.slice none 0 0]
 obtain ⟨g0,g1⟩:=bx2.c2
 have HB:=lh9 bx1
 have HK:=lh9 bx3
 clear hT bx1 bx2 bx3 bz h0
 go_enter Tryz.func17,Tryz.ntmps17
 go_wp2_with fail
 clear g0 g1
 (with_reducible refine (rat_of p q _ (HT.out _ HB.out) hp1 hp2 hq1 hq2 H0.out).mono ?_)
 rintro e w2 ⟨b2,A2,n2,c2,E2,k2,f2,rfl,hw2,hb⟩
 obtain ⟨s1,s2,s3⟩:=zaG w2 44 #[.bool b2,.slice A2 n2 c2,.slice E2 k2 f2]
 obtain ⟨p0,p1,p2⟩:=s2.c3
 have hk2:=zac s1 (zac hb HK.out)
 have hw3:=hw2.below s1
 obtain ⟨sc0,sf0,sc1,sf1,sc2,sf2⟩:=st3 hk2 (.bool b2) (.slice A2 n2 c2)
 obtain ⟨r0,r1,r2⟩:=(sn3 hk2 (.bool b2) (.slice A2 n2 c2) (.slice E2 k2 f2)).c3
 have HG:=lh9 (gq3 hw3 hk2 (zaa (zaa HB.out hb) s1) (by omega))
 clear hb hk2 hw2 hw3 HB HK s1 s2 s3
 go_wp2
 refine bodyPost_ret (v:=.agg #[.bool b2,.slice A2 n2 c2,.slice E2 k2 f2]) (by simp [results,Tryz.results17,go_sem,r0,r1,r2]) rfl ?_
 exact HG.out
theorem zdS {p q : Int} {w : World} (hT : zaj w) (hp : zbM p) (hq : zbM q) :
  Calls Tryz.prog 17 #[.agg #[.int .i64 p,.int .i64 q]] w (zaA w (qOf p q)):=by
 by_cases h0 : q = 0
 ·subst h0; exact zid hT hp
 ·exact zie hT hp hq h0
def zbI (L : List (Int × Int)) : List Rat:=L.map fun q => qOf q.1 q.2
theorem zbX {W : World} {A : oA9} {n c : Nat} {L : List (Int × Int)} (h : zaN W A n c L) : zao 1 (zbI L):=fun x hx => by
 obtain ⟨q,hq,rfl⟩:=List.mem_map.1 hx
 obtain ⟨⟨h1,h2⟩,h3,h4⟩:=h.ints q hq
 exact qOf_sz h1 h2 h3 h4
theorem zbm (L : List (Int × Int)) : (zbI L).length = L.length:=List.length_map _
def GivesM (w : World) (n : Nat) (xs : List Rat) (e : Ending) (w' : World) : Prop:=∃ (A : oA9) (c : Nat),e = .returned (.slice A n c) ∧ zaL w' A n c xs ∧ (∀ ad,A = some ad → w.heap.size ≤ ad.block) ∧ Below w.heap.size w w'
theorem zbj {A : oA9} {n c : Nat} {L : List (Int × Int)} {w : World} (hT : zaj w) (h : zaN w A n c L) :
  Calls Tryz.prog 10 #[.slice A n c] w (GivesM w n (zbI L)):=by
 obtain ⟨i1',hi1,hz10,hz11,hz12⟩:=info_parts info10
 have hn0 : n ≤ 1048576:=Nat.le_trans h.fits h.small
 have HL:=lh9 h.len
 have HG : Hid (∀ k,k < n → zbM (L.getD k (0,0)).1 ∧ zbM (L.getD k (0,0)).2 ∧ ∃ ad,A = some ad ∧ ad.block < w.heap.size ∧ w.cell? (ad.add (k * 2)) = some (.int .i64 (L.getD k (0,0)).1) ∧ w.cell? (ad.add (k * 2 + 1)) = some (.int .i64 (L.getD k (0,0)).2)):=fun k hk => by
  have hl:=h.len
  have e : L[k]? = some (L.getD k (0,0)):=by rw [List.getD_eq_getElem?_getD,List.getElem?_eq_getElem (by omega)]; rfl
  obtain ⟨h1,h2⟩:=h.ints _ (List.mem_of_getElem? e)
  exact ⟨h1,h2,h.row k _ e⟩
 have HS : Hid (∀ k,k < n → zbI (L.take (k + 1)) = zbI (L.take k) ++ [qOf (L.getD k (0,0)).1 (L.getD k (0,0)).2]):=fun k hk => by
  have hl:=h.len
  unfold zbI
  rw [List.take_succ_eq_append_getElem (by omega),List.map_append,List.getD_eq_getElem?_getD,List.getElem?_eq_getElem (by omega)]
  rfl
 have HT:=lh9 (fun w' (hb : Below w.heap.size w w') => hT.on hb)
 unfold GivesM
 clear h hT
 have hB:=Below.refl w.heap.size w
 go_enter Tryz.func10,Tryz.ntmps10
 go_wp2_with fail
 go_loopg [3,4] (n + 1) (fun g sl ix wr => ∃ (k : Nat) (v : Value) (vs : List Value),k ≤ n ∧ n < g + k ∧ ix = .int .i64 k ∧ v = sl ∧ zdX zak wr w.heap.size 44 v (zbI (L.take k)) vs ∧ Below w.heap.size w wr)
 case atStart => exact ⟨0,_,_,Nat.zero_le _,by omega,rfl,rfl,zdX.nil _ _ _,hB⟩
 case round =>
  clear hB
  obtain ⟨k,v,vs,hkn,hg,rfl,rfl,hon,hB⟩:=hrel
  by_cases hlt : k < n
  ·obtain ⟨hi1',hi2',ad,rfl,hadb,hc0,hc1⟩:=HG.out k hlt
   have HSK:=lh9 (HS.out k hlt)
   obtain ⟨q,hq⟩ : ∃ q,L.getD k (0,0) = q:=⟨_,rfl⟩
   rw [hq] at hi1' hi2' hc0 hc1 HSK
   obtain ⟨q1,q2⟩:=q
   dsimp only at hi1' hi2' hc0 hc1 HSK
   have hc0:=zab hB hc0
   have hc1:=zjI (zab hB hc1)
   have hd1 : decide ((k : Int) < (n : Int)) = true:=decide_eq_true (by omega)
   have i1 : (0 : Int) ≤ (k : Int):=by omega
   have i2 : (k : Int) < (n : Int):=by omega
   have HON0:=lh9 hon
   have HB0:=lh9 hB
   have HI1:=lh9 hi1'
   have HI2:=lh9 hi2'
   have hlq : (zbI (L.take k)).length = k:=by rw [zbm,List.length_take,HL.out]; omega
   have HLQ:=lh9 hlq
   clear hon hB hi1' hi2' hq hlq
   go_wp2_with fail
   (with_reducible refine (zdS (HT.out _ HB0.out) HI1.out HI2.out).mono ?_)
   rintro e w5 ⟨b5,B5,m5,d5,E5,u5,f5,rfl,hx5,hb⟩
   obtain ⟨t1,t2,_⟩:=zaG w5 44 #[.bool b5,.slice B5 m5 d5,.slice E5 u5 f5]
   obtain ⟨t20,t21,t22⟩:=t2.c3
   have hup:=zaa hb t1
   have hon:=zdX.below zaZ HON0.out hup
   have HX:=lh9 (hx5.below t1)
   have HB:=lh9 (zaa HB0.out hup)
   have hcell : ∀ j u,[Value.bool b5,.slice B5 m5 d5,.slice E5 u5 f5][j]? = some u → (w5.alloc (.cells #[.bool b5,.slice B5 m5 d5,.slice E5 u5 f5] 44)).cell? ((⟨w5.heap.size,0,none⟩ : Addr).add j) = some u:=fun j u hu => by
    rw [zaQ]
    match j,hu with
    | 0,hu => simp at hu; subst hu; exact t2.cell 0
    | 1,hu => simp at hu; subst hu; exact t2.cell 1
    | 2,hu => simp at hu; subst hu; exact t2.cell 2
   have HCELL:=lh9 hcell
   have HONE : Hid (∀ u ∈ [Value.bool b5,.slice B5 m5 d5,.slice E5 u5 f5],u.oneCell' = true):=by intro u hu; simp at hu; rcases hu with rfl | rfl | rfl <;> rfl
   have HNN : Hid (∀ u ∈ [Value.bool b5,.slice B5 m5 d5,.slice E5 u5 f5],NoIV u):=by intro u hu y z; simp at hu; rcases hu with rfl | rfl | rfl <;> (intro h9; cases h9)
   have HZN : Hid (∀ u ∈ (Value.agg #[.bool false,.slice none 0 0,.slice none 0 0]).cells.toList,NoIV u):=by intro u hu y z; simp [Value.cells] at hu; rcases hu with rfl | rfl <;> (intro h9; cases h9)
   have HBS : Hid (w.heap.size ≤ (w5.alloc (.cells #[.bool b5,.slice B5 m5 d5,.slice E5 u5 f5] 44)).heap.size):=HB.out.size
   have hown:=hon.own
   rw [HLQ.out] at hown
   have HOWN:=lh9 hown
   have HNOU:=lh9 hon.nou
   have HON:=lh9 hon
   have HOB:=lh9 (fun r (h : v.ownBlock = some r) => hon.own.lt r h)
   clear hb hup hx5 hcell hon t1 t2 hc0 hc1 t20 t21 t22 hown
   go_wp2_with (at_builtin; go_loud (refine zeQ _ rfl (.tmp 11) (.tmp 17) 27 rfl w.heap.size 44 i1' (.agg #[.bool false,.slice none 0 0,.slice none 0 0]) 3 56 Tryz.underlying27 hi1 hz10 hz11 hz12 rfl (by decide) v k vs rfl HOWN.out ⟨w5.heap.size,0,none⟩ 1 1 [.bool b5,.slice B5 m5 d5,.slice E5 u5 f5] rfl rfl HCELL.out HONE.out (by unfold maxLen; omega) (by omega) HBS.out HNOU.out HZN.out HNN.out ?_; intro v' w8 hown' hgrow hat hnou'; have HON8:=lh9 (zdX.grow (n:=k + 1) zaZ HON.out HX.out hown' (by rw [HLQ.out]) hgrow hnou'); have HB8:=lh9 (HB.out.grown hgrow HBS.out (fun r hr => (HOB.out r hr).1)); clear hown' hgrow hat hnou'))
   rw [← HSK.out] at HON8
   go_roundg (n - k)
   case measure => omega
   case rel => exact ⟨k + 1,_,_,by omega,by omega,by go_num,rfl,HON8.out,HB8.out⟩
  ·have hd1 : decide ((k : Int) < (n : Int)) = false:=decide_eq_false (by omega)
   have hk : k = n:=by omega
   subst hk
   rw [List.take_of_length_le (by rw [HL.out]; exact Nat.le_refl _)] at hon
   have hlq : (zbI L).length = k:=by rw [zbm]; exact HL.out
   obtain ⟨A1,c1,rfl,hv,hf⟩:=hon.shape
   rw [hlq] at hv ⊢
   have HV:=lh9 hv
   have HF:=lh9 hf
   have HB1:=lh9 hB
   clear hon hv hB hlq hf
   go_wp2
   go_ret
   exact ⟨A1,c1,rfl,HV.out,HF.out,HB1.out⟩
end Go.Proofs.YtkiedljcgkoaiaaGreatDoor
