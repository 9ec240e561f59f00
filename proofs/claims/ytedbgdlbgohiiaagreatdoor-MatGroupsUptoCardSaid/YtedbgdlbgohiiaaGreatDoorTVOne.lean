/- What this claim leans on. -/
import Derived.Test.YtedbgdlbgohiiaaGreatDoorTJ8Make
import Derived.Test.YtedbgdlbgohiiaaGreatDoorTMMat
namespace Go.Proofs.YtedbgdlbgohiiaaGreatDoor
open Go Go.RowKit
set_option maxHeartbeats 16000000
set_option maxRecDepth 100000
set_option linter.unusedVariables false
set_option linter.unusedSimpArgs false
theorem zjt {p : Int} {w : World} (hT : zak w) (hp : zbS p) :
  Calls Tryz.prog 74 #[.agg #[.int .i64 p,.int .i64 0]] w (zaH w (qOf p 0)):=by
 rw [qOf_zero]
 obtain ⟨hp1,hp2⟩:=hp
 have HT:=lh9 (fun w' (hb : Below w.heap.size w w') => hT.on hb)
 obtain ⟨bx1,bx2,bx3,bz⟩:=zbs w 61 48 #[.int .i64 p,.int .i64 0] #[.bool false,.slice none 0 0,.slice none 0 0]
 obtain ⟨g0,g1⟩:=bx2.c2
 have HB:=lh9 bx1
 have HK:=lh9 bx3
 clear hT bx1 bx2 bx3 bz
 go_enter Tryz.func74,Tryz.ntmps74
 go_wp2_with fail
 clear g0 g1
 (with_reducible refine (ziM p _ (HT.out _ HB.out) hp1 hp2).mono ?_)
 rintro e w2 ⟨b2,A2,n2,c2,E2,k2,f2,rfl,hw2,hb⟩
 have hk2:=zac hb HK.out
 obtain ⟨sc0,sf0,sc1,sf1,sc2,sf2⟩:=st3 hk2 (.bool b2) (.slice A2 n2 c2)
 obtain ⟨r0,r1,r2⟩:=(sn3 hk2 (.bool b2) (.slice A2 n2 c2) (.slice E2 k2 f2)).c3
 have HG:=lh9 (gq3 hw2 hk2 (zaa HB.out hb) (by omega))
 clear hb hk2 hw2 HB HK
 go_wp2
 refine bodyPost_ret (v:=.agg #[.bool b2,.slice A2 n2 c2,.slice E2 k2 f2]) (by simp [results,Tryz.results74,go_sem,r0,r1,r2]) rfl ?_
 exact HG.out
theorem zju {p q : Int} {w : World} (hT : zak w) (hp : zbS p) (hq : zbS q) (h0 : q ≠ 0) :
  Calls Tryz.prog 74 #[.agg #[.int .i64 p,.int .i64 q]] w (zaH w (qOf p q)):=by
 rw [qOf_ne h0]
 obtain ⟨hp1,hp2⟩:=hp
 obtain ⟨hq1,hq2⟩:=hq
 have H0:=lh9 h0
 have hd0 : (q == 0) = false:=by rw [beq_eq_false_iff_ne]; exact h0
 have HT:=lh9 (fun w' (hb : Below w.heap.size w w') => hT.on hb)
 obtain ⟨bx1,bx2,bx3,bz⟩:=zbs w 61 48 #[.int .i64 p,.int .i64 q] #[.bool false,.slice none 0 0,.slice none 0 0]
 obtain ⟨g0,g1⟩:=bx2.c2
 have HB:=lh9 bx1
 have HK:=lh9 bx3
 clear hT bx1 bx2 bx3 bz h0
 go_enter Tryz.func74,Tryz.ntmps74
 go_wp2_with fail
 clear g0 g1
 (with_reducible refine (rat_of p q _ (HT.out _ HB.out) hp1 hp2 hq1 hq2 H0.out).mono ?_)
 rintro e w2 ⟨b2,A2,n2,c2,E2,k2,f2,rfl,hw2,hb⟩
 obtain ⟨s1,s2,s3⟩:=zaz w2 48 #[.bool b2,.slice A2 n2 c2,.slice E2 k2 f2]
 obtain ⟨p0,p1,p2⟩:=s2.c3
 have hk2:=zac s1 (zac hb HK.out)
 have hw3:=hw2.below s1
 obtain ⟨sc0,sf0,sc1,sf1,sc2,sf2⟩:=st3 hk2 (.bool b2) (.slice A2 n2 c2)
 obtain ⟨r0,r1,r2⟩:=(sn3 hk2 (.bool b2) (.slice A2 n2 c2) (.slice E2 k2 f2)).c3
 have HG:=lh9 (gq3 hw3 hk2 (zaa (zaa HB.out hb) s1) (by omega))
 clear hb hk2 hw2 hw3 HB HK s1 s2 s3
 go_wp2
 refine bodyPost_ret (v:=.agg #[.bool b2,.slice A2 n2 c2,.slice E2 k2 f2]) (by simp [results,Tryz.results74,go_sem,r0,r1,r2]) rfl ?_
 exact HG.out
theorem zmr {p q : Int} {w : World} (hT : zak w) (hp : zbS p) (hq : zbS q) :
  Calls Tryz.prog 74 #[.agg #[.int .i64 p,.int .i64 q]] w (zaH w (qOf p q)):=by
 by_cases h0 : q = 0
 ·subst h0; exact zjt hT hp
 ·exact zju hT hp hq h0
def zeG (L : List (Int × Int)) : List Rat:=L.map fun q => qOf q.1 q.2
theorem zfz (L : List (Int × Int)) : (zeG L).length = L.length:=List.length_map _
def GivesM (w : World) (n : Nat) (xs : List Rat) (e : Ending) (w' : World) : Prop:=∃ (A : oA9) (c : Nat),e = .returned (.slice A n c) ∧ zaG w' A n c xs ∧ (∀ ad,A = some ad → w.heap.size ≤ ad.block) ∧ Below w.heap.size w w'
theorem zkA {A : oA9} {n c : Nat} {L : List (Int × Int)} {w : World} (hT : zak w) (h : zaW w A n c L) :
  Calls Tryz.prog 37 #[.slice A n c] w (GivesM w n (zeG L)):=by
 obtain ⟨i1',hi1,hz10,hz11,hz12⟩:=info_parts info10
 have hn0 : n ≤ 1048576:=Nat.le_trans h.fits h.small
 have HL:=lh9 h.len
 have HG : Hid (∀ k,k < n → zbS (L.getD k (0,0)).1 ∧ zbS (L.getD k (0,0)).2 ∧ ∃ ad,A = some ad ∧ ad.block < w.heap.size ∧ w.cell? (ad.add (k * 2)) = some (.int .i64 (L.getD k (0,0)).1) ∧ w.cell? (ad.add (k * 2 + 1)) = some (.int .i64 (L.getD k (0,0)).2)):=fun k hk => by
  have hl:=h.len
  have e : L[k]? = some (L.getD k (0,0)):=by rw [List.getD_eq_getElem?_getD,List.getElem?_eq_getElem (by omega)]; rfl
  obtain ⟨h1,h2⟩:=h.ints _ (List.mem_of_getElem? e)
  exact ⟨h1,h2,h.row k _ e⟩
 have HS : Hid (∀ k,k < n → zeG (L.take (k + 1)) = zeG (L.take k) ++ [qOf (L.getD k (0,0)).1 (L.getD k (0,0)).2]):=fun k hk => by
  have hl:=h.len
  unfold zeG
  rw [List.take_succ_eq_append_getElem (by omega),List.map_append,List.getD_eq_getElem?_getD,List.getElem?_eq_getElem (by omega)]
  rfl
 have HT:=lh9 (fun w' (hb : Below w.heap.size w w') => hT.on hb)
 unfold GivesM
 clear h hT
 have hB:=Below.refl w.heap.size w
 go_enter Tryz.func37,Tryz.ntmps37
 go_wp2_with fail
 go_loopg [3,4] (n + 1) (fun g sl ix wr => ∃ (k : Nat) (v : Value) (vs : List Value),k ≤ n ∧ n < g + k ∧ ix = .int .i64 k ∧ v = sl ∧ zeC zaj wr w.heap.size 48 v (zeG (L.take k)) vs ∧ Below w.heap.size w wr)
 case atStart => exact ⟨0,_,_,Nat.zero_le _,by omega,rfl,rfl,zeC.nil _ _ _,hB⟩
 case round =>
  clear hB
  obtain ⟨k,v,vs,hkn,hg,rfl,rfl,hon,hB⟩:=hrel
  by_cases hlt : k < n
  ·obtain ⟨hi1',hi2',ad,rfl,hadb,hc0,hc1⟩:=HG.out k hlt
   have HSK:=lh9 (HS.out k hlt)
   obtain ⟨q,hq⟩ : ∃ q,L.getD k (0,0) = q:=⟨_,rfl⟩
   rw [hq] at hi1' hi2' hc0 hc1 HSK
   obtain ⟨q1,q2⟩:=q
   dsimp only at hi1' hi2' hc0 hc1 HSK
   have hc0:=zab hB hc0
   have hc1:=zgq (zab hB hc1)
   have hd1 : decide ((k : Int) < (n : Int)) = true:=decide_eq_true (by omega)
   have i1 : (0 : Int) ≤ (k : Int):=by omega
   have i2 : (k : Int) < (n : Int):=by omega
   have HON0:=lh9 hon
   have HB0:=lh9 hB
   have HI1:=lh9 hi1'
   have HI2:=lh9 hi2'
   have hlq : (zeG (L.take k)).length = k:=by rw [zfz,List.length_take,HL.out]; omega
   have HLQ:=lh9 hlq
   clear hon hB hi1' hi2' hq hlq
   go_wp2_with fail
   (with_reducible refine (zmr (HT.out _ HB0.out) HI1.out HI2.out).mono ?_)
   rintro e w5 ⟨b5,B5,m5,d5,E5,u5,f5,rfl,hx5,hb⟩
   obtain ⟨t1,t2,_⟩:=zaz w5 48 #[.bool b5,.slice B5 m5 d5,.slice E5 u5 f5]
   obtain ⟨t20,t21,t22⟩:=t2.c3
   have hup:=zaa hb t1
   have hon:=zeC.below zam HON0.out hup
   have HX:=lh9 (hx5.below t1)
   have HB:=lh9 (zaa HB0.out hup)
   have hcell : ∀ j u,[Value.bool b5,.slice B5 m5 d5,.slice E5 u5 f5][j]? = some u → (w5.alloc (.cells #[.bool b5,.slice B5 m5 d5,.slice E5 u5 f5] 48)).cell? ((⟨w5.heap.size,0,none⟩ : Addr).add j) = some u:=fun j u hu => by
    rw [zaL]
    match j,hu with
    | 0,hu => simp at hu; subst hu; exact t2.cell 0
    | 1,hu => simp at hu; subst hu; exact t2.cell 1
    | 2,hu => simp at hu; subst hu; exact t2.cell 2
   have HCELL:=lh9 hcell
   have HONE : Hid (∀ u ∈ [Value.bool b5,.slice B5 m5 d5,.slice E5 u5 f5],u.oneCell' = true):=by intro u hu; simp at hu; rcases hu with rfl | rfl | rfl <;> rfl
   have HNN : Hid (∀ u ∈ [Value.bool b5,.slice B5 m5 d5,.slice E5 u5 f5],NoIV u):=by intro u hu y z; simp at hu; rcases hu with rfl | rfl | rfl <;> (intro h9; cases h9)
   have HZN : Hid (∀ u ∈ (Value.agg #[.bool false,.slice none 0 0,.slice none 0 0]).cells.toList,NoIV u):=by intro u hu y z; simp [Value.cells] at hu; rcases hu with rfl | rfl <;> (intro h9; cases h9)
   have HBS : Hid (w.heap.size ≤ (w5.alloc (.cells #[.bool b5,.slice B5 m5 d5,.slice E5 u5 f5] 48)).heap.size):=HB.out.size
   have hown:=hon.own
   rw [HLQ.out] at hown
   have HOWN:=lh9 hown
   have HNOU:=lh9 hon.nou
   have HON:=lh9 hon
   have HOB:=lh9 (fun r (h : v.ownBlock = some r) => hon.own.lt r h)
   clear hb hup hx5 hcell hon t1 t2 hc0 hc1 t20 t21 t22 hown
   go_wp2_with (at_builtin; go_loud (refine zfK _ rfl (.tmp 11) (.tmp 17) 51 rfl w.heap.size 48 i1' (.agg #[.bool false,.slice none 0 0,.slice none 0 0]) 3 56 Tryz.underlying51 hi1 hz10 hz11 hz12 rfl (by decide) v k vs rfl HOWN.out ⟨w5.heap.size,0,none⟩ 1 1 [.bool b5,.slice B5 m5 d5,.slice E5 u5 f5] rfl rfl HCELL.out HONE.out (by unfold maxLen; omega) (by omega) HBS.out HNOU.out HZN.out HNN.out ?_; intro v' w8 hown' hgrow hat hnou'; have HON8:=lh9 (zeC.grow (n:=k + 1) zam HON.out HX.out hown' (by rw [HLQ.out]) hgrow hnou'); have HB8:=lh9 (HB.out.grown hgrow HBS.out (fun r hr => (HOB.out r hr).1)); clear hown' hgrow hat hnou'))
   rw [← HSK.out] at HON8
   go_roundg (n - k)
   case measure => omega
   case rel => exact ⟨k + 1,_,_,by omega,by omega,by go_num,rfl,HON8.out,HB8.out⟩
  ·have hd1 : decide ((k : Int) < (n : Int)) = false:=decide_eq_false (by omega)
   have hk : k = n:=by omega
   subst hk
   rw [List.take_of_length_le (by rw [HL.out]; exact Nat.le_refl _)] at hon
   have hlq : (zeG L).length = k:=by rw [zfz]; exact HL.out
   obtain ⟨A1,c1,rfl,hv,hf⟩:=hon.shape
   rw [hlq] at hv ⊢
   have HV:=lh9 hv
   have HF:=lh9 hf
   have HB1:=lh9 hB
   clear hon hv hB hlq hf
   go_wp2
   go_ret
   exact ⟨A1,c1,rfl,HV.out,HF.out,HB1.out⟩
theorem gq0 {w w' : World} {r : Rat} {b : Bool} {A E : oA9} {n c k f : Nat} (h : zaj w' r b A n c E k f) (hb : Below w.heap.size w w') : zaH w r (.returned (.agg #[.bool b,.slice A n c,.slice E k f])) w':=⟨_,_,_,_,_,_,_,rfl,h,hb⟩
section
variable {A : oA9} {n c m : Nat} {M : List (List Rat)} {w : World}
theorem en_one1 : ∀ (args : Array Value) (w' : World),Sem.run Tryz.prog (callFunc 59 args) w' = .ok (.enter 59 args) w':=Go.Proofs.enters_of Tryz.func59 (by kernel_rfl) rfl
theorem cl_one (hT : zak w) (i j : Nat) : Calls Tryz.prog 59 #[.int .i64 (i : Int),.int .i64 (j : Int)] w (zaH w (if i = j then 1 else 0)):=by
 obtain ⟨bx1,bx2,bz⟩:=zaz w 48 #[.bool false,.slice none 0 0,.slice none 0 0]
 by_cases hij : i = j
 ·have e0 : ((i : Int) == (j : Int)) = true:=by rw [beq_iff_eq]; omega
  rw [if_pos hij]
  have HT:=lh9 (hT.on bx1)
  have HB:=lh9 bx1
  have HK:=lh9 bx2
  clear hij bx1 bx2 bz hT
  go_enter Tryz.func59,Tryz.ntmps59
  go_wp2_with fail
  (with_reducible refine (ziM 1 _ HT.out (by decide) (by decide)).mono ?_)
  rintro e w3 ⟨b3,A3,n3,c3,E3,k3,f3,rfl,hw3,hb⟩
  have hk2:=zac hb HK.out
  obtain ⟨sc0,sf0,sc1,sf1,sc2,sf2⟩:=st3 hk2 (.bool b3) (.slice A3 n3 c3)
  obtain ⟨r0,r1,r2⟩:=(sn3 hk2 (.bool b3) (.slice A3 n3 c3) (.slice E3 k3 f3)).c3
  have HG : Hid (zaH w 1 _ _):=gq3 (r:=1) hw3 hk2 (zaa HB.out hb) (Nat.le_refl _)
  clear hb hk2 hw3 HB HK HT
  go_wp2
  refine bodyPost_ret (v:=.agg #[.bool b3,.slice A3 n3 c3,.slice E3 k3 f3]) (by simp [results,Tryz.results59,go_sem,r0,r1,r2]) rfl ?_
  exact HG.out
 ·have e0 : ((i : Int) == (j : Int)) = false:=by rw [beq_eq_false_iff_ne]; omega
  rw [if_neg hij]
  obtain ⟨r0,r1,r2⟩:=bx2.c3
  have HG:=lh9 (gq0 (zhj _) bx1)
  clear bx1 bx2 bz hij
  go_enter Tryz.func59,Tryz.ntmps59
  go_wp2
  refine bodyPost_ret (v:=.agg #[.bool false,.slice none 0 0,.slice none 0 0]) (by simp [results,Tryz.results59,go_sem,r0,r1,r2]) rfl ?_
  exact HG.out
theorem zkr : ∀ (args : Array Value) (w' : World),Sem.run Tryz.prog (callFunc 77 args) w' = .ok (.enter 77 args) w':=Go.Proofs.enters_of Tryz.func77 (by kernel_rfl) rfl
theorem zma {g i j : Nat} (h : zap w A n c m M) (hk : Blk w g 28 #[.slice A n c,.int .i64 (m : Int)]) (hi : i < n) (hj : j < m) : Calls Tryz.prog 77 #[.int .i64 (j : Int),.int .i64 (i : Int),.pointer (some ⟨g,0,none⟩)] w (zaH w (atM M i j)):=by
 obtain ⟨bx1,bx2,bz⟩:=zaz w 48 #[.bool false,.slice none 0 0,.slice none 0 0]
 obtain ⟨ad,B,d,rfl,-,hc,ae,b1,B1,m1,d1,E1,u1,v1,rfl,-,h0,h1,h2,hq⟩:=h.place (Below.refl _ w) hi hj
 obtain ⟨g0,g1⟩:=(zac bx1 hk).c2
 have hc:=zab bx1 hc
 have h0:=zab bx1 h0
 have h1:=zab bx1 h1
 have h2:=zab bx1 h2
 have i1 : (0 : Int) ≤ (i : Int):=by omega
 have i2 : (i : Int) < (n : Int):=by omega
 have i3 : (0 : Int) ≤ (j : Int):=by omega
 have i4 : (j : Int) < (m : Int):=by omega
 obtain ⟨by1,by2,-⟩:=zaz w 48 #[.bool b1,.slice B1 m1 d1,.slice E1 u1 v1]
 obtain ⟨r0,r1,r2⟩:=by2.c3
 have HG:=lh9 (gq0 (hq.below by1) by1)
 clear hq bx1 bx2 bz by1 by2 h hk
 go_enter Tryz.func77,Tryz.ntmps77
 go_wp2
 refine bodyPost_ret (v:=.agg #[.bool b1,.slice B1 m1 d1,.slice E1 u1 v1]) (by simp [results,Tryz.results77,go_sem,r0,r1,r2]) rfl ?_
 exact HG.out
theorem en_of2 : ∀ (args : Array Value) (w' : World),Sem.run Tryz.prog (callFunc 91 args) w' = .ok (.enter 91 args) w':=Go.Proofs.enters_of Tryz.func91 (by kernel_rfl) rfl
theorem cl_of {gs i j : Nat} {Q : oA9} {q : Nat} (h : zaD (zaJ zaj) w Q n M) (hd : zbU M n m) (hk : Blk w gs 26 #[.slice Q n q]) (hi : i < n) (hj : j < m) : Calls Tryz.prog 91 #[.int .i64 (i : Int),.int .i64 (j : Int),.pointer (some ⟨gs,0,none⟩)] w (zaH w (atM M i j)):=by
 obtain ⟨bx1,bx2,bz⟩:=zaz w 48 #[.bool false,.slice none 0 0,.slice none 0 0]
 obtain ⟨ad,B,d,rfl,-,hc,hv⟩:=h.get (zaA zam) (Below.refl _ w) hi (hd.row hi)
 obtain ⟨ae,b1,B1,m1,d1,E1,u1,v1,rfl,-,h0,h1,h2,hq⟩:=zaG.get hv (Below.refl _ w) hj
 have hc:=zab bx1 hc
 have h0:=zab bx1 h0
 have h1:=zab bx1 h1
 have h2:=zab bx1 h2
 have g0:=(zac bx1 hk).c1
 have i1 : (0 : Int) ≤ (i : Int):=by omega
 have i2 : (i : Int) < (n : Int):=by omega
 have i3 : (0 : Int) ≤ (j : Int):=by omega
 have i4 : (j : Int) < (m : Int):=by omega
 obtain ⟨by1,by2,-⟩:=zaz w 48 #[.bool b1,.slice B1 m1 d1,.slice E1 u1 v1]
 obtain ⟨r0,r1,r2⟩:=by2.c3
 have HG:=lh9 (gq0 (hq.below by1) by1)
 clear hq bx1 bx2 bz by1 by2 h hk hv hd
 go_enter Tryz.func91,Tryz.ntmps91
 go_wp2
 refine bodyPost_ret (v:=.agg #[.bool b1,.slice B1 m1 d1,.slice E1 u1 v1]) (by simp [results,Tryz.results91,go_sem,r0,r1,r2]) rfl ?_
 exact HG.out
theorem en_of1 : ∀ (args : Array Value) (w' : World),Sem.run Tryz.prog (callFunc 89 args) w' = .ok (.enter 89 args) w':=Go.Proofs.enters_of Tryz.func89 (by kernel_rfl) rfl
theorem zlZ {gc k : Nat} {V : oA9} {cv : Nat} {z : Int} (hk : Blk w gc 3 #[.int .i64 z]) : Calls Tryz.prog 89 #[.slice V k cv,.pointer (some ⟨gc,0,none⟩)] w (fun e w' => e = .returned (.bool (!decide ((k : Int) = z))) ∧ Below w.heap.size w w'):=by
 have g0:=hk.c1
 obtain ⟨b,hb⟩ : ∃ b,(!decide ((k : Int) = z)) = b:=⟨_,rfl⟩
 have hb2 : ((k : Int) != z) = b:=by rw [← hb]; by_cases q : (k : Int) = z <;> simp [q]
 rw [hb]
 clear hk hb
 go_enter Tryz.func89,Tryz.ntmps89
 go_wp2
 go_ret
 exact ⟨rfl,Below.refl _ _⟩
theorem en_pick1 : ∀ (args : Array Value) (w' : World),Sem.run Tryz.prog (callFunc 92 args) w' = .ok (.enter 92 args) w':=Go.Proofs.enters_of Tryz.func92 (by kernel_rfl) rfl
theorem zki {g : Nat} {z : Int} (hk : Blk w g 28 #[.slice A n c,.int .i64 (m : Int)]) : Calls Tryz.prog 92 #[.int .i64 z,.pointer (some ⟨g,0,none⟩)] w (fun e w' => e = .returned (.bool (!inB z m)) ∧ Below w.heap.size w w'):=by
 obtain ⟨g0,g1⟩:=hk.c2
 have H:=fun W => lh9 (zgR A n c m z W)
 clear hk
 go_enter Tryz.func92,Tryz.ntmps92
 go_wp2_with fail
 refine (H _).out.mono ?_
 rintro e w1 ⟨rfl,hb⟩
 have HB:=lh9 hb
 clear hb
 go_wp2
 go_ret
 exact ⟨rfl,HB.out⟩
theorem en_pick2 : ∀ (args : Array Value) (w' : World),Sem.run Tryz.prog (callFunc 94 args) w' = .ok (.enter 94 args) w':=Go.Proofs.enters_of Tryz.func94 (by kernel_rfl) rfl
theorem cl_pick {g gs i j k q qc : Nat} {ap : Addr} (h : zap w A n c m M) (hk : Blk w g 28 #[.slice A n c,.int .i64 (m : Int)]) (hks : Blk w gs 63 #[.slice (some ap) q qc]) (hz : w.cell? (ap.add j) = some (.int .i64 (k : Int))) (hi : i < n) (hj : j < q) (hk9 : k < m) :
  Calls Tryz.prog 94 #[.int .i64 (i : Int),.int .i64 (j : Int),.pointer (some ⟨g,0,none⟩),.pointer (some ⟨gs,0,none⟩)] w (zaH w (atM M i k)):=by
 obtain ⟨bx1,bx2,bz⟩:=zaz w 48 #[.bool false,.slice none 0 0,.slice none 0 0]
 obtain ⟨ad,B,d,rfl,hl1,hc,ae,b1,B1,m1,d1,E1,u1,v1,rfl,hl2,h0,h1,h2,hq⟩:=h.place (Below.refl _ _) hi hk9
 have hl3:=hk.lt
 have hl4:=hks.lt
 have hl5 : (ap.add j).block < w.heap.size:=World.block_lt_of_cell? w _ hz
 obtain ⟨g0,g1⟩:=(zac bx1 hk).c2
 have y0:=(zac bx1 hks).c1
 have y1:=zab bx1 hz
 have z0:=zab bx1 hc
 have z1:=zab bx1 h0
 have z2:=zab bx1 h1
 have z3:=zab bx1 h2
 have hq1:=hq.below bx1
 have i1 : (0 : Int) ≤ (i : Int):=by omega
 have i2 : (i : Int) < (n : Int):=by omega
 have i3 : (0 : Int) ≤ (j : Int):=by omega
 have i4 : (j : Int) < (q : Int):=by omega
 have i5 : (0 : Int) ≤ (k : Int):=by omega
 have i6 : (k : Int) < (m : Int):=by omega
 have HQ:=lh9 hq1
 have HB:=lh9 bx1
 have HK:=lh9 bx2
 clear h hk hks hz hc h0 h1 h2 hq hq1 bx1 bx2 bz
 go_enter Tryz.func94,Tryz.ntmps94
 go_wp2_with fail
 generalize w.alloc (.cells #[.bool false,.slice none 0 0,.slice none 0 0] 48) = W1 at *
 have hBw:=(Below.refl W1.heap.size W1).drew
 refine rg (csc g0 (csc z0 (csc y0 (csc y1 (csc z1 (csc z2 (csc z3 csn))))))) (fun hHeld => ?_)
 clear g0 g1 z0 y0 y1 z1 z2 z3
 generalize W1.drew = D at *
 refine tk 0 ?_
 refine tk 1 ?_
 refine tk 2 ?_
 refine tk 3 ?_
 refine tk 4 ?_
 refine tk 5 ?_
 refine tk 6 ?_
 refine tk 7 ?_
 refine tk 8 ?_
 refine tk 9 ?_
 refine tk 10 ?_
 have kr:=zac hBw HK.out
 obtain ⟨sc0,sf0,sc1,sf1,sc2,sf2⟩:=st3 kr (.bool b1) (.slice B1 m1 d1)
 obtain ⟨r0,r1,r2⟩:=(sn3 kr (.bool b1) (.slice B1 m1 d1) (.slice E1 u1 v1)).c3
 have HG:=lh9 (gq3 (HQ.out.below hBw) kr (zaa HB.out hBw) (by omega))
 refine rc 11 (fun KK hK => ?_)
 go_simp
 refine hK.out _ _ ?_ (fun hHeld => ?_)
 ·refine Cs.far hHeld (off3 _ _ _ _ _) ?_
  refine ⟨?_,?_,?_,?_,?_,?_,?_,trivial⟩ <;> (simp only [zao]; simp only [zao] at hl5; omega)
 clear hK KK
 refine rdn ?_
 clear sc0 sf0 sc1 sf1 sc2 sf2 hHeld kr
 go_wp2
 refine bodyPost_ret (v:=.agg #[.bool b1,.slice B1 m1 d1,.slice E1 u1 v1]) (by simp [results,Tryz.results94,go_sem,r0,r1,r2]) rfl ?_
 exact HG.out
end
end Go.Proofs.YtedbgdlbgohiiaaGreatDoor
