/- What this claim leans on. -/
import Derived.Test.YtedbgdlbgohiiaaGreatDoorBVArgs
namespace Go.Proofs.YtedbgdlbgohiiaaGreatDoor
open Go Go.RowKit
set_option maxHeartbeats 16000000
set_option maxRecDepth 100000
set_option linter.unusedVariables false
set_option linter.unusedSimpArgs false
theorem zlV (f : Rat → Rat → Rat) (F : FuncId) (cap : Array Value) (xs ys : List Rat) (A B : oA9) (n c d : Nat) (w : World) (ha : zaD w A n c xs) (hb : zaD w B n d ys) (hn : n ≤ 1073741824)
  (hEn : ∀ (args : Array Value) (w' : World),Sem.run Tryz.prog (callFunc F args) w' = .ok (.enter F args) w')
  (hF : ∀ i,i < n → ∀ w',Below w.heap.size w w' → ∀ (b b' : Bool) (A A' : oA9) (n n' c c' : Nat) (E E' : oA9) (k k' f9 f9' : Nat),zai w' (xs.getD i 0) b A n c E k f9 → zai w' (ys.getD i 0) b' A' n' c' E' k' f9' →
    Calls Tryz.prog F (#[.agg #[.bool b,.slice A n c,.slice E k f9],.agg #[.bool b',.slice A' n' c',.slice E' k' f9']] ++ cap) w' (zaI w' (f (xs.getD i 0) (ys.getD i 0)))) :
  Calls Tryz.prog 138 #[.slice A n c,.slice B n d,.func (.func F) #[] cap] w (zcz w n (List.zipWith f xs ys)):=by
 have hla:=ha.len
 have hlb:=hb.len
 have hlz : (List.zipWith f xs ys).length = n:=zmD hla hlb
 unfold zcz
 have HGI : ∀ i,i < n → (List.zipWith f xs ys)[i]? = some (f (xs.getD i 0) (ys.getD i 0)):=fun i hi => by
  rw [List.getElem?_zipWith,List.getD_eq_getElem?_getD,List.getD_eq_getElem?_getD,List.getElem?_eq_getElem (by omega),List.getElem?_eq_getElem (by omega)]; rfl
 obtain ⟨zs,hzs⟩ : ∃ zs,List.zipWith f xs ys = zs:=⟨_,rfl⟩
 rw [hzs] at HGI hlz ⊢
 have HG:=lh9 HGI
 have HLZ:=lh9 hlz
 have HF:=lh9 hF
 have HA:=lh9 ha
 have HB9:=lh9 hb
 obtain ⟨Z,hZ⟩:=zdz n (by omega)
 have hmk:=fun W => (hZ W).1
 have HOWN:=lh9 (fun W => (hZ W).2)
 clear hF ha hb hla hlb hlz hzs HGI hZ
 have hd0 : ((n : Int) != (n : Int)) = false:=by simp
 have i0 : (0 : Int) ≤ (n : Int):=by omega
 go_enter Tryz.func138,Tryz.ntmps138
 go_wp2_with fail
 clear hmk
 have hrow:=HOWN.out w
 have hB : Below w.heap.size w (w.alloc (.cells Z 48)):=(Below.refl _ w).alloc (Nat.le_refl _) _
 obtain ⟨gp,hgp⟩ : ∃ g,w.heap.size = g:=⟨_,rfl⟩
 have hwg : w.heap.size ≤ gp:=by omega
 have hz : gp + 1 ≤ (w.alloc (.cells Z 48)).heap.size:=by simp [hgp]
 rw [hgp] at hrow ⊢
 rw [← zbn 0 zs n] at hrow
 generalize w.alloc (.cells Z 48) = W1 at *
 clear hgp HOWN
 go_loopg [21] (n + 1) (fun g ix wr => ∃ (k : Nat),k ≤ n ∧ n < g + k ∧ ix = .int .i64 k ∧ zcn wr gp n (zbJ 0 zs n k) ∧ Below w.heap.size w wr)
 case atStart => exact ⟨0,Nat.zero_le _,by omega,rfl,hrow,hB⟩
 case round =>
  clear hrow hB hz
  obtain ⟨k,hkn,hg,rfl,hrow,hB⟩:=hrel
  by_cases hlt : k < n
  ·obtain ⟨ad,b1,B1,m1,d1,E1,u1,v1,rfl,-,hc0,hc1,hc2,hx⟩:=HA.out.get hB hlt
   obtain ⟨ae,b2,B2,m2,d2,E2,u2,v2,rfl,hae,he0,he1,he2,hy⟩:=HB9.out.get hB hlt
   have hd1 : decide ((k : Int) < (n : Int)) = true:=by simp; omega
   have i1 : (0 : Int) ≤ (k : Int):=by omega
   have i2 : (k : Int) < (n : Int):=by omega
   have hgr:=hrow.lt
   obtain ⟨st,d3,d4⟩:=zaC wr 48 #[.bool b1,.slice B1 m1 d1,.slice E1 u1 v1]
   have HBX:=lh9 d3
   have HX:=lh9 (hx.below st)
   have HY:=lh9 (hy.below st)
   have HROW:=lh9 (hrow.keep st)
   have HB1:=lh9 (zaa hB st)
   have HE:=lh9 (And.intro (zab st he0) (And.intro (zab st he1) (zab st he2)))
   clear hx hy hrow hB st d3 d4 he0 he1 he2
   go_wp2_with fail
   clear hc0 hc1 hc2
   generalize wr.alloc (.cells #[.bool b1,.slice B1 m1 d1,.slice E1 u1 v1] 48) = W2 at *
   generalize wr.heap.size = gb at *
   obtain ⟨p0,p1,p2⟩:=HBX.out.c3
   obtain ⟨e0,e1,e2⟩:=HE.out
   have hBw:=(Below.refl W2.heap.size W2).drew
   have hne:=off_add (k:=k * 3) (show ae.block ≠ gp by omega)
   refine rg (csc p0 (csc p1 (csc p2 (csc e0 (csc e1 (csc e2 csn)))))) (fun hHeld => ?_)
   refine tk 0 ?_
   refine tk 1 ?_
   refine tk 2 ?_
   refine tk 3 ?_
   refine tk 4 ?_
   refine tk 5 ?_
   refine tk 6 ?_
   refine tk 7 ?_
   refine rc 8 (fun K hK => ?_)
   go_simp
   refine (HF.out k hlt _ (zaa HB1.out hBw) _ _ _ _ _ _ _ _ _ _ _ _ _ _ (HX.out.below hBw) (HY.out.below hBw)).mono ?_
   rintro e w3 ⟨b3,A3,n3,c3,E3,k3,f3,rfl,hw3,hb⟩
   have hBw:=zaa hBw hb
   refine hK.out _ _ (Cs.below hHeld hb) (fun hHeld => ?_); clear hK K hb
   refine tk 9 ?_
   have hr3:=HROW.out.keep hBw
   obtain ⟨q0,q1,q2,sc0,sf0,sc1,sf1,sc2,sf2⟩:=hr3.ready hlt (.bool b3) (.slice A3 n3 c3)
   refine rc 10 (fun K hK => ?_)
   go_simp
   have hr4:=zbc.set_ zal hr3 hlt hw3
   rw [zbD 0 zs n k HLZ.out hlt _ (HG.out k hlt)] at hr4
   have hB4:=zci (k * 3) (k * 3 + 1) (k * 3 + 2) (.bool b3) (.slice A3 n3 c3) (.slice E3 k3 f3) hwg (zaa HB1.out hBw)
   refine hK.out _ _ (Cs.far hHeld (offg3 _ _ _ _ _ _ _ _) (by refine ⟨?_,?_,?_,hne,hne,hne,trivial⟩ <;> (show gb ≠ gp; omega))) (fun hHeld => ?_); clear hK K
   refine rdn ?_
   have HR4:=lh9 hr4
   have HB4:=lh9 hB4
   clear hr4 hB4 hr3 hHeld hBw hw3 sc0 sf0 sc1 sf1 sc2 sf2 p0 p1 p2 e0 e1 e2 HBX HX HY HROW HB1 HE
   go_wp2
   go_roundg (n - k)
   case measure => omega
   case rel => exact ⟨k + 1,by omega,by omega,by go_num,HR4.out,HB4.out⟩
  ·have hk : k = n:=by omega
   subst hk
   have hd1 : decide ((k : Int) < (k : Int)) = false:=by simp
   have HR:=lh9 (zbC 0 zs k HLZ.out ▸ hrow)
   have HB1:=lh9 hB
   clear hrow hB
   go_wp2
   go_ret2
   exact ⟨gp,rfl,hwg,HR.out,HB1.out⟩
section
variable {K K' L : Nat} {r : Rat} {xs ys : List Rat} {A B : oA9} {n n' c d : Nat} {w : World} {s : Bool} {D : oA9} {m e9 : Nat} {U : oA9} {u v : Nat}
end
theorem zbF {w : World} {g n : Nat} {xs : List Rat} (h : zcn w g n xs) (hn : n ≤ 1073741824:=by omega) : zaD w (some ⟨g,0,none⟩) n n xs:=zbc.row h (by omega)
section
variable {K K' : Nat} {xs ys : List Rat} {A B : oA9} {n n' c d : Nat} {w : World}
theorem vec_dot (hT : zaj w) (ha : zaD w A n c xs) (hb : zaD w B n d ys) (hx : zav K xs) (hy : zav K' ys) (hn : n ≤ 1073741824:=by omega) (hK : K ≤ 67108864:=by omega) (hK' : K' ≤ 67108864:=by omega) (hS : 1 + n * (K + K' + 1) ≤ 67108864:=by omega) :
  Calls Tryz.prog 114 #[.slice A n c,.slice B n d] w (zcy w (zfv xs ys) true):=by
 have hla:=ha.len
 have hlb:=hb.len
 obtain ⟨bx1,bx2,bz⟩:=zaC w 48 #[.bool false,.slice none 0 0,.slice none 0 0]
 have H:=lh9 (zlV (fun x y => x * y) 139 #[] xs ys A B n c d _ (ha.keep bx1) (hb.keep bx1) hn en_mul (fun i hi w' hb' b b' A A' n n' c c' E E' k k' f f' h1 h2 => by
  rw [Array.append_empty]
  exact q_mul ((hT.on bx1).on hb') h1 h2 (hx.at_ (by omega)) (hy.at_ (by omega)) hK hK'))
 have HT:=lh9 (fun w' (hb : Below w.heap.size w w') => hT.on hb)
 have hB:=bx1
 have HK:=lh9 bx2
 have HS:=lh9 (zav.mul hx hy)
 have hN:=hn
 have hS9:=lh9 hS
 clear ha hb hx hy hT bx1 bx2 bz hla hlb hS
 go_enter Tryz.func114,Tryz.ntmps114
 go_wp2_with fail
 refine H.out.mono ?_
 rintro e w1 ⟨g,rfl,-,h2,hb⟩
 have hB:=zaa hB hb
 have hk:=zac hb HK.out
 have HV:=lh9 (zbF h2 hN)
 clear hb HK h2 H
 go_wp2_with fail
 refine (q_sum (HT.out _ hB) HV.out HS.out hN hS9.out).mono ?_
 rintro e w2 ⟨b2,A2,n2,c2,E2,k2,f2,rfl,hw2,hb⟩
 have hB2:=zaa hB hb
 have hk2:=zac hb hk
 obtain ⟨sc0,sf0,sc1,sf1,sc2,sf2⟩:=st3 hk2 (.bool b2) (.slice A2 n2 c2)
 obtain ⟨r0,r1,r2⟩:=(sn3 hk2 (.bool b2) (.slice A2 n2 c2) (.slice E2 k2 f2)).c3
 have HG:=lh9 (gb3 (r:=zfv xs ys) true hw2 hk2 hB2 (Nat.le_refl _))
 clear hb hB hk hB2 hk2 hw2 HV HS
 go_wp2
 refine bodyPost_ret (v:=.tuple #[.agg #[.bool b2,.slice A2 n2 c2,.slice E2 k2 f2],.bool true]) (by simp [results,Tryz.results114,go_sem,r0,r1,r2]) rfl ?_
 exact HG.out
end
structure zfU (w : World) (A : oA9) (n : Nat) (Ls : List (List Rat)) : Prop where
 len : Ls.length = n
 num : ∀ i L,Ls[i]? = some L → ∃ (ad : Addr) (B : oA9) (d : Nat),A = some ad ∧ ad.block < w.heap.size ∧ w.cell? (ad.add i) = some (.slice B L.length d) ∧ zaD w B L.length d L
theorem zfU.below {w w' : World} {A : oA9} {n : Nat} {Ls : List (List Rat)} (h : zfU w A n Ls) (hb : Below w.heap.size w w') : zfU w' A n Ls :=
 ⟨h.len,fun i L hi => by
  obtain ⟨ad,B,d,e,h1,h2,h3⟩:=h.num i L hi
  exact ⟨ad,B,d,e,Nat.lt_of_lt_of_le h1 hb.size,zab hb h2,h3.keep hb⟩⟩
theorem zcB {α : Type} {xs : List α} {k : Nat} {d : α} (h : k < xs.length) : xs[k]? = some (xs.getD k d):=by
 rw [List.getD_eq_getElem?_getD,List.getElem?_eq_getElem h]; rfl
section
variable {K L : Nat} {rs : List Rat} {Ls : List (List Rat)} {A B : oA9} {n n' c d : Nat} {w : World}
end
theorem zlL : zcV RefQ where
 below h hb:=h.below hb
 offg h hk hcs ho:=⟨⟨h.1.1,zhd h.1.2 hk hcs ho⟩,zhd h.2 hk hcs ho⟩
abbrev zgP (w : World) (A : oA9) (n c : Nat) (xs : List Rat) : Prop:=zaH RefQ w A n c xs
theorem zgP.keep {w w' : World} {A : oA9} {n c : Nat} {xs : List Rat} (h : zgP w A n c xs) (hb : Below w.heap.size w w') : zgP w' A n c xs:=zaH.below zlL h hb
theorem zgP.get {w wr : World} {A : oA9} {n c : Nat} {xs : List Rat} (h : zgP w A n c xs) (hb : Below w.heap.size w wr) {i : Nat} (hi : i < n) : ∃ (ad : Addr) (b : Bool) (B : oA9) (m d : Nat) (F : oA9) (u v : Nat),A = some ad ∧ ad.block < w.heap.size ∧ wr.cell? (ad.add (i * 3)) = some (.bool b) ∧ wr.cell? ⟨(ad.add (i * 3)).block,(ad.add (i * 3)).off + 1,none⟩ = some (.slice B m d) ∧ wr.cell? ⟨(ad.add (i * 3)).block,(ad.add (i * 3)).off + 2,none⟩ = some (.slice F u v) ∧ RefQ wr (xs.getD i 0) b B m d F u v:=by
 obtain ⟨ad,b,B,m,d,F,u,v,e,h0,h1,h2,h3,h4⟩:=h.at_ hi 0
 exact ⟨ad,b,B,m,d,F,u,v,e,h0,zab hb h1,zab hb (zfq h2),zab hb (zmb h3),h4.below hb⟩
theorem zir (z : Int) (w : World) : Calls Tryz.prog 131 #[.int .i64 z] w (fun e w' => e = .returned (.bool false) ∧ w = w'):=by
 have h1 : (z != z) = false:=by simp
 go_enter Tryz.func131,Tryz.ntmps131
 go_wp2
 go_ret
 exact ⟨rfl,rfl⟩
theorem zjF (n m : Nat) (w : World) : Calls Tryz.prog 106 #[.int .i64 (n : Int),.int .i64 (m : Int)] w (fun e w' => e = .returned (.int .i64 (cmpN n m)) ∧ w = w'):=by
 have H1:=lh9 (zir (n : Int) w)
 have H2:=lh9 (zir (m : Int) w)
 unfold cmpN
 by_cases h1 : n < m
 ·have hd : decide ((n : Int) < (m : Int)) = true:=decide_eq_true (by omega)
  have hd' : decide (n < m) = true:=decide_eq_true (by omega)
  rw [if_pos h1]
  go_enter Tryz.func106,Tryz.ntmps106
  go_wp2_with fail
  refine H1.out.mono ?_
  rintro e w1 ⟨rfl,rfl⟩
  go_wp2_with fail
  refine H2.out.mono ?_
  rintro e w1 ⟨rfl,rfl⟩
  go_wp2
  go_ret
  exact ⟨rfl,rfl⟩
 ·have hd : decide ((n : Int) < (m : Int)) = false:=decide_eq_false (by omega)
  have hd' : decide (n < m) = false:=decide_eq_false (by omega)
  rw [if_neg h1]
  by_cases h2 : n = m
  ·rw [if_pos h2]
   have hd2 : decide ((m : Int) < (n : Int)) = false:=decide_eq_false (by omega)
   have hd3 : decide ((n : Int) > (m : Int)) = false:=decide_eq_false (by omega)
   have hd4 : decide (m < n) = false:=decide_eq_false (by omega)
   clear h1 h2
   go_enter Tryz.func106,Tryz.ntmps106
   go_wp2_with fail
   refine H1.out.mono ?_
   rintro e w1 ⟨rfl,rfl⟩
   go_wp2_with fail
   refine H2.out.mono ?_
   rintro e w1 ⟨rfl,rfl⟩
   go_wp2
   go_ret
   exact ⟨rfl,rfl⟩
  ·rw [if_neg h2]
   have hd2 : decide ((m : Int) < (n : Int)) = true:=decide_eq_true (by omega)
   have hd3 : decide ((n : Int) > (m : Int)) = true:=decide_eq_true (by omega)
   have hd4 : decide (m < n) = true:=decide_eq_true (by omega)
   clear h1 h2
   go_enter Tryz.func106,Tryz.ntmps106
   go_wp2_with fail
   refine H1.out.mono ?_
   rintro e w1 ⟨rfl,rfl⟩
   go_wp2_with fail
   refine H2.out.mono ?_
   rintro e w1 ⟨rfl,rfl⟩
   go_wp2
   go_ret
   exact ⟨rfl,rfl⟩
section
variable {K K' : Nat} {xs ys : List Rat} {A B : oA9} {n n' c d : Nat} {w : World}
theorem znS {z : Int} (hz : zdO xs ys = z) (hT : zaj w) (ha : zaD w A n c xs) (hb : zaD w B n' d ys) (hx : zav K xs) (hy : zav K' ys) (hn : n ≤ 1073741824:=by omega) (hn' : n' ≤ 1073741824:=by omega) (hK : K ≤ 67108864:=by omega) (hK' : K' ≤ 67108864:=by omega) :
  Calls Tryz.prog 95 #[.slice A n c,.slice B n' d] w (zbA w z):=by
 have hla:=ha.len
 have hlb:=hb.len
 have HLA:=lh9 hla
 have HLB:=lh9 hlb
 have HZ:=lh9 hz
 have HSX : Hid (∀ i,i < n → SzQ K (xs.getD i 0)):=fun i hi => hx.at_ (by omega)
 have HSY : Hid (∀ i,i < n' → SzQ K' (ys.getD i 0)):=fun i hi => hy.at_ (by omega)
 unfold zbA
 have HA:=lh9 ha
 have HB9:=lh9 hb
 have HT:=lh9 (fun w' (hb : Below w.heap.size w w') => hT.on hb)
 clear hT ha hb hx hy hla hlb hz
 have hB:=Below.refl w.heap.size w
 have i0 : (0 : Int) ≤ (n : Int):=by omega
 obtain ⟨N,hN⟩ : ∃ N,min n n' = N:=⟨_,rfl⟩
 have hNn : N ≤ n:=by omega
 have hNm : N ≤ n':=by omega
 have HN:=lh9 hN
 have hmn1 : min (n : Int) (n' : Int) = (N : Int):=by omega
 have hmn2 : (if (n' : Int) < (n : Int) then (n' : Int) else (n : Int)) = (N : Int):=by split <;> omega
 have hmn3 : (if n' < n then (n' : Int) else (n : Int)) = (N : Int):=by split <;> omega
 clear hN
 go_enter Tryz.func95,Tryz.ntmps95
 go_wp2_with fail
 clear hmn1 hmn2 hmn3
 go_loopg [11] (N + 1) (fun g ix wr => ∃ (k : Nat),k ≤ N ∧ N < g + k ∧ ix = .int .i64 k ∧ Hid (zdO (xs.drop k) (ys.drop k) = z) ∧ Below w.heap.size w wr)
 case atStart => exact ⟨0,Nat.zero_le _,by omega,rfl,HZ,hB⟩
 case round =>
  clear hB
  obtain ⟨k,hkn,hg,rfl,hz0,hB⟩:=hrel
  by_cases hlt : k < N
  ·have hltn : k < n:=by omega
   have hltm : k < n':=by omega
   obtain ⟨ad,b1,B1,m1,d1,E1,u1,v1,rfl,-,hc0,hc1,hc2,hx⟩:=HA.out.get hB hltn
   obtain ⟨ae,b2,B2,m2,d2,E2,u2,v2,rfl,-,he0,he1,he2,hy⟩:=HB9.out.get hB hltm
   have hd1 : decide ((k : Int) < (N : Int)) = true:=decide_eq_true (by omega)
   have i1 : (0 : Int) ≤ (k : Int):=by omega
   have i2 : (k : Int) < (n : Int):=by omega
   have i3 : (k : Int) < (n' : Int):=by omega
   have HX:=lh9 hx
   have HY:=lh9 hy
   have HB1:=lh9 hB
   have hlx : k < xs.length:=by have:=HLA.out; omega
   have hly : k < ys.length:=by have:=HLB.out; omega
   clear hx hy hB
   by_cases h0 : xs.getD k 0 = ys.getD k 0
   ·have HQ:=lh9 (decide_eq_true h0)
    have HZ1 : Hid (zdO (xs.drop (k + 1)) (ys.drop (k + 1)) = z):=by
     show _ = _
     rw [← zgV hlx hly h0]; exact hz0.out
    clear h0 hlx hly
    go_wp2_with fail
    have hBw:=(Below.refl wr.heap.size wr).drew
    refine rg (csc hc0 (csc hc1 (csc hc2 (csc he0 (csc he1 (csc he2 csn)))))) (fun hHeld => ?_)
    refine tk 0 ?_
    refine tk 1 ?_
    refine tk 2 ?_
    refine tk 3 ?_
    refine tk 4 ?_
    refine tk 5 ?_
    refine tk 6 ?_
    refine tk 7 ?_
    refine rc 8 (fun KK hK9 => ?_)
    go_simp
    (with_reducible refine (zlA HQ.out (HT.out _ (zaa HB1.out hBw)) (HX.out.below hBw) (HY.out.below hBw) (HSX.out k hltn) (HSY.out k hltm) hK hK').mono ?_); rintro e wa ⟨rfl,hb⟩; have hBw:=zaa hBw hb; refine hK9.out _ _ (Cs.below hHeld hb) (fun hHeld => ?_); clear hK9 KK hb
    refine tk 9 ?_
    refine rdn ?_
    have HB2:=lh9 (zaa HB1.out hBw)
    clear hHeld hBw hc0 hc1 hc2 he0 he1 he2 HX HY HB1
    go_wp2
    go_roundg (N - k)
    case measure => omega
    case rel => exact ⟨k + 1,by omega,by omega,by go_num,HZ1,HB2.out⟩
   ·have HQ:=lh9 (decide_eq_false h0)
    have HF : Hid (zeU (xs.getD k 0) (ys.getD k 0) = z):=by
     show _ = _
     rw [← zgA hlx hly h0]; exact hz0.out
    clear h0 hlx hly
    go_wp2_with fail
    have hBw:=(Below.refl wr.heap.size wr).drew
    refine rg (csc hc0 (csc hc1 (csc hc2 (csc he0 (csc he1 (csc he2 csn)))))) (fun hHeld => ?_)
    refine tk 0 ?_
    refine tk 1 ?_
    refine tk 2 ?_
    refine tk 3 ?_
    refine tk 4 ?_
    refine tk 5 ?_
    refine tk 6 ?_
    refine tk 7 ?_
    refine rc 8 (fun KK hK9 => ?_)
    go_simp
    (with_reducible refine (zlA HQ.out (HT.out _ (zaa HB1.out hBw)) (HX.out.below hBw) (HY.out.below hBw) (HSX.out k hltn) (HSY.out k hltm) hK hK').mono ?_); rintro e wa ⟨rfl,hb⟩; have hBw:=zaa hBw hb; refine hK9.out _ _ (Cs.below hHeld hb) (fun hHeld => ?_); clear hK9 KK hb
    refine tk 9 ?_
    refine rdn ?_
    have HB2:=lh9 (zaa HB1.out hBw)
    have HX2:=lh9 (HX.out.below hBw)
    have HY2:=lh9 (HY.out.below hBw)
    obtain ⟨c0,c1,c2,e0,e1,e2,-⟩:=hHeld
    clear hBw hc0 hc1 hc2 he0 he1 he2 HX HY HB1
    go_wp2_with fail
    have hBw:=(Below.refl wa.heap.size wa).drew
    refine rg (csc c0 (csc c1 (csc c2 (csc e0 (csc e1 (csc e2 csn)))))) (fun hHeld => ?_)
    refine tk 0 ?_
    refine tk 1 ?_
    refine tk 2 ?_
    refine tk 3 ?_
    refine tk 4 ?_
    refine tk 5 ?_
    refine tk 6 ?_
    refine tk 7 ?_
    refine rc 8 (fun KK hK9 => ?_)
    go_simp
    (with_reducible refine (zbG HF.out (q_cmp (HT.out _ (zaa HB2.out hBw)) (HX2.out.below hBw) (HY2.out.below hBw) (HSX.out k hltn) (HSY.out k hltm) hK hK')).mono ?_); rintro e wb ⟨rfl,hb⟩; have hBw:=zaa hBw hb; refine hK9.out _ _ (Cs.below hHeld hb) (fun hHeld => ?_); clear hK9 KK hb
    refine tk 9 ?_
    refine rdn ?_
    have HB3:=lh9 (zaa HB2.out hBw)
    clear hHeld hBw c0 c1 c2 e0 e1 e2
    go_wp2
    go_ret
    exact ⟨rfl,HB3.out⟩
  ·have hk : k = N:=by omega
   subst hk
   have hd1 : decide ((k : Int) < (k : Int)) = false:=by simp
   have HF : Hid (cmpN n n' = z):=by
    have h1:=HLA.out
    have h2:=HLB.out
    have h3:=HN.out
    have h4:=hz0.out
    rw [cmpV_end (by rw [h1,h2]; exact h3.symm),h1,h2] at h4
    exact h4
   have HB2:=lh9 hB
   have H1:=lh9 (zjF n n' wr)
   rw [HF.out] at H1
   clear hB
   go_wp2_with fail
   refine H1.out.mono ?_
   rintro e w1 ⟨rfl,rfl⟩
   go_wp2
   go_ret
   exact ⟨rfl,HB2.out⟩
theorem zdV {t : Bool} (e : decide (xs = ys) = t) (hT : zaj w) (ha : zaD w A n c xs) (hb : zaD w B n' d ys) (hx : zav K xs) (hy : zav K' ys) (hn : n ≤ 1073741824:=by omega) (hn' : n' ≤ 1073741824:=by omega) (hK : K ≤ 67108864:=by omega) (hK' : K' ≤ 67108864:=by omega) :
  Calls Tryz.prog 53 #[.slice A n c,.slice B n' d] w (fun e w' => e = .returned (.bool t) ∧ Below w.heap.size w w'):=by
 obtain ⟨z,hz⟩ : ∃ z,zdO xs ys = z:=⟨_,rfl⟩
 have H:=lh9 (znS hz hT ha hb hx hy hn hn' hK hK')
 have ht : (z == 0) = t:=by
  rw [← e,← hz]
  by_cases h : xs = ys
  ·rw [decide_eq_true h,(ziQ xs ys).2 h]; rfl
  ·rw [decide_eq_false h,beq_eq_false_iff_ne]
   exact fun h9 => h ((ziQ xs ys).1 h9)
 clear hz hT ha hb hx hy e
 have HE:=lh9 ht
 clear ht
 go_enter Tryz.func53,Tryz.ntmps53
 go_wp2_with fail
 refine H.out.mono ?_
 rintro e w1 ⟨rfl,hb⟩
 go_wp2
 go_ret
 exact ⟨by rw [← HE.out]; rfl,hb⟩
end
end Go.Proofs.YtedbgdlbgohiiaaGreatDoor
