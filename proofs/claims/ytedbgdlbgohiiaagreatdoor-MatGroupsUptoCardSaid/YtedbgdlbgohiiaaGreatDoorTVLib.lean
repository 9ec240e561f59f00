/- What this claim leans on. -/
import Derived.Test.YtedbgdlbgohiiaaGreatDoorTS8Sum
import Derived.Test.YtedbgdlbgohiiaaGreatDoorTJ8Mul
import Derived.Test.YtedbgdlbgohiiaaGreatDoorTJ8Ord
import Derived.Test.YtedbgdlbgohiiaaGreatDoorTVApp
namespace Go.Proofs.YtedbgdlbgohiiaaGreatDoor
open Go Go.RowKit
set_option maxHeartbeats 16000000
set_option linter.unusedVariables false
section
variable {K K' : Nat} {x y : Rat} {b b' : Bool} {A A' : oA9} {n n' c c' : Nat} {E E' : oA9} {k k' f f' : Nat} {w : World}
theorem q_mul (hT : zak w) (h : zaj w x b A n c E k f) (h' : zaj w y b' A' n' c' E' k' f') (z : SzQ K x) (z' : SzQ K' y) (hK : K ≤ 67108864:=by omega) (hK' : K' ≤ 67108864:=by omega) :
  Calls Tryz.prog 139 #[.agg #[.bool b,.slice A n c,.slice E k f],.agg #[.bool b',.slice A' n' c',.slice E' k' f']] w (zaH w (x * y)):=rat_mul x y b A n c E k f b' A' n' c' E' k' f' w hT h h' (z.fit h hK) (z'.fit h' hK')
theorem q_cmp (hT : zak w) (h : zaj w x b A n c E k f) (h' : zaj w y b' A' n' c' E' k' f') (z : SzQ K x) (z' : SzQ K' y) (hK : K ≤ 67108864:=by omega) (hK' : K' ≤ 67108864:=by omega) :
  Calls Tryz.prog 122 #[.agg #[.bool b,.slice A n c,.slice E k f],.agg #[.bool b',.slice A' n' c',.slice E' k' f']] w (zbT w (zeR x y)):=zlK x y b A n c E k f b' A' n' c' E' k' f' w hT h h' (z.fit h hK) (z'.fit h' hK')
theorem q_same {t : Bool} (e : decide (x = y) = t) (hT : zak w) (h : zaj w x b A n c E k f) (h' : zaj w y b' A' n' c' E' k' f') (z : SzQ K x) (z' : SzQ K' y) (hK : K ≤ 67108864:=by omega) (hK' : K' ≤ 67108864:=by omega) :
  Calls Tryz.prog 44 #[.agg #[.bool b,.slice A n c,.slice E k f],.agg #[.bool b',.slice A' n' c',.slice E' k' f']] w (fun e w' => e = .returned (.bool t) ∧ Below w.heap.size w w'):=zaw e (zjI x y b A n c E k f b' A' n' c' E' k' f' w hT h h' (z.fit h hK) (z'.fit h' hK'))
end
theorem en_mul : ∀ (args : Array Value) (w' : World),Sem.run Tryz.prog (callFunc 139 args) w' = .ok (.enter 139 args) w':=Go.Proofs.enters_of Tryz.func139 (by kernel_rfl) rfl
theorem zaG.rats {w : World} {A : oA9} {n c : Nat} {xs : List Rat} (h : zaG w A n c xs) : zgA w A n c xs:=⟨h.len,h.fits,h.most,fun i hi => h.at_ hi 0⟩
theorem sum_is (rs : List Rat) : zgo rs = zcJ rs:=rfl
theorem q_sum {K n c : Nat} {A : oA9} {xs : List Rat} {w : World} (hT : zak w) (h : zaG w A n c xs) (hx : zay K xs) (hn : n ≤ 1073741824) (hK : 1 + n * (K + 1) ≤ 67108864) :
  Calls Tryz.prog 68 #[.slice A n c] w (zaH w (zcJ xs)):=by
 have hl:=h.len
 have e:=sum_is xs
 rw [← e]
 refine rat_sum xs A n c (1 + n * (K + 1)) w hT h.rats hn hK (fun i hi => (hx.at_ (by omega)).up ?_) (fun k hk => ?_)
 ·have : K + 1 ≤ n * (K + 1):=Nat.le_mul_of_pos_left _ (by omega)
  omega
 ·rw [sum_is]
  exact take_sz hx hl k hk
theorem zjT {w : World} {g : Nat} {t : TypeId} {x : Rat} {b : Bool} {A : oA9} {n c : Nat} {E : oA9} {k f : Nat} (h : Blk w g t #[.bool b,.slice A n c,.slice E k f]) (hx : zaj w x b A n c E k f) : zaG w (some ⟨g,0,none⟩) 1 1 [x] :=
 ⟨rfl,Nat.le_refl _,by decide,fun i y hi => by
  have h0 : i = 0:=by
   have:=(List.getElem?_eq_some_iff.1 hi).1
   simpa using this
  subst h0
  obtain rfl : x = y:=by simpa using hi
  exact ⟨_,b,A,n,c,E,k,f,rfl,h.lt,by rw [zaL]; exact h.cell 0,by rw [zaL]; exact h.cell 1,by rw [zaL]; exact h.cell 2,hx⟩⟩
set_option maxRecDepth 100000
set_option linter.unusedSimpArgs false
section
variable {K K' L : Nat} {r : Rat} {xs ys : List Rat} {A B : oA9} {n n' c d : Nat} {w : World} {s : Bool} {D : oA9} {m e9 : Nat} {U : oA9} {u v : Nat}
end
theorem zbD {w : World} {g n : Nat} {xs : List Rat} (h : zco w g n xs) (hn : n ≤ 1073741824:=by omega) : zaG w (some ⟨g,0,none⟩) n n xs:=zaZ.row h (by omega)
section
variable {K K' : Nat} {xs ys : List Rat} {A B : oA9} {n n' c d : Nat} {w : World}
theorem vec_dot (hT : zak w) (ha : zaG w A n c xs) (hb : zaG w B n d ys) (hx : zay K xs) (hy : zay K' ys) (hn : n ≤ 1073741824:=by omega) (hK : K ≤ 67108864:=by omega) (hK' : K' ≤ 67108864:=by omega) (hS : 1 + n * (K + K' + 1) ≤ 67108864:=by omega) :
  Calls Tryz.prog 114 #[.slice A n c,.slice B n d] w (zcz w (zfp xs ys) true):=by
 have hla:=ha.len
 have hlb:=hb.len
 obtain ⟨bx1,bx2,bz⟩:=zaz w 48 #[.bool false,.slice none 0 0,.slice none 0 0]
 have H:=lh9 (zll (fun x y => x * y) 139 #[] xs ys A B n c d _ (ha.keep bx1) (hb.keep bx1) hn en_mul (fun i hi w' hb' b b' A A' n n' c c' E E' k k' f f' h1 h2 => by
  rw [Array.append_empty]
  exact q_mul ((hT.on bx1).on hb') h1 h2 (hx.at_ (by omega)) (hy.at_ (by omega)) hK hK'))
 have HT:=lh9 (fun w' (hb : Below w.heap.size w w') => hT.on hb)
 have hB:=bx1
 have HK:=lh9 bx2
 have HS:=lh9 (zay.mul hx hy)
 have hN:=hn
 have hS9:=lh9 hS
 clear ha hb hx hy hT bx1 bx2 bz hla hlb hS
 go_enter Tryz.func114,Tryz.ntmps114
 go_wp2_with fail
 refine H.out.mono ?_
 rintro e w1 ⟨g,rfl,-,h2,hb⟩
 have hB:=zaa hB hb
 have hk:=zac hb HK.out
 have HV:=lh9 (zbD h2 hN)
 clear hb HK h2 H
 go_wp2_with fail
 refine (q_sum (HT.out _ hB) HV.out HS.out hN hS9.out).mono ?_
 rintro e w2 ⟨b2,A2,n2,c2,E2,k2,f2,rfl,hw2,hb⟩
 have hB2:=zaa hB hb
 have hk2:=zac hb hk
 obtain ⟨sc0,sf0,sc1,sf1,sc2,sf2⟩:=st3 hk2 (.bool b2) (.slice A2 n2 c2)
 obtain ⟨r0,r1,r2⟩:=(sn3 hk2 (.bool b2) (.slice A2 n2 c2) (.slice E2 k2 f2)).c3
 have HG:=lh9 (gb3 (r:=zfp xs ys) true hw2 hk2 hB2 (Nat.le_refl _))
 clear hb hB hk hB2 hk2 hw2 HV HS
 go_wp2
 refine bodyPost_ret (v:=.tuple #[.agg #[.bool b2,.slice A2 n2 c2,.slice E2 k2 f2],.bool true]) (by simp [results,Tryz.results114,go_sem,r0,r1,r2]) rfl ?_
 exact HG.out
end
structure zdF (w : World) (A : oA9) (n : Nat) (zs : List Int) : Prop where
 len : zs.length = n
 ints : ∀ i,i < n → -9223372036854775808 ≤ zs.getD i 0 ∧ zs.getD i 0 ≤ 9223372036854775807
 num : ∀ i,i < n → ∃ ad : Addr,A = some ad ∧ w.cell? (ad.add i) = some (.int .i64 (zs.getD i 0))
def ofL (zs : List Int) : List Rat:=zs.map fun z : Int => (z : Rat)
theorem zfb {zs : List Int} {A : oA9} {n c : Nat} {w : World} (hT : zak w) (ha : zdF w A n zs) (hn : n ≤ 1073741824:=by omega) :
  Calls Tryz.prog 51 #[.slice A n c] w (zec w n (ofL zs)):=by
 have hla:=ha.len
 have hlz : (ofL zs).length = n:=by unfold ofL; rw [List.length_map]; exact hla
 have HGI : ∀ i,i < n → (ofL zs)[i]? = some ((zs.getD i 0 : Int) : Rat):=fun i hi => by
  unfold ofL
  rw [List.getElem?_map,List.getD_eq_getElem?_getD,List.getElem?_eq_getElem (by omega)]; rfl
 have HI:=lh9 ha.ints
 unfold zec
 obtain ⟨ys,hys⟩ : ∃ ys,ofL zs = ys:=⟨_,rfl⟩
 rw [hys] at HGI hlz ⊢
 have HG:=lh9 HGI
 have HLZ:=lh9 hlz
 have HA:=lh9 ha.num
 have HT:=lh9 (fun w' (hb : Below w.heap.size w w') => hT.on hb)
 obtain ⟨Z,hZ⟩:=zdy n (by omega)
 have hmk:=fun W => (hZ W).1
 have HOWN:=lh9 (fun W => (hZ W).2)
 clear hT ha hla hlz hys HGI hZ
 have i0 : (0 : Int) ≤ (n : Int):=by omega
 go_enter Tryz.func51,Tryz.ntmps51
 go_wp2_with fail
 clear hmk
 have hrow:=HOWN.out w
 have hB : Below w.heap.size w (w.alloc (.cells Z 48)):=(Below.refl _ w).alloc (Nat.le_refl _) _
 obtain ⟨gp,hgp⟩ : ∃ g,w.heap.size = g:=⟨_,rfl⟩
 have hwg : w.heap.size ≤ gp:=by omega
 rw [hgp] at hrow ⊢
 rw [← zbj 0 ys n] at hrow
 generalize w.alloc (.cells Z 48) = W1 at *
 clear hgp HOWN
 go_loopg [11] (n + 1) (fun g ix wr => ∃ (k : Nat),k ≤ n ∧ n < g + k ∧ ix = .int .i64 k ∧ zco wr gp n (zbB 0 ys n k) ∧ Below w.heap.size w wr)
 case atStart => exact ⟨0,Nat.zero_le _,by omega,rfl,hrow,hB⟩
 case round =>
  clear hrow hB
  obtain ⟨k,hkn,hg,rfl,hrow,hB⟩:=hrel
  by_cases hlt : k < n
  ·obtain ⟨ad,rfl,hc⟩:=HA.out k hlt
   have hc0:=zab hB hc
   obtain ⟨z1,z2⟩:=HI.out k hlt
   have HGK:=lh9 (HG.out k hlt)
   obtain ⟨z,hz⟩ : ∃ z,zs.getD k 0 = z:=⟨_,rfl⟩
   rw [hz] at hc0 z1 z2 HGK
   have hd1 : decide ((k : Int) < (n : Int)) = true:=decide_eq_true (by omega)
   have i1 : (0 : Int) ≤ (k : Int):=by omega
   have i2 : (k : Int) < (n : Int):=by omega
   have HROW:=lh9 hrow
   have HB1:=lh9 hB
   clear hrow hB hc hz
   go_wp2_with fail
   (with_reducible refine (ziM z _ (HT.out _ HB1.out) z1 z2).mono ?_)
   rintro e w3 ⟨b3,A3,n3,c3,E3,k3,f3,rfl,hw3,hb⟩
   clear hc0
   have hr3:=HROW.out.keep hb
   have hr4:=zaZ.set_ zam hr3 hlt hw3
   rw [zbw 0 ys n k HLZ.out hlt _ HGK.out] at hr4
   obtain ⟨q0,q1,q2,sc0,sf0,sc1,sf1,sc2,sf2⟩:=hr3.ready hlt (.bool b3) (.slice A3 n3 c3)
   have HR4:=lh9 hr4
   have HB4:=lh9 (zch (k * 3) (k * 3 + 1) (k * 3 + 2) (.bool b3) (.slice A3 n3 c3) (.slice E3 k3 f3) hwg (zaa HB1.out hb))
   clear hr3 hr4 hb hw3 HROW HB1
   go_wp2
   go_roundg (n - k)
   case measure => omega
   case rel => exact ⟨k + 1,by omega,by omega,by go_num,HR4.out,HB4.out⟩
  ·have hk : k = n:=by omega
   subst hk
   have hd1 : decide ((k : Int) < (k : Int)) = false:=by simp
   have HR5:=lh9 (zbv 0 ys k HLZ.out ▸ hrow)
   have HB1:=lh9 hB
   clear hrow hB
   go_wp2
   go_ret
   exact ⟨gp,rfl,hwg,HR5.out,HB1.out⟩
theorem vec_copy {K : Nat} {xs : List Rat} {A : oA9} {n c : Nat} {w : World} (hT : zak w) (ha : zaG w A n c xs) (hx : zay K xs) (hn : n ≤ 1073741824:=by omega) (hK : K + 2 ≤ 67108864:=by omega) :
  Calls Tryz.prog 69 #[.slice A n c] w (zec w n xs):=by
 have hla:=ha.len
 have HG : Hid (∀ i,i < n → xs[i]? = some (xs.getD i 0)):=fun i hi => by
  rw [List.getD_eq_getElem?_getD,List.getElem?_eq_getElem (by omega)]; rfl
 have HSX : Hid (∀ i,i < n → zay K [xs.getD i 0]):=fun i hi y hy => by
  rw [List.mem_singleton.1 hy]; exact hx.at_ (by omega)
 unfold zec
 have HLZ:=lh9 hla
 have HA:=lh9 ha
 have HT:=lh9 (fun w' (hb : Below w.heap.size w w') => hT.on hb)
 obtain ⟨Z,hZ⟩:=zdy n (by omega)
 have hmk:=fun W => (hZ W).1
 have HOWN:=lh9 (fun W => (hZ W).2)
 clear hT ha hx hla hZ
 have i0 : (0 : Int) ≤ (n : Int):=by omega
 go_enter Tryz.func69,Tryz.ntmps69
 go_wp2_with fail
 clear hmk
 have hrow:=HOWN.out w
 have hB : Below w.heap.size w (w.alloc (.cells Z 48)):=(Below.refl _ w).alloc (Nat.le_refl _) _
 obtain ⟨gp,hgp⟩ : ∃ g,w.heap.size = g:=⟨_,rfl⟩
 have hwg : w.heap.size ≤ gp:=by omega
 rw [hgp] at hrow ⊢
 rw [← zbj 0 xs n] at hrow
 generalize w.alloc (.cells Z 48) = W1 at *
 clear hgp HOWN
 go_loopg [11] (n + 1) (fun g ix wr => ∃ (k : Nat),k ≤ n ∧ n < g + k ∧ ix = .int .i64 k ∧ zco wr gp n (zbB 0 xs n k) ∧ Below w.heap.size w wr)
 case atStart => exact ⟨0,Nat.zero_le _,by omega,rfl,hrow,hB⟩
 case round =>
  clear hrow hB
  obtain ⟨k,hkn,hg,rfl,hrow,hB⟩:=hrel
  by_cases hlt : k < n
  ·obtain ⟨ad,b1,B1,m1,d1,E1,u1,v1,rfl,-,hc0,hc1,hc2,hx⟩:=HA.out.get hB hlt
   have hd1 : decide ((k : Int) < (n : Int)) = true:=decide_eq_true (by omega)
   have i1 : (0 : Int) ≤ (k : Int):=by omega
   have i2 : (k : Int) < (n : Int):=by omega
   obtain ⟨s1,t1,t2,t3⟩:=zbs wr 48 48 #[.bool b1,.slice B1 m1 d1,.slice E1 u1 v1] #[.bool b1,.slice B1 m1 d1,.slice E1 u1 v1]
   have t1':=(zaz wr 48 #[.bool b1,.slice B1 m1 d1,.slice E1 u1 v1]).2.1
   obtain ⟨p0,p1,p2⟩:=t1'.c3
   have HL1:=lh9 (zjT t2 (hx.below s1))
   have HROW:=lh9 (hrow.keep s1)
   have HB1:=lh9 (zaa hB s1)
   clear hx hrow hB s1 t1 t2 t3 t1'
   go_wp2_with fail
   (with_reducible refine (q_sum (HT.out _ HB1.out) HL1.out (HSX.out k hlt) (by decide) (by omega)).mono ?_)
   rintro e w3 ⟨b3,A3,n3,c3,E3,k3,f3,rfl,hw3,hb⟩
   clear hc0 hc1 hc2 p0 p1 p2
   have hw3 : zaj w3 (xs.getD k 0) b3 A3 n3 c3 E3 k3 f3:=by
    have e : zcJ [xs.getD k 0] = xs.getD k 0:=by rw [zdS,zid,Rat.add_zero]
    rw [e] at hw3
    exact hw3
   have hr3:=HROW.out.keep hb
   have hr4:=zaZ.set_ zam hr3 hlt hw3
   rw [zbw 0 xs n k HLZ.out hlt _ (HG.out k hlt)] at hr4
   obtain ⟨q0,q1,q2,sc0,sf0,sc1,sf1,sc2,sf2⟩:=hr3.ready hlt (.bool b3) (.slice A3 n3 c3)
   have HR4:=lh9 hr4
   have HB4:=lh9 (zch (k * 3) (k * 3 + 1) (k * 3 + 2) (.bool b3) (.slice A3 n3 c3) (.slice E3 k3 f3) hwg (zaa HB1.out hb))
   clear hr3 hr4 hb hw3 HROW HB1 HL1
   go_wp2
   go_roundg (n - k)
   case measure => omega
   case rel => exact ⟨k + 1,by omega,by omega,by go_num,HR4.out,HB4.out⟩
  ·have hk : k = n:=by omega
   subst hk
   have hd1 : decide ((k : Int) < (k : Int)) = false:=by simp
   have HR5:=lh9 (zbv 0 xs k HLZ.out ▸ hrow)
   have HB1:=lh9 hB
   clear hrow hB
   go_wp2
   go_ret
   exact ⟨gp,rfl,hwg,HR5.out,HB1.out⟩
structure zfN (w : World) (A : oA9) (n : Nat) (Ls : List (List Rat)) : Prop where
 len : Ls.length = n
 num : ∀ i L,Ls[i]? = some L → ∃ (ad : Addr) (B : oA9) (d : Nat),A = some ad ∧ ad.block < w.heap.size ∧ w.cell? (ad.add i) = some (.slice B L.length d) ∧ zaG w B L.length d L
theorem zfN.below {w w' : World} {A : oA9} {n : Nat} {Ls : List (List Rat)} (h : zfN w A n Ls) (hb : Below w.heap.size w w') : zfN w' A n Ls :=
 ⟨h.len,fun i L hi => by
  obtain ⟨ad,B,d,e,h1,h2,h3⟩:=h.num i L hi
  exact ⟨ad,B,d,e,Nat.lt_of_lt_of_le h1 hb.size,zab hb h2,h3.keep hb⟩⟩
theorem zcB {α : Type} {xs : List α} {k : Nat} {d : α} (h : k < xs.length) : xs[k]? = some (xs.getD k d):=by
 rw [List.getD_eq_getElem?_getD,List.getElem?_eq_getElem h]; rfl
section
variable {K L : Nat} {rs : List Rat} {Ls : List (List Rat)} {A B : oA9} {n n' c d : Nat} {w : World}
end
theorem zlc : zcU RefQ where
 below h hb:=h.below hb
 offg h hk hcs ho:=⟨⟨h.1.1,zgN h.1.2 hk hcs ho⟩,zgN h.2 hk hcs ho⟩
abbrev zgB (w : World) (A : oA9) (n c : Nat) (xs : List Rat) : Prop:=zaJ RefQ w A n c xs
theorem zgB.keep {w w' : World} {A : oA9} {n c : Nat} {xs : List Rat} (h : zgB w A n c xs) (hb : Below w.heap.size w w') : zgB w' A n c xs:=zaJ.below zlc h hb
theorem zgB.get {w wr : World} {A : oA9} {n c : Nat} {xs : List Rat} (h : zgB w A n c xs) (hb : Below w.heap.size w wr) {i : Nat} (hi : i < n) : ∃ (ad : Addr) (b : Bool) (B : oA9) (m d : Nat) (F : oA9) (u v : Nat),A = some ad ∧ ad.block < w.heap.size ∧ wr.cell? (ad.add (i * 3)) = some (.bool b) ∧ wr.cell? ⟨(ad.add (i * 3)).block,(ad.add (i * 3)).off + 1,none⟩ = some (.slice B m d) ∧ wr.cell? ⟨(ad.add (i * 3)).block,(ad.add (i * 3)).off + 2,none⟩ = some (.slice F u v) ∧ RefQ wr (xs.getD i 0) b B m d F u v:=by
 obtain ⟨ad,b,B,m,d,F,u,v,e,h0,h1,h2,h3,h4⟩:=h.at_ hi 0
 exact ⟨ad,b,B,m,d,F,u,v,e,h0,zab hb h1,zab hb (zgq h2),zab hb (zlq h3),h4.below hb⟩
end Go.Proofs.YtedbgdlbgohiiaaGreatDoor
