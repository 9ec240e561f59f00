/- What this claim leans on. -/
import Derived.Test.YtedbgdlbgohiiaaGreatDoorTMMade
namespace Go.Proofs.YtedbgdlbgohiiaaGreatDoor
open Go Go.RowKit
set_option maxHeartbeats 16000000
set_option maxRecDepth 100000
set_option linter.unusedVariables false
set_option linter.unusedSimpArgs false
theorem zht (M : List (List Rat)) (v : List Rat) : (zbp M v).length = M.length:=by simp [zbp]
theorem zlj {M : List (List Rat)} {v : List Rat} {i : Nat} (h : i < M.length) : (zbp M v)[i]? = some (zfp (M.getD i []) v):=by
 unfold zbp
 rw [List.getElem?_map,List.getD_eq_getElem?_getD,List.getElem?_eq_getElem h]
 rfl
theorem zjQ {K K' k : Nat} {M : List (List Rat)} {v : List Rat} (z : zas K M) (zv : zay K' v) (hd : ∀ L ∈ M,L.length = k) (hv : v.length = k) : zay (1 + k * (K + K' + 1)) (zbp M v):=fun x hx => by
 obtain ⟨L,hL,rfl⟩:=List.mem_map.1 hx
 exact dot_sz (hd L hL) hv (z L hL) zv
section
variable {K K' : Nat} {w : World}
theorem zgQ {n k q c : Nat} {Q A : oA9} {Ls : List (List Rat)} {xs : List Rat} (hT : zak w) (h : zaD (zaJ zaj) w Q n Ls) (hd : ∀ L ∈ Ls,L.length = k) (hv : zaG w A k c xs) (z : zas K Ls) (zx : zay K' xs) (hn : n ≤ 64:=by omega) (hk : k ≤ 64:=by omega) (hK : K ≤ 67108864:=by omega) (hK' : K' ≤ 67108864:=by omega) (hS : 1 + k * (K + K' + 1) ≤ 67108864:=by omega) :
  Calls Tryz.prog 80 #[.slice Q n q,.slice A k c] w (zec w n (zbp Ls xs)):=by
 have hl:=h.len
 have HR:=lh9 h
 have HV:=lh9 hv
 have HT:=lh9 (fun w' (hb : Below w.heap.size w w') => hT.on hb)
 have HZ : Hid (∀ i,i < n → zay K (Ls.getD i [])):=fun i hi => z.row (by omega)
 have HD : Hid (∀ i,i < n → (Ls.getD i []).length = k):=fun i hi => hd _ (List.mem_of_getElem? (zcB (by omega)))
 have HX:=lh9 zx
 have HLZ : Hid ((zbp Ls xs).length = n):=by show _ = _; rw [zht]; exact hl
 have HG : Hid (∀ i,i < n → (zbp Ls xs)[i]? = some (zfp (Ls.getD i []) xs)):=fun i hi => zlj (by omega)
 have HSS:=lh9 hS
 obtain ⟨ys,hys⟩ : ∃ ys,zbp Ls xs = ys:=⟨_,rfl⟩
 rw [hys] at HLZ HG ⊢
 obtain ⟨Z,hZ⟩:=zdy n (by omega)
 have hmk:=fun W => (hZ W).1
 have HOWN:=lh9 (fun W => (hZ W).2)
 clear hT h hd hv z zx hl hys hZ hS
 unfold zec
 have i0 : (0 : Int) ≤ (n : Int):=by omega
 go_enter Tryz.func80,Tryz.ntmps80
 go_wp2_with fail
 clear hmk
 have hrow:=HOWN.out w
 have hB : Below w.heap.size w (w.alloc (.cells Z 48)):=(Below.refl _ w).alloc (Nat.le_refl _) _
 obtain ⟨gp,hgp⟩ : ∃ g,w.heap.size = g:=⟨_,rfl⟩
 have hwg : w.heap.size ≤ gp:=by omega
 rw [hgp] at hrow ⊢
 rw [← zbj 0 ys n] at hrow
 generalize w.alloc (.cells Z 48) = W1 at *
 clear hgp HOWN
 go_loopg [13] (n + 1) (fun g ix wr => ∃ (k : Nat),k ≤ n ∧ n < g + k ∧ ix = .int .i64 k ∧ zco wr gp n (zbB 0 ys n k) ∧ Below w.heap.size w wr)
 case atStart => exact ⟨0,Nat.zero_le _,by omega,rfl,hrow,hB⟩
 case round =>
  clear hrow hB
  obtain ⟨i,hkn,hg,rfl,hrow,hB⟩:=hrel
  by_cases hlt : i < n
  ·obtain ⟨ad,B,d,rfl,-,hc,hvi⟩:=HR.out.get (zaA zam) hB hlt (HD.out i hlt)
   have hd1 : decide ((i : Int) < (n : Int)) = true:=decide_eq_true (by omega)
   have i1 : (0 : Int) ≤ (i : Int):=by omega
   have i2 : (i : Int) < (n : Int):=by omega
   have HROW:=lh9 hrow
   have HVI:=lh9 hvi
   have HB1:=lh9 hB
   clear hvi hrow hB
   go_wp2_with fail
   (with_reducible refine (vec_dot (HT.out _ HB1.out) HVI.out (HV.out.keep HB1.out) (HZ.out i hlt) HX.out (by omega) hK hK' HSS.out).mono ?_)
   rintro e w3 ⟨b3,A3,n3,c3,E3,k3,f3,rfl,hw3,hb⟩
   clear hc
   have hr3:=HROW.out.keep hb
   have hr4:=zaZ.set_ zam hr3 hlt hw3
   rw [zbw 0 ys n i HLZ.out hlt _ (HG.out i hlt)] at hr4
   obtain ⟨q0,q1,q2,sc0,sf0,sc1,sf1,sc2,sf2⟩:=hr3.ready hlt (.bool b3) (.slice A3 n3 c3)
   have HR4:=lh9 hr4
   have HB4:=lh9 (zch (i * 3) (i * 3 + 1) (i * 3 + 2) (.bool b3) (.slice A3 n3 c3) (.slice E3 k3 f3) hwg (zaa HB1.out hb))
   clear hr3 hr4 hb hw3 HROW HB1 HVI
   go_wp2
   go_roundg (n - i)
   case measure => omega
   case rel => exact ⟨i + 1,by omega,by omega,by go_num,HR4.out,HB4.out⟩
  ·have hk9 : i = n:=by omega
   subst hk9
   have hd1 : decide ((i : Int) < (i : Int)) = false:=by simp
   have HR5:=lh9 (zbv 0 ys i HLZ.out ▸ hrow)
   have HB1:=lh9 hB
   clear hrow hB
   go_wp2
   go_ret
   exact ⟨gp,rfl,hwg,HR5.out,HB1.out⟩
variable {A : oA9} {n c m : Nat} {MM : List (List Rat)}
theorem zkF {j : Nat} (h : zap w A n c m MM) (hj : j < m) :
  Calls Tryz.prog 70 #[.agg #[.slice A n c,.int .i64 (m : Int)],.int .i64 (j : Int)] w (zec w n (zfl n MM j)):=by
 obtain ⟨hn,hm⟩:=And.intro h.hn h.hm
 have HR:=fun W => lh9 (zcG A n c (m : Int) W)
 have HM:=lh9 h
 have HLZ : Hid ((zfl n MM j).length = n):=zfm n MM j
 have HG : Hid (∀ i,i < n → (zfl n MM j)[i]? = some (atM MM i j)):=fun i hi => by
  unfold zfl
  rw [List.getElem?_map,List.getElem?_range hi]
  rfl
 obtain ⟨ys,hys⟩ : ∃ ys,zfl n MM j = ys:=⟨_,rfl⟩
 rw [hys] at HLZ HG ⊢
 obtain ⟨Z,hZ⟩:=zdy n (by omega)
 have hmk:=fun W => (hZ W).1
 have HOWN:=lh9 (fun W => (hZ W).2)
 obtain ⟨bx1,bx2,bz⟩:=zaz w 28 #[.slice A n c,.int .i64 (m : Int)]
 obtain ⟨g0,g1⟩:=bx2.c2
 have HB:=lh9 bx1
 have HK:=lh9 bx2
 clear h hys hZ bx1 bx2 bz
 unfold zec
 have i0 : (0 : Int) ≤ (n : Int):=by omega
 go_enter Tryz.func70,Tryz.ntmps70
 go_wp2_with fail
 refine (HR _).out.mono ?_
 rintro e w2 ⟨rfl,hb⟩
 have HB2:=lh9 (zaa HB.out hb)
 have hk2:=zac hb HK.out
 have hb3 : Below w2.heap.size w2 (w2.alloc (.cells Z 48)):=(Below.refl _ w2).alloc (Nat.le_refl _) _
 have hk3:=zac hb3 hk2
 obtain ⟨g0,g1⟩:=hk3.c2
 have hsz:=hk2.lt
 clear hb hk2 hk3 HK HB HR
 go_wp2_with fail
 clear hmk g0 g1
 have hrow:=HOWN.out w2
 have hB:=zaa HB2.out hb3
 obtain ⟨gp,hgp⟩ : ∃ g,w2.heap.size = g:=⟨_,rfl⟩
 have hwg : w.heap.size ≤ gp:=by omega
 rw [hgp] at hrow ⊢
 rw [← zbj 0 ys n] at hrow
 generalize w2.alloc (.cells Z 48) = W1 at *
 clear hgp HOWN HB2 hb3 hsz
 go_loopg [14] (n + 1) (fun g ix wr => ∃ (k : Nat),k ≤ n ∧ n < g + k ∧ ix = .int .i64 k ∧ zco wr gp n (zbB 0 ys n k) ∧ Below w.heap.size w wr)
 case atStart => exact ⟨0,Nat.zero_le _,by omega,rfl,hrow,hB⟩
 case round =>
  clear hrow hB
  obtain ⟨i,hkn,hg,rfl,hrow,hB⟩:=hrel
  by_cases hlt : i < n
  ·obtain ⟨ad,B,d,rfl,-,hc,ae,b3,A3,n3,c3,E3,k3,f3,rfl,-,h0,h1,h2,hw3⟩:=HM.out.place hB hlt hj
   have hd1 : decide ((i : Int) < (n : Int)) = true:=decide_eq_true (by omega)
   have i1 : (0 : Int) ≤ (i : Int):=by omega
   have i2 : (i : Int) < (n : Int):=by omega
   have i3 : (0 : Int) ≤ (j : Int):=by omega
   have i4 : (j : Int) < (m : Int):=by omega
   have hr4:=zaZ.set_ zam hrow hlt hw3
   rw [zbw 0 ys n i HLZ.out hlt _ (HG.out i hlt)] at hr4
   obtain ⟨q0,q1,q2,sc0,sf0,sc1,sf1,sc2,sf2⟩:=hrow.ready hlt (.bool b3) (.slice A3 n3 c3)
   have HR4:=lh9 hr4
   have HB4:=lh9 (zch (i * 3) (i * 3 + 1) (i * 3 + 2) (.bool b3) (.slice A3 n3 c3) (.slice E3 k3 f3) hwg hB)
   clear hr4 hw3 hrow hB
   go_wp2
   go_roundg (n - i)
   case measure => omega
   case rel => exact ⟨i + 1,by omega,by omega,by go_num,HR4.out,HB4.out⟩
  ·have hk9 : i = n:=by omega
   subst hk9
   have hd1 : decide ((i : Int) < (i : Int)) = false:=by simp
   have HR5:=lh9 (zbv 0 ys i HLZ.out ▸ hrow)
   have HB1:=lh9 hB
   clear hrow hB
   go_wp2
   go_ret
   exact ⟨gp,rfl,hwg,HR5.out,HB1.out⟩
def zhI (w : World) (n : Nat) (Ls : List (List Rat)) (e : Ending) (w' : World) : Prop:=∃ g,e = .returned (.slice (some ⟨g,0,none⟩) n n) ∧ w.heap.size ≤ g ∧ zaQ (zaJ zaj) w' 51 g n Ls ∧ Below w.heap.size w w'
theorem zga (h : zap w A n c m MM) :
  Calls Tryz.prog 79 #[.agg #[.slice A n c,.int .i64 (m : Int)]] w (zhI w m (zaN n m MM)):=by
 obtain ⟨hn,hm⟩:=And.intro h.hn h.hm
 have HM:=lh9 h
 have HLZ : Hid ((zaN n m MM).length = m):=zfH _ _ _
 have HLC : Hid (∀ j,(zfl n MM j).length = n):=fun j => zfm n MM j
 have HG : Hid (∀ j,j < m → (zaN n m MM)[j]? = some (zfl n MM j)):=fun j hj => zhr _ hj
 obtain ⟨ys,hys⟩ : ∃ ys,zaN n m MM = ys:=⟨_,rfl⟩
 rw [hys] at HLZ HG ⊢
 obtain ⟨Y,hY⟩:=zhU m (by omega)
 have hmk:=fun W => (hY W).1
 have HOWN:=lh9 (fun W => (hY W).2)
 obtain ⟨bx1,bx2,bz⟩:=zaz w 28 #[.slice A n c,.int .i64 (m : Int)]
 obtain ⟨g0,g1⟩:=bx2.c2
 have hBa:=(zaz (w.alloc (.cells #[.slice A n c,.int .i64 (m : Int)] 28)) 51 Y).1
 have hK:=zac hBa bx2
 have hB:=zaa bx1 hBa
 clear h hys hY bx1 bx2 hBa
 unfold zhI
 have i0 : (0 : Int) ≤ (m : Int):=by omega
 go_enter Tryz.func79,Tryz.ntmps79
 go_wp2_with fail
 clear hmk g0 g1
 have hrow:=HOWN.out (w.alloc (.cells #[.slice A n c,.int .i64 (m : Int)] 28))
 have e1 : (w.alloc (.cells #[.slice A n c,.int .i64 (m : Int)] 28)).heap.size = w.heap.size + 1:=by simp
 rw [e1] at hrow
 rw [← zbj [] ys m] at hrow
 generalize (w.alloc (.cells #[.slice A n c,.int .i64 (m : Int)] 28)).alloc (.cells Y 51) = W1 at *
 obtain ⟨gb,hgb⟩ : ∃ g,w.heap.size = g:=⟨_,rfl⟩
 have hwg : w.heap.size ≤ gb:=by omega
 rw [hgb] at hrow hK ⊢
 clear e1 HOWN hgb bz
 go_loopg [10] (m + 1) (fun g ix wr => ∃ (k : Nat),k ≤ m ∧ m < g + k ∧ ix = .int .i64 k ∧ zaQ (zaJ zaj) wr 51 (gb + 1) m (zbB [] ys m k) ∧ Below w.heap.size w wr ∧ Blk wr gb 28 #[.slice A n c,.int .i64 (m : Int)])
 case atStart => exact ⟨0,Nat.zero_le _,by omega,rfl,hrow,hB,hK⟩
 case round =>
  clear hrow hB hK
  obtain ⟨i,hkn,hg,rfl,hrow,hB,hK⟩:=hrel
  by_cases hlt : i < m
  ·have hd1 : decide ((i : Int) < (m : Int)) = true:=decide_eq_true (by omega)
   have i1 : (0 : Int) ≤ (i : Int):=by omega
   have i2 : (i : Int) < (m : Int):=by omega
   obtain ⟨g0,g1⟩:=hK.c2
   have HROW:=lh9 hrow
   have HB1:=lh9 hB
   have HK1:=lh9 hK
   have HGI:=lh9 (HG.out i hlt)
   clear hrow hB hK
   go_wp2_with fail
   (with_reducible refine (zkF (HM.out.keep HB1.out) hlt).mono ?_)
   rintro e w5 ⟨g5,rfl,hg5,ho5,hb⟩
   clear g0 g1
   have hr5:=HROW.out.below (zaA zam) hb
   have hr6:=zaQ.set_ (zaA zam) hr5 hlt (zbD ho5) (HLC.out i)
   rw [zbw [] ys m i HLZ.out hlt _ HGI.out] at hr6
   obtain ⟨q0,sc0,sf0⟩:=hr5.ready hlt
   have HR6:=lh9 hr6
   have HB6:=lh9 (zae (p:=⟨gb + 1,i,none⟩) (.slice (some ⟨g5,0,none⟩) n n) (show w.heap.size ≤ gb + 1 by omega) (zaa HB1.out hb))
   have HK6:=lh9 (Blk.far (p:=⟨gb + 1,i,none⟩) (zac hb HK1.out) (by show gb ≠ gb + 1; omega) (.slice (some ⟨g5,0,none⟩) n n))
   clear hr5 hr6 ho5 hb HROW HB1 HK1 HGI
   go_wp2
   go_roundg (m - i)
   case measure => omega
   case rel => exact ⟨i + 1,by omega,by omega,by go_num,HR6.out,HB6.out,HK6.out⟩
  ·have hk9 : i = m:=by omega
   subst hk9
   have hd1 : decide ((i : Int) < (i : Int)) = false:=by simp
   have HR5:=lh9 (zbv [] ys i HLZ.out ▸ hrow)
   have HB1:=lh9 hB
   clear hrow hB hK
   go_wp2
   go_ret
   exact ⟨gb + 1,rfl,by omega,HR5.out,HB1.out⟩
variable {V : oA9} {k cv : Nat} {xs : List Rat}
theorem zmv (hT : zak w) (h : zap w A n c m MM) (hv : zaG w V m cv xs) (z : zas K MM) (zx : zay K' xs) (hK : K ≤ 67108864:=by omega) (hK' : K' ≤ 67108864:=by omega) (hS : 1 + m * (K + K' + 1) ≤ 67108864:=by omega) :
  Calls Tryz.prog 36 #[.agg #[.slice A n c,.int .i64 (m : Int)],.slice V m cv] w (zde w n (zbp MM xs)):=by
 have e0 : ((m : Int) != (m : Int)) = false:=by simp
 obtain ⟨bx1,bx2,bz⟩:=zaz w 28 #[.slice A n c,.int .i64 (m : Int)]
 obtain ⟨g0,g1⟩:=bx2.c2
 have HD:=lh9 (zgQ (q:=c) (hT.on bx1) (h.keep bx1).rows h.dims.cols (hv.keep bx1) z zx h.hn h.hm hK hK' hS)
 have HB:=lh9 bx1
 clear h bx1 bx2 bz hT hv z zx
 unfold zde
 go_enter Tryz.func36,Tryz.ntmps36
 go_wp2_with fail
 refine HD.out.mono ?_
 rintro e w5 ⟨g5,rfl,hg5,ho5,hb⟩
 have HG:=lh9 (And.intro (Nat.le_trans HB.out.size hg5) (And.intro ho5 (zaa HB.out hb)))
 clear g0 g1 hg5 ho5 hb
 go_wp2
 go_ret2
 exact ⟨g5,rfl,HG.out⟩
theorem mat_by (hT : zak w) (h : zap w A n c m MM) (hv : zaG w V n cv xs) (z : zas K MM) (zx : zay K' xs) (hK : K ≤ 67108864:=by omega) (hK' : K' ≤ 67108864:=by omega) (hS : 1 + n * (K + K' + 1) ≤ 67108864:=by omega) :
  Calls Tryz.prog 38 #[.agg #[.slice A n c,.int .i64 (m : Int)],.slice V n cv] w (zde w m (zbp (zaN n m MM) xs)):=by
 have e0 : ((n : Int) != (n : Int)) = false:=by simp
 have HR:=fun W => lh9 (zcG A n c (m : Int) W)
 obtain ⟨bx1,bx2,bz⟩:=zaz w 28 #[.slice A n c,.int .i64 (m : Int)]
 obtain ⟨g0,g1⟩:=bx2.c2
 have HC:=lh9 (fun W (hb : Below w.heap.size w W) => zga (h.keep hb))
 have HD:=lh9 (fun W (Q : oA9) (q : Nat) (hb : Below w.heap.size w W) (hr : zaD (zaJ zaj) W Q m (zaN n m MM)) => zgQ (q:=q) (hT.on hb) hr (zcj n m MM).cols (hv.keep hb) (z.turn h.dims) zx h.hm h.hn hK hK' hS)
 have HB:=lh9 bx1
 have HK:=lh9 bx2
 clear h bx1 bx2 bz hT hv z zx
 unfold zde
 go_enter Tryz.func38,Tryz.ntmps38
 go_wp2_with fail
 refine (HR _).out.mono ?_
 rintro e w2 ⟨rfl,hb⟩
 have HB2:=lh9 (zaa HB.out hb)
 obtain ⟨g0,g1⟩:=(zac hb HK.out).c2
 clear hb HB
 go_wp2_with fail
 refine (HC.out _ HB2.out).mono ?_
 rintro e w3 ⟨g3,rfl,hg3,ho3,hb⟩
 have HB3:=lh9 (zaa HB2.out hb)
 have HO:=lh9 ho3.rows
 clear hb HB2 ho3 g0 g1
 go_wp2_with fail
 refine (HD.out _ _ _ HB3.out HO.out).mono ?_
 rintro e w5 ⟨g5,rfl,hg5,ho5,hb⟩
 have HG:=lh9 (And.intro (Nat.le_trans HB3.out.size hg5) (And.intro ho5 (zaa HB3.out hb)))
 clear hg5 ho5 hb
 go_wp2
 go_ret2
 exact ⟨g5,rfl,HG.out⟩
end
end Go.Proofs.YtedbgdlbgohiiaaGreatDoor
