/- What this claim leans on. -/
import Derived.Test.YtfieheffipfahaaGreatDoorTR8Ref
namespace Go.Proofs.YtfieheffipfahaaGreatDoor
open Go Go.RowKit
set_option maxHeartbeats 16000000
set_option maxRecDepth 100000
set_option linter.unusedVariables false
set_option linter.unusedSimpArgs false
theorem one_dg9 {x : Nat} (h : (dg 65536 x).length = 1) : x = (dg 65536 x).getD 0 0 := by
 have e := zbO (b := 65536) (by decide) x
 generalize dg 65536 x = D at *
 match D,h with
 | [d],_ => rw [← e]; simp [dv]
theorem ref9_one (x : Nat) (A : oA9) (n c : Nat) (w : World) (h : zaj w x A n c) (hn : n ≤ 1099511627776) :
  Calls Tryz.prog 45 #[.slice A n c] w fun e w' => e = .returned (.bool (decide (x = 1))) ∧ w' = w := by
 have hl := h.len
 by_cases h1 : n = 1
 ·obtain ⟨ad,rfl,hb,hc⟩ := zaP h.1 (k := 0) (by omega)
  rw [← one_dg9 (by omega),zeO] at hc
  have i1 : ((x : Int) == 1) = decide (x = 1) := by
   by_cases hx : x = 1
   ·subst hx; rfl
   ·rw [decide_eq_false hx,beq_eq_false_iff_ne]; omega
  obtain ⟨t,ht⟩ : ∃ t,decide (x = 1) = t := ⟨_,rfl⟩
  rw [ht] at i1 ⊢
  have i0 : ((n : Int) == 1) = true := by rw [beq_iff_eq]; omega
  have i3 : (0 : Int) < (n : Int) := by omega
  clear h hl h1 hb ht
  go_enter Tryz.func45,Tryz.ntmps45
  go_wp2
  go_ret
  exact ⟨rfl,rfl⟩
 ·have hx : x ≠ 1 := fun hx => h1 (by rw [hl,hx]; decide)
  rw [decide_eq_false hx]
  have i0 : ((n : Int) == 1) = false := by rw [beq_eq_false_iff_ne]; omega
  clear h hl h1 hx
  go_enter Tryz.func45,Tryz.ntmps45
  go_wp2
  go_ret
  exact ⟨rfl,rfl⟩
theorem zgP {x : Nat} {t : Bool} (A : oA9) (n c : Nat) (w : World) (h : zaj w x A n c) (hn : n ≤ 1099511627776) (ht : decide (x = 1) = t) :
  Calls Tryz.prog 45 #[.slice A n c] w fun e w' => e = .returned (.bool t) ∧ w' = w := ht ▸ ref9_one x A n c w h hn
def zjk (w : World) (x : Nat) (e : Ending) (w' : World) : Prop := ∃ v,e = .returned (.tuple #[v,.int .i64 ((zbt x : Nat) : Int),.bool (decide (zbt x ≤ 255))]) ∧ zbR w.heap.size w' v (if zbt x ≤ 255 then zcm x else []) ∧ Below w.heap.size w w'
theorem zja (x : Nat) (A : oA9) (n c : Nat) (w : World) (h : zaj w x A n c) (hn : n ≤ 1048576) :
  Calls Tryz.prog 46 #[.slice A n c] w (zjk w x) := by
 have HB := lh9 (zmH x A n c w h hn)
 have hle : (zbi x).length = zbt x := zdh x
 unfold zcA at HB
 rw [hle] at HB
 have HP : Hid (∀ N,zbt x = N → N ≤ 255 → [N] ++ zbi x = zcm x) := fun N h1 _ => by unfold zcm; rw [h1]; rfl
 unfold zjk
 obtain ⟨N,hN⟩ : ∃ N,zbt x = N := ⟨_,rfl⟩
 obtain ⟨D,hD⟩ : ∃ N,zbi x = N := ⟨_,rfl⟩
 obtain ⟨P,hP⟩ : ∃ N,zcm x = N := ⟨_,rfl⟩
 rw [hN,hD] at HB
 rw [hN,hD,hP] at HP
 rw [hD,hN] at hle
 rw [hN,hP]
 have HPN := lh9 (HP.out N rfl)
 clear h hN hD hP HP
 by_cases hb : N ≤ 255
 ·rw [decide_eq_true hb,if_pos hb]
  have HPP := lh9 (HPN.out hb)
  have i1 : ¬ ((255 : Int) < (N : Int)) := by omega
  have i2 : IntKind.u8.wrap (N : Int) = (N : Int) := IntWalk.u8_in _ (by omega)
  clear HPN
  go_enter Tryz.func46,Tryz.ntmps46
  go_wp2_with fail
  refine HB.out.mono ?_
  rintro e w1 ⟨v1,rfl,hown1,hb1⟩
  obtain ⟨A1,c1,rfl,hc1,hc2,hr1⟩ := zan.of_grown_own hown1
  have HR := lh9 (hr1.below ((Below.refl _ w1).alloc (Nat.le_refl _) (.cells #[.int .u8 (N : Int)] 5)))
  have HL := lh9 (lit8 (B := w.heap.size) w1 N hb1.size)
  have HBA := lh9 (hb1.alloc hb1.size (.cells #[.int .u8 (N : Int)] 5))
  clear HB hown1 hr1 hc1 hc2
  go_wp2_with (at_builtin; refine app8L (.tmp 18) (.tmp 19) w.heap.size _ [N] A1 N c1 D HL.out (HR.out.more (by simp)) (by simp; omega) HBA.out.size ?_; intro v' w2 hown' hG)
  have hB := hG.belowOf HL.out HBA.out (Nat.le_refl _)
  rw [HPP.out] at hown'
  clear hG HBA HL HR HPP hb1
  go_wp2
  refine bodyPost_ret (v := .tuple #[v',.int .i64 (N : Int),.bool true]) (by simp [results,Tryz.results46,go_sem]) rfl ?_
  exact ⟨_,rfl,hown',hB⟩
 ·rw [decide_eq_false hb,if_neg hb]
  have i1 : (255 : Int) < (N : Int) := by omega
  clear HPN
  go_enter Tryz.func46,Tryz.ntmps46
  go_wp2_with fail
  refine HB.out.mono ?_
  rintro e w1 ⟨v1,rfl,hown1,hb1⟩
  obtain ⟨A1,c1,rfl,hc1,hc2,hr1⟩ := zan.of_grown_own hown1
  clear HB hown1 hr1 hc1 hc2
  go_wp2
  refine bodyPost_ret (v := .tuple #[.slice none 0 0,.int .i64 (N : Int),.bool false]) (by simp [results,Tryz.results46,go_sem]) rfl ?_
  exact ⟨_,rfl,zbR.nil _ _,hb1⟩
def zda (w : World) (r : Rat) (e : Ending) (w' : World) : Prop := ∃ v,e = .returned (.tuple #[v,.agg #[.int .i64 (zfi r).n,.string (zfi r).s,.int .i64 (zfi r).k]]) ∧ zbR w.heap.size w' v (encL r) ∧ Below w.heap.size w w'
theorem zis (r : Rat) (b : Bool) (A : oA9) (n c : Nat) (E : oA9) (u v : Nat) (w : World) (h : zeo w r b A n c E u v) (h0 : r = 0) :
  Calls Tryz.prog 14 #[.agg #[.bool b,.slice A n c,.slice E u v]] w (zda w r) := by
 subst h0
 obtain ⟨bx1,bx2,bx3,bz⟩ := zbQ w 40 49 #[.bool b,.slice A n c,.slice E u v] #[.int .i64 0,.string { data := #[] },.int .i64 0]
 obtain ⟨g1,e1,i1⟩ := bx2.c3
 have hn0 := zkI h.1.2 rfl
 subst hn0
 unfold zda
 rw [zdV.1,zdV.2]
 clear h bx2 bz
 go_enter Tryz.func14,Tryz.ntmps14
 go_upto_region 2 with fail
 generalize hW : (w.alloc (.cells #[.bool b,.slice A 0 c,.slice E u v] 40)).alloc (.cells #[.int .i64 0,.string { data := #[] },.int .i64 0] 49) = W at *
 have HL := lit8z (B := w.heap.size + 2) W 0 0 rfl (by rw [← hW]; simp)
 have k3 := bx3.alloc (.cells #[.int .u8 0] 5)
 have hB := bx1.alloc bx1.size (.cells #[.int .u8 0] 5)
 clear hW g1 e1 i1 bx1 bx3
 obtain ⟨sc0,sf0,sc1,sf1,sc2,sf2⟩ := st3 k3 (.int .i64 0) (.string { data := #[] })
 obtain ⟨r0,r1,r2⟩ := (sn3 k3 (.int .i64 0) (.string { data := #[] }) (.int .i64 0)).c3
 have HB := lh9 (bl3 (.int .i64 0) (.string { data := #[] }) (.int .i64 0) (Nat.le_succ _) hB)
 have HR := lh9 ((((HL.set_ (p := ⟨w.heap.size + 1,0,none⟩) (by show w.heap.size + 1 < w.heap.size + 2; omega) (.int .i64 0)).set_ (p := ⟨w.heap.size + 1,1,none⟩) (by show w.heap.size + 1 < w.heap.size + 2; omega) (.string { data := #[] })).set_ (p := ⟨w.heap.size + 1,2,none⟩) (by show w.heap.size + 1 < w.heap.size + 2; omega) (.int .i64 0)).up (B := w.heap.size) (by omega))
 clear k3 hB HL
 go_wp2
 refine bodyPost_ret (v := .tuple #[.slice (some ⟨W.heap.size,0,none⟩) 1 1,.agg #[.int .i64 0,.string { data := #[] },.int .i64 0]]) (by simp [results,Tryz.results14,go_sem,r0,r1,r2]) rfl ?_
 exact ⟨_,rfl,HR.out,HB.out⟩
theorem ziK {w : World} {x : Nat} {A : oA9} {n c : Nat} (h : zaj w x A n c) : Sz n x := by
 have h1 := zaD (b := 65536) (by decide) x
 rw [← h.len] at h1
 exact Nat.lt_of_lt_of_le h1 (Nat.pow_le_pow_left (by decide) n)
theorem zom (r : Rat) (b : Bool) (A : oA9) (n c : Nat) (E : oA9) (u v : Nat) (w : World) (h : zeo w r b A n c E u v) (hn : n ≤ 1048576) (hu : u ≤ 1048576) :
  Calls Tryz.prog 17 #[.agg #[.bool b,.slice A n c,.slice E u v]] w fun e w' => e = .returned (.string (zas (zdM r))) ∧ Below w.heap.size w w' := by
 obtain ⟨bx1,bx2,bz⟩ := zaA w 40 #[.bool b,.slice A n c,.slice E u v]
 have hB := bx1
 have kq := bx2
 obtain ⟨g1,e1,i1⟩ := kq.c3
 have hl1 := zdo (ziK h.1.2)
 have hl2 := zdo (ziK h.2)
 have HT1 := lh9 (fun w' (hb : Below w.heap.size w w') => ziZ r.num.natAbs A n c w' (h.1.2.below hb) hn)
 have HT2 := lh9 (fun w' (hb : Below w.heap.size w w') => ziZ r.den E u v w' (h.2.below hb) hu)
 obtain ⟨o,ho⟩ : ∃ o,decide (r.den = 1) = o := ⟨_,rfl⟩
 have HON := lh9 (fun w' (hb : Below w.heap.size w w') => zgP E u v w' (h.2.below hb) (by omega) ho)
 have HI : Hid (zas (zcx r.num) = bif b then { data := #[45] } ++ zas (zbr r.num.natAbs) else zas (zbr r.num.natAbs)) := by
  show _ = _
  rw [h.1.1]
  unfold zcx
  by_cases hz : r.num < 0
  ·rw [if_pos hz,decide_eq_true hz]
   show zas ([45] ++ zbr r.num.natAbs) = _
   rw [← zie]; rfl
  ·rw [if_neg hz,decide_eq_false hz]; rfl
 have H1 : Hid (o = true → zas (zdM r) = zas (zcx r.num)) := fun h => zjd (of_decide_eq_true (ho.trans h))
 have H2 : Hid (o = false → zas (zdM r) = (zas (zcx r.num) ++ { data := #[47] }) ++ zas (zbr r.den)) := fun h => zif (of_decide_eq_false (ho.trans h))
 have hz1 : (zas (zcx r.num)).size ≤ 67108866 := by
  rw [HI.out]
  have e45 : ({ data := #[45] } : ByteArray).size = 1 := rfl
  cases b
  ·rw [cond_false,zaI]; omega
  ·rw [cond_true,ByteArray.size_append,zaI,e45]; omega
 have hz2 : (zas (zbr r.den)).size ≤ 67108866 := by rw [zaI]; omega
 have hz0 : (zas (zbr r.num.natAbs)).size ≤ 67108866 := by rw [zaI]; omega
 obtain ⟨T1,hT1⟩ : ∃ x,zas (zbr r.num.natAbs) = x := ⟨_,rfl⟩
 obtain ⟨T2,hT2⟩ : ∃ x,zas (zbr r.den) = x := ⟨_,rfl⟩
 obtain ⟨TI,hTI⟩ : ∃ x,zas (zcx r.num) = x := ⟨_,rfl⟩
 obtain ⟨TQ,hTQ⟩ : ∃ x,zas (zdM r) = x := ⟨_,rfl⟩
 rw [hT1] at HT1 HI hz0
 rw [hT2] at HT2 H2 hz2
 rw [hTI] at HI H1 H2 hz1
 rw [hTQ] at H1 H2 ⊢
 have zc : ({ data := #[47] } : ByteArray).size = 1 := rfl
 have zd : ({ data := #[45] } : ByteArray).size = 1 := rfl
 have a0 : ∀ w' : World,(Op.stringOp .add ({ data := #[45] } : ByteArray) T1).run Tryz.prog w' = .ok (.string ({ data := #[45] } ++ T1)) w' := fun w' => run_string_add_sum w' _ _ (by omega)
 have a1 : ∀ w' : World,(Op.stringOp .add TI ({ data := #[47] } : ByteArray)).run Tryz.prog w' = .ok (.string (TI ++ { data := #[47] })) w' := fun w' => run_string_add_sum w' _ _ (by omega)
 obtain ⟨U,hU⟩ : ∃ x,TI ++ ({ data := #[47] } : ByteArray) = x := ⟨_,rfl⟩
 obtain ⟨M,hM⟩ : ∃ x,({ data := #[45] } : ByteArray) ++ T1 = x := ⟨_,rfl⟩
 have z3 : U.size ≤ 67108867 := by rw [← hU,ByteArray.size_append]; omega
 rw [hU] at a1 H2
 rw [hM] at a0 HI
 have a2 : ∀ w' : World,(Op.stringOp .add U T2).run Tryz.prog w' = .ok (.string (U ++ T2)) w' := fun w' => run_string_add_sum w' _ _ (by omega)
 obtain ⟨V,hV⟩ : ∃ x,U ++ T2 = x := ⟨_,rfl⟩
 rw [hV] at a2 H2
 clear h hn hu hl1 hl2 ho hz0 hz1 hz2 hT1 hT2 hTI hTQ hU hM hV z3 zc zd bx1 bx2 bz
 go_enter Tryz.func17,Tryz.ntmps17
 go_wp2_with fail
 refine (HT1.out _ hB).mono ?_
 rintro e w1 ⟨rfl,hb⟩
 have hB := zac hB hb
 have kq := zae hb kq
 clear hb HT1 g1 e1 i1
 obtain ⟨g1,e1,i1⟩ := kq.c3
 go_upto_if 10 with fail
 go_cut [3,11,12] (fun s3 _ _ wx => s3 = .string TI ∧ wx = w1)
 case first =>
  have hi := HI.out
  cases b
  ·go_wp2
   go_meet
   exact ⟨by rw [hi]; rfl,rfl⟩
  ·go_wp2
   go_meet
   exact ⟨by rw [hi]; rfl,rfl⟩
 case rest =>
 obtain ⟨rfl,hwc⟩ := hcut
 subst hwc
 clear HI a0
 go_wp2_with fail
 refine (HON.out _ hB).mono ?_
 rintro e w2 ⟨rfl,hw2⟩
 subst hw2
 clear HON
 cases o with
 | true =>
   have e9 := H1.out rfl
   subst e9
   clear HT2 H2 H1
   go_wp2
   go_ret
   exact ⟨rfl,hB⟩
 | false =>
   have e9 := H2.out rfl
   subst e9
   clear H2 H1
   go_wp2_with fail
   refine (HT2.out _ hB).mono ?_
   rintro e w3 ⟨rfl,hb⟩
   have hB := zac hB hb
   clear HT2 hb g1 e1 i1 kq
   go_wp2
   go_ret
   exact ⟨rfl,hB⟩
theorem szh9 {K n x c : Nat} {A : oA9} {w : World} (h : Sz K x) (k : zaj w x A n c) (e : 4 * K ≤ 1048576) : n ≤ 1048576 := Nat.le_trans (h.holds' k) e
end Go.Proofs.YtfieheffipfahaaGreatDoor
