/- What this claim leans on. -/
import Derived.Test.YtedbgdlbgohiiaaGreatDoorBVOne
namespace Go.Proofs.YtedbgdlbgohiiaaGreatDoor
open Go Go.RowKit
set_option maxHeartbeats 16000000
set_option maxRecDepth 100000
set_option linter.unusedVariables false
set_option linter.unusedSimpArgs false
def badB (M : List (List Rat)) (z : Int) : Bool:=M.any fun L => !decide (((L.length : Nat) : Int) = z)
def zhl (zs : List Int) (m : Nat) : Bool:=zs.any fun z => !inB z m
theorem zjB {α : Type} (p : α → Bool) (xs : List α) (d : α) (k : Nat) (h : k < xs.length) : (xs.take (k + 1)).any p = ((xs.take k).any p || p (xs.getD k d)):=by
 rw [List.take_succ_eq_append_getElem h,List.any_append,List.getD_eq_getElem?_getD,List.getElem?_eq_getElem h]
 simp
theorem any_at {α : Type} (p : α → Bool) (xs : List α) (d : α) (k : Nat) (h : k < xs.length) (hp : p (xs.getD k d) = true) : xs.any p = true:=by
 refine List.any_eq_true.2 ⟨xs.getD k d,?_,hp⟩
 rw [List.getD_eq_getElem?_getD,List.getElem?_eq_getElem h]
 exact List.getElem_mem h
theorem dims_bad {M : List (List Rat)} {n m : Nat} (h : zbP M n m) : badB M (m : Int) = false:=by
 unfold badB
 refine List.any_eq_false.2 fun L hL => ?_
 have:=h.cols L hL
 simp
 omega
theorem ziU {gc q n : Nat} {Q : oA9} {M : List (List Rat)} {z : Int} {w : World} (h : zaE (zaH zai) w Q n M) (hk : Blk w gc 3 #[.int .i64 z]) (hn : n ≤ 1048576) :
  Calls Tryz.prog 120 #[.slice Q n q,.func (.func 89) #[] #[.pointer (some ⟨gc,0,none⟩)]] w (fun e w' => ∃ k : Int,e = .returned (.int .i64 k) ∧ decide (k ≥ 0) = badB M z ∧ Below w.heap.size w w'):=by
 have hl:=h.len
 have HL:=lh9 hl
 have HR:=lh9 h
 have HK:=lh9 (fun w' (hb : Below w.heap.size w w') => zac hb hk)
 have hEn:=en_of1
 have hB:=Below.refl w.heap.size w
 have HS : Hid (∀ k,k < n → (M.take (k + 1)).any (fun L : List Rat => !decide (((L.length : Nat) : Int) = z)) = ((M.take k).any (fun L : List Rat => !decide (((L.length : Nat) : Int) = z)) || (fun L : List Rat => !decide (((L.length : Nat) : Int) = z)) (M.getD k []))):=fun k hk => zjB (fun L : List Rat => !decide (((L.length : Nat) : Int) = z)) M [] k (by omega)
 have HA : Hid (∀ k,k < n → (fun L : List Rat => !decide (((L.length : Nat) : Int) = z)) (M.getD k []) = true → M.any (fun L : List Rat => !decide (((L.length : Nat) : Int) = z)) = true):=fun k hk => any_at (fun L : List Rat => !decide (((L.length : Nat) : Int) = z)) M [] k (by omega)
 have i0 : (0 : Int) ≤ (n : Int):=by omega
 clear h hk hl
 unfold badB
 go_enter Tryz.func120,Tryz.ntmps120
 go_wp2_with fail
 go_loopg [8] (n + 1) (fun g ix wr => ∃ (k : Nat),k ≤ n ∧ n < g + k ∧ ix = .int .i64 k ∧ Hid ((M.take k).any (fun L : List Rat => !decide (((L.length : Nat) : Int) = z)) = false) ∧ Below w.heap.size w wr)
 case atStart => exact ⟨0,Nat.zero_le _,by omega,rfl,rfl,hB⟩
 case round =>
  clear hB
  obtain ⟨k,hkn,hg,rfl,hz0,hB⟩:=hrel
  by_cases hlt : k < n
  ·have hd1 : decide ((k : Int) < (n : Int)) = true:=decide_eq_true (by omega)
   have i1 : (0 : Int) ≤ (k : Int):=by omega
   have i2 : (k : Int) < (n : Int):=by omega
   have HSK:=lh9 (HS.out k hlt)
   have HAK:=lh9 (HA.out k hlt)
   obtain ⟨ad,B,d,rfl,-,hc,-⟩:=HR.out.get (zaA zal) hB hlt rfl
   obtain ⟨L,hL⟩ : ∃ L,M.getD k [] = L:=⟨_,rfl⟩
   rw [hL] at hc
   rw [hL] at HSK HAK
   obtain ⟨b,hb9⟩ : ∃ b,(!decide (((L.length : Nat) : Int) = z)) = b:=⟨_,rfl⟩
   rw [hb9] at HSK HAK
   have HC : ∀ W,Below w.heap.size w W → Hid (Calls Tryz.prog 89 #[.slice B L.length d,.pointer (some ⟨gc,0,none⟩)] W (fun e w' => e = .returned (.bool b) ∧ Below W.heap.size W w')):=fun W hW => by
    have q:=zmJ (V:=B) (cv:=d) (k:=L.length) (HK.out W hW)
    rw [hb9] at q
    exact q
   have HB:=lh9 hB
   clear hB hL
   cases b
   ·go_wp2_with fail
    refine (HC _ HB.out).out.mono ?_
    rintro e w3 ⟨rfl,hb⟩
    have HZ : Hid ((M.take (k + 1)).any (fun L : List Rat => !decide (((L.length : Nat) : Int) = z)) = false):=by show _ = _; rw [HSK.out,hz0.out]; rfl
    have HB2:=lh9 (zaa HB.out hb)
    clear hb hb9 hc HC
    go_wp2
    go_roundg (n - k)
    case measure => omega
    case rel => exact ⟨k + 1,by omega,by omega,by go_num,HZ,HB2.out⟩
   ·go_wp2_with fail
    refine (HC _ HB.out).out.mono ?_
    rintro e w3 ⟨rfl,hb⟩
    have HZ:=lh9 (HAK.out (by first | rfl | trivial))
    have HB2:=lh9 (zaa HB.out hb)
    clear hb hb9 hc HC
    go_wp2
    go_ret
    exact ⟨(k : Int),rfl,by rw [HZ.out]; exact decide_eq_true (by omega),HB2.out⟩
  ·have hd1 : decide ((k : Int) < (n : Int)) = false:=decide_eq_false (by omega)
   have HF : Hid (M.any (fun L : List Rat => !decide (((L.length : Nat) : Int) = z)) = false):=by
    have h1:=hz0.out
    rw [List.take_of_length_le (by have:=HL.out; omega)] at h1
    exact h1
   have HB2:=lh9 hB
   clear hB
   go_wp2
   go_ret
   exact ⟨-1,rfl,by rw [HF.out]; rfl,HB2.out⟩
theorem zea {gc q n : Nat} {Q : oA9} {M : List (List Rat)} {z : Int} {w : World} (h : zaE (zaH zai) w Q n M) (hk : Blk w gc 3 #[.int .i64 z]) (hn : n ≤ 1048576) :
  Calls Tryz.prog 90 #[.slice Q n q,.func (.func 89) #[] #[.pointer (some ⟨gc,0,none⟩)]] w (fun e w' => e = .returned (.bool (badB M z)) ∧ Below w.heap.size w w'):=by
 have H:=lh9 (ziU (q:=q) h hk hn)
 obtain ⟨b,hb⟩ : ∃ b,badB M z = b:=⟨_,rfl⟩
 rw [hb] at H ⊢
 clear h hk hb
 go_enter Tryz.func90,Tryz.ntmps90
 go_wp2_with fail
 refine H.out.mono ?_
 rintro e w1 ⟨k,rfl,hk,hb⟩
 have hk2 : decide (0 ≤ k) = b:=hk
 have HB:=lh9 hb
 clear hb
 go_wp2
 go_ret
 exact ⟨rfl,HB.out⟩
theorem zhS {gc q n m : Nat} {Q A : oA9} {n9 c9 : Nat} {zs : List Int} {w : World} (h : zdH w Q n zs) (hk : Blk w gc 28 #[.slice A n9 c9,.int .i64 (m : Int)]) (hn : n ≤ 1048576) :
  Calls Tryz.prog 121 #[.slice Q n q,.func (.func 92) #[] #[.pointer (some ⟨gc,0,none⟩)]] w (fun e w' => ∃ k : Int,e = .returned (.int .i64 k) ∧ decide (k ≥ 0) = zhl zs m ∧ Below w.heap.size w w'):=by
 have hl:=h.len
 have HL:=lh9 hl
 have HR:=lh9 h
 have HK:=lh9 (fun w' (hb : Below w.heap.size w w') => zac hb hk)
 have hEn:=en_pick1
 have hB:=Below.refl w.heap.size w
 have HS : Hid (∀ k,k < n → (zs.take (k + 1)).any (fun z : Int => !inB z m) = ((zs.take k).any (fun z : Int => !inB z m) || (fun z : Int => !inB z m) (zs.getD k 0))):=fun k hk => zjB (fun z : Int => !inB z m) zs 0 k (by omega)
 have HA : Hid (∀ k,k < n → (fun z : Int => !inB z m) (zs.getD k 0) = true → zs.any (fun z : Int => !inB z m) = true):=fun k hk => any_at (fun z : Int => !inB z m) zs 0 k (by omega)
 have i0 : (0 : Int) ≤ (n : Int):=by omega
 clear h hk hl
 unfold zhl
 go_enter Tryz.func121,Tryz.ntmps121
 go_wp2_with fail
 go_loopg [8] (n + 1) (fun g ix wr => ∃ (k : Nat),k ≤ n ∧ n < g + k ∧ ix = .int .i64 k ∧ Hid ((zs.take k).any (fun z : Int => !inB z m) = false) ∧ Below w.heap.size w wr)
 case atStart => exact ⟨0,Nat.zero_le _,by omega,rfl,rfl,hB⟩
 case round =>
  clear hB
  obtain ⟨k,hkn,hg,rfl,hz0,hB⟩:=hrel
  by_cases hlt : k < n
  ·have hd1 : decide ((k : Int) < (n : Int)) = true:=decide_eq_true (by omega)
   have i1 : (0 : Int) ≤ (k : Int):=by omega
   have i2 : (k : Int) < (n : Int):=by omega
   have HSK:=lh9 (HS.out k hlt)
   have HAK:=lh9 (HA.out k hlt)
   obtain ⟨ad,rfl,hc⟩:=HR.out.num k hlt
   have hc:=zab hB hc
   obtain ⟨L,hL⟩ : ∃ L,zs.getD k 0 = L:=⟨_,rfl⟩
   rw [hL] at hc
   rw [hL] at HSK HAK
   obtain ⟨b,hb9⟩ : ∃ b,(!inB L m) = b:=⟨_,rfl⟩
   rw [hb9] at HSK HAK
   have HC : ∀ W,Below w.heap.size w W → Hid (Calls Tryz.prog 92 #[.int .i64 L,.pointer (some ⟨gc,0,none⟩)] W (fun e w' => e = .returned (.bool b) ∧ Below W.heap.size W w')):=fun W hW => by
    have q:=zkP (z:=L) (HK.out W hW)
    rw [hb9] at q
    exact q
   have HB:=lh9 hB
   clear hB hL
   cases b
   ·go_wp2_with fail
    refine (HC _ HB.out).out.mono ?_
    rintro e w3 ⟨rfl,hb⟩
    have HZ : Hid ((zs.take (k + 1)).any (fun z : Int => !inB z m) = false):=by show _ = _; rw [HSK.out,hz0.out]; rfl
    have HB2:=lh9 (zaa HB.out hb)
    clear hb hb9 hc HC
    go_wp2
    go_roundg (n - k)
    case measure => omega
    case rel => exact ⟨k + 1,by omega,by omega,by go_num,HZ,HB2.out⟩
   ·go_wp2_with fail
    refine (HC _ HB.out).out.mono ?_
    rintro e w3 ⟨rfl,hb⟩
    have HZ:=lh9 (HAK.out (by first | rfl | trivial))
    have HB2:=lh9 (zaa HB.out hb)
    clear hb hb9 hc HC
    go_wp2
    go_ret
    exact ⟨(k : Int),rfl,by rw [HZ.out]; exact decide_eq_true (by omega),HB2.out⟩
  ·have hd1 : decide ((k : Int) < (n : Int)) = false:=decide_eq_false (by omega)
   have HF : Hid (zs.any (fun z : Int => !inB z m) = false):=by
    have h1:=hz0.out
    rw [List.take_of_length_le (by have:=HL.out; omega)] at h1
    exact h1
   have HB2:=lh9 hB
   clear hB
   go_wp2
   go_ret
   exact ⟨-1,rfl,by rw [HF.out]; rfl,HB2.out⟩
theorem zfX {gc q n m : Nat} {Q A : oA9} {n9 c9 : Nat} {zs : List Int} {w : World} (h : zdH w Q n zs) (hk : Blk w gc 28 #[.slice A n9 c9,.int .i64 (m : Int)]) (hn : n ≤ 1048576) :
  Calls Tryz.prog 93 #[.slice Q n q,.func (.func 92) #[] #[.pointer (some ⟨gc,0,none⟩)]] w (fun e w' => e = .returned (.bool (zhl zs m)) ∧ Below w.heap.size w w'):=by
 have H:=lh9 (zhS (q:=q) h hk hn)
 obtain ⟨b,hb⟩ : ∃ b,zhl zs m = b:=⟨_,rfl⟩
 rw [hb] at H ⊢
 clear h hk hb
 go_enter Tryz.func93,Tryz.ntmps93
 go_wp2_with fail
 refine H.out.mono ?_
 rintro e w1 ⟨k,rfl,hk,hb⟩
 have hk2 : decide (0 ≤ k) = b:=hk
 have HB:=lh9 hb
 clear hb
 go_wp2
 go_ret
 exact ⟨rfl,HB.out⟩
section
variable {Q : oA9} {n q : Nat} {M : List (List Rat)} {z : Int} {w : World}
theorem znf (h : zaE (zaH zai) w Q n M) (hn : n ≤ 1048576) (hno : zeH (n : Int) z = false ∨ badB M z = true) : Calls Tryz.prog 50 #[.int .i64 z,.slice Q n q] w (zdu w):=by
 have hmf:=zlp
 obtain ⟨bx1,bx2,bx3,bx4,bz⟩:=zbh w 3 26 28 #[.int .i64 z] #[.slice Q n q] #[.slice none 0 0,.int .i64 0]
 have y0:=bx2.c1
 have y1:=bx3.c1
 by_cases hm : zeH (n : Int) z = true
 ·have hb : badB M z = true:=by
   rcases hno with h1 | h1
   ·rw [hm] at h1; cases h1
   ·exact h1
  have H:=fun W => lh9 (zgc hm W)
  have HC:=lh9 (zea (q:=q) (h.below (zaA zal) bx1) bx2 hn)
  rw [hb] at HC
  have HK:=lh9 bx4
  have HB:=lh9 bx1
  clear h hno bx1 bx2 bx3 bx4 bz hm hb
  go_enter Tryz.func50,Tryz.ntmps50
  go_wp2_with fail
  refine (H _).out.mono ?_
  rintro e w1 ⟨rfl,rfl⟩
  go_wp2_with fail
  refine HC.out.mono ?_
  rintro e w1 ⟨rfl,hb⟩
  have hk3:=zac hb HK.out
  obtain ⟨sc0,sf0,sc1,sf1⟩:=st2 hk3 (.slice none 0 0)
  obtain ⟨r0,r1⟩:=(sn2 hk3 (.slice none 0 0) (.int .i64 0)).c2
  have HG:=lh9 (gmn2 (g:=w.heap.size + 1 + 1) (zaa HB.out hb) (by omega))
  clear hb hk3 HK HB y0 y1
  go_wp2
  refine bodyPost_ret (v:=.tuple #[.agg #[.slice none 0 0,.int .i64 0],.bool false]) (by simp [results,Tryz.results50,go_sem,r0,r1]) rfl ?_
  exact HG.out
 ·have H:=fun W => lh9 (zgc (by cases h : zeH (n : Int) z; rfl; exact absurd h hm) W)
  obtain ⟨g0,g1⟩:=bx4.c2
  have HB:=lh9 bx1
  clear h hno bx1 bx2 bx3 bx4 bz hm
  go_enter Tryz.func50,Tryz.ntmps50
  go_wp2_with fail
  refine (H _).out.mono ?_
  rintro e w1 ⟨rfl,rfl⟩
  go_wp2
  refine bodyPost_ret (v:=.tuple #[.agg #[.slice none 0 0,.int .i64 0],.bool false]) (by simp [results,Tryz.results50,go_sem,g0,g1]) rfl ?_
  exact ⟨rfl,HB.out⟩
theorem ziY {m K : Nat} (hT : zaj w) (h : zaE (zaH zai) w Q n M) (hd : zbP M n m) (hn : n ≤ 64) (hm : m ≤ 64) (z : zau K M) (hK : K + 2 ≤ 67108864:=by omega) : Calls Tryz.prog 50 #[.int .i64 (m : Int),.slice Q n q] w (zbq w n m M):=by
 have hmf:=zlp
 obtain ⟨bx1,bx2,bx3,bx4,bz⟩:=zbh w 3 26 28 #[.int .i64 (m : Int)] #[.slice Q n q] #[.slice none 0 0,.int .i64 0]
 have H:=fun W => lh9 (zgc (zfB hn hm) W)
 have hc:=zea (q:=q) (h.below (zaA zal) bx1) bx2 (by omega)
 rw [dims_bad hd] at hc
 have HC:=lh9 hc
 have HM : Hid (∀ W,Below w.heap.size w W → Blk W (w.heap.size + 1) 26 #[.slice Q n q] → Calls Tryz.prog 56 #[.int .i64 (n : Int),.int .i64 (m : Int),.func (.func 91) #[] #[.pointer (some ⟨w.heap.size + 1,0,none⟩)]] W (zba W n m M)):=fun W hW hk => by
  have hh:=h.below (zaA zal) hW
  have q9:=zcZ (K:=K) (atM M) 91 #[.pointer (some ⟨w.heap.size + 1,0,none⟩)] n m W (hT.on hW) ⟨en_of2,fun r c hr hc w' hb => cl_of (hh.below (zaA zal) hb) hd (zac hb hk) hr hc⟩ (fun r c hr hc => z.at_ hd hr hc) hn hm hK
  rw [hd.eq] at q9
  exact q9
 have HK:=lh9 bx4
 have HS:=lh9 bx3
 have HB:=lh9 bx1
 have y0:=bx2.c1
 have y1:=bx3.c1
 have hl0:=bx2.lt
 have HKI:=lh9 bx2
 clear bx1 bx2 bx3 bx4 bz hT h z hd hc
 go_enter Tryz.func50,Tryz.ntmps50
 go_wp2_with fail
 refine (H _).out.mono ?_
 rintro e w1 ⟨rfl,rfl⟩
 go_wp2_with fail
 refine HC.out.mono ?_
 rintro e w1 ⟨rfl,hb⟩
 have HB1:=lh9 (zaa HB.out hb)
 have HK1:=lh9 (zac hb HK.out)
 have HS1:=lh9 (zac hb HS.out)
 have y0:=(zac hb HKI.out).c1
 have y1:=HS1.out.c1
 clear hb HB HK HS HKI HC H
 go_wp2_with fail
 refine (HM.out _ HB1.out HS1.out).mono ?_
 clear y0 y1
 rintro e w3 ⟨A3,c3,rfl,hm3,hf3,hb⟩
 have hk3:=zac hb HK1.out
 obtain ⟨sc0,sf0,sc1,sf1⟩:=st2 hk3 (.slice A3 n c3)
 obtain ⟨r0,r1⟩:=(sn2 hk3 (.slice A3 n c3) (.int .i64 (m : Int))).c2
 have HG:=lh9 (gmb2 hm3 (fun ad e => Nat.lt_of_lt_of_le HK1.out.lt (hf3 ad e)) hk3 (zaa HB1.out hb) (by omega))
 clear hb hk3 hm3 hf3 HK1 HB1 HM HS1
 go_wp2
 refine bodyPost_ret (v:=.tuple #[.agg #[.slice A3 n c3,.int .i64 (m : Int)],.bool true]) (by simp [results,Tryz.results50,go_sem,r0,r1]) rfl ?_
 exact HG.out
end
end Go.Proofs.YtedbgdlbgohiiaaGreatDoor
