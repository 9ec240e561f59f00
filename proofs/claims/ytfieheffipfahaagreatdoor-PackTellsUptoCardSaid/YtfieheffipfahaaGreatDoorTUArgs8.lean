/- What this claim leans on. -/
import Derived.Test.YtfieheffipfahaaGreatDoorTJ9Put
import Derived.Test.YtfieheffipfahaaGreatDoorTBun7b
import Derived.ChangeMaps5
namespace Go.Proofs.YtfieheffipfahaaGreatDoor
open Go Go.RowKit
open Go.ChangeShapes Go.WideShapes Go.ChangeAt
set_option maxHeartbeats 16000000
set_option linter.unusedVariables false
structure ArgBytes (W : World) (A : oA9) (n c : Nat) (l : List Nat) : Prop where
 reads : zan W W.heap.size 1 A n (zam .u8 l)
 dgs : Dgs 256 l
 fits : n ≤ c
 small : c ≤ 1048576
theorem arg_bytes {H : Type} {enc : TypeId × Value → H} {P : Program} {W : World} {fuel : Nat} {t e : TypeId} {A : oA9} {n c : Nat} {x : DataW H × List MemPlace} (ht : P.underlying t = some (.slice e)) (he : P.underlying e = some (.int .u8)) (hc : P.cellsOf e = 1)
  (h : DataW.trod enc P W 0 (fun _ => true) true fuel t (Value.slice A n c).cells.toList = some x) (hb : Rows.uptoBulk x.1 ≤ 1048576) : ∃ l,ArgBytes W A n c l := by
 rcases open_ints ht he hc h with ⟨hcs,_⟩ | ⟨a,len,cap,zs,hcs,_,hl,hm,hz,hx,hcell,hwz⟩
 ·simp [Value.cells] at hcs
  obtain ⟨rfl,rfl,rfl⟩ := hcs
  exact ⟨[],⟨zan.none_,by intro d hd; simp at hd,Nat.le_refl _,by omega⟩⟩
 ·simp [Value.cells] at hcs
  obtain ⟨rfl,rfl,rfl⟩ := hcs
  have hz' : zs.length = c := by simpa using hz
  subst hx
  have hs := UA.slice_le (H := H) (lits .u8 (zs.take n)) (lits .u8 (zs.drop n))
  have hlen : (lits (H := H) .u8 (zs.take n)).length + (lits (H := H) .u8 (zs.drop n)).length = c := by
   simp [lits]; omega
  have hb' : Rows.uptoBulk (DataW.slice (lits (H := H) .u8 (zs.take n)) (lits (H := H) .u8 (zs.drop n))) ≤ 1048576 := hb
  refine ⟨(zs.take n).map Int.toNat,⟨?_,?_,hl,?_⟩⟩
  ·refine ⟨by simp [zam]; omega,fun hn => ⟨a,rfl,?_,fun j u hu => ?_⟩⟩
   ·have h0 := hcell 0 (by omega)
    have := World.block_lt_of_cell? W _ h0
    rw [zaz] at this
    exact this
   ·have hj : j < n := by
     have := (List.getElem?_eq_some_iff.1 hu).1
     simp [zam] at this; omega
    rw [hcell j (by omega),← hu]
    have hw := hwz (zs.getD j 0) (by rw [List.getD_eq_getElem?_getD,List.getElem?_eq_getElem (by omega)]; exact List.getElem_mem (by omega))
    have hb0 := bounds_u8 hw
    simp only [zam,List.getElem?_map,List.getElem?_take,if_pos hj,List.getElem?_eq_getElem (show j < zs.length by omega),Option.map_some,Option.some.injEq,Value.int.injEq,true_and]
    rw [List.getD_eq_getElem?_getD,List.getElem?_eq_getElem (show j < zs.length by omega)] at hb0 ⊢
    simp at hb0 ⊢
    omega
  ·intro d hd
   obtain ⟨z,hz2,rfl⟩ := List.mem_map.1 hd
   have := bounds_u8 (hwz z (List.mem_of_mem_take hz2))
   omega
  ·omega
end Go.Proofs.YtfieheffipfahaaGreatDoor
namespace Go.Proofs.YtfieheffipfahaaGreatDoor
open Go Go.RowKit
set_option maxHeartbeats 16000000
set_option linter.unusedVariables false
theorem arg_ref2 {w : World} {A : oA9} {n c : Nat} {l : List Nat} (h : zav w A n c l) : ∀ w',Below w.heap.size w w' → Calls Tryz.prog 39 #[.slice A n c] w' (zbc w' (dv 18446744073709551616 l)) := fun w' hb =>
 zjV A n c l w' ((h.reads.below hb).more hb.size) h.dgs (by have := h.small; have := h.fits; omega)
theorem Sz.len16' {K x : Nat} (h : Sz K x) : (dg 65536 x).length ≤ 4 * K := zaF (by decide) _ _ (by rw [zeA]; exact h)
theorem Sz.holds' {K x : Nat} (h : Sz K x) {w : World} {A : oA9} {n c : Nat} (hw : zaj w x A n c) : n ≤ 4 * K := by rw [hw.len]; exact h.len16'
end Go.Proofs.YtfieheffipfahaaGreatDoor
namespace Go.Proofs.YtfieheffipfahaaGreatDoor
open Go Go.RowKit
set_option maxHeartbeats 16000000
set_option maxRecDepth 100000
set_option linter.unusedVariables false
end Go.Proofs.YtfieheffipfahaaGreatDoor
namespace Go.Proofs.YtfieheffipfahaaGreatDoor
open Go Go.RowKit
set_option maxHeartbeats 16000000
set_option maxRecDepth 100000
set_option linter.unusedVariables false
set_option linter.unusedSimpArgs false
theorem zaf.to8 {w : World} {x y : Nat} {A : oA9} {n c : Nat} (e : x = y) (h : zaf w x A n c) : zaf w y A n c := e ▸ h
theorem zaw.to8 {w : World} {x y : Int} {b : Bool} {A : oA9} {n c : Nat} (e : x = y) (h : zaw w x b A n c) : zaw w y b A n c := e ▸ h
theorem zoA (x : Nat) (A : oA9) (n c : Nat) (w : World) (h : zaf w x A n c) (hn : n ≤ 1099511627776) :
  Calls Tryz.prog 75 #[.agg #[.slice A n c]] w fun e w' => ∃ (B : oA9) (m d : Nat),e = .returned (.slice B m d) ∧ zaf w' x B m d ∧ Below w.heap.size w w' := by
 refine (zdc x A n c w h hn).mono ?_
 rintro e w' ⟨B,d,rfl,h1,h2,h3,h4⟩
 exact ⟨B,_,d,rfl,⟨h1,h2,h3.1⟩,h4⟩
theorem znx {P : Program} {f : FuncId} {args : Array Value} {w : World} {z v : Int} (e : z = v) (h : Calls P f args w fun e w' => e = .returned (.tuple #[.int .u64 z,.bool true]) ∧ Below w.heap.size w w') : Calls P f args w fun e w' => e = .returned (.tuple #[.int .u64 v,.bool true]) ∧ Below w.heap.size w w' := by
 subst e; exact h
theorem zku (x : Nat) (A : oA9) (n c : Nat) (w : World) (hA : zaf w x A n c) (hn : n ≤ 1099511627776) : Calls Tryz.prog 29 #[.agg #[.slice A n c]] w (zdF w ((bitLen x : Nat) : Int)) := zfP x A n c w hA hn
theorem zaE {K q x : Nat} (h : Sz K q) (e : q = (if x = 0 then 1 else x) ∧ x ≠ 1) : Sz K x := h.of_le (by rw [e.1]; split <;> omega)
theorem zaU {w : World} {r : Rat} {b : Bool} {A : oA9} {n c : Nat} {E : oA9} {k f K : Nat} (h : zau w r b A n c E k f) (q : zbg n k) (hK : 67108864 = K) : SzQ K r := by
 obtain ⟨x,e,hx⟩ := h.2
 have h1 : Sz K r.num.natAbs := Sz.of_words h.1.2 (by have := q.1; omega)
 have h2 : Sz K x := Sz.of_words hx (by have := q.2; omega)
 refine ⟨h1,?_⟩
 rw [e.1]
 split
 ·exact zck (by omega)
 ·exact h2
theorem zcl (w : World) : zaf w 0 none 0 0 := by
 refine ⟨⟨by rw [show dg 18446744073709551616 0 = [] from by rw [dg]; rfl]; rfl,fun h => absurd h (by decide)⟩,Nat.le_refl _,by decide⟩
theorem zdv (w : World) : zau w (0 : Rat) false none 0 0 none 0 0 := ⟨⟨rfl,zcl w⟩,⟨0,⟨rfl,by decide⟩,zcl w⟩⟩
theorem zoi {w : World} {r : Rat} {z : Int} {b : Bool} {A : oA9} {n c : Nat} {E : oA9} {k f : Nat} (hn : r.num = z) (hd : r.den = 1) (h : zaw w z b A n c) (q : zaf w 0 E k f) : zau w r b A n c E k f :=
 ⟨by rw [hn]; exact h,⟨0,⟨by rw [hd]; rfl,by decide⟩,q⟩⟩
theorem zhY {w : World} {r : Rat} {z : Int} {y : Nat} {b : Bool} {A : oA9} {n c : Nat} {E : oA9} {k f : Nat} (hn : r.num = z) (hd : r.den = y) (hy : y ≠ 1) (h : zaw w z b A n c) (q : zaf w y E k f) : zau w r b A n c E k f :=
 ⟨by rw [hn]; exact h,⟨y,⟨by rw [if_neg (fun h0 => r.den_nz (by rw [hd,h0]))]; exact hd,hy⟩,q⟩⟩
theorem zfq {q x : Nat} (e : q = (if x = 0 then 1 else x) ∧ x ≠ 1) (h : q = 1) : x = 0 := by
 refine Decidable.byContradiction fun h0 => ?_
 rw [if_neg h0] at e
 omega
theorem zdw {q x : Nat} (e : q = (if x = 0 then 1 else x) ∧ x ≠ 1) (h : q ≠ 1) : x ≠ 0 ∧ x = q := by
 have h0 : x ≠ 0 := fun h0 => h (by rw [e.1,if_pos h0])
 refine ⟨h0,?_⟩
 have := e.1
 rw [if_neg h0] at this
 exact this.symm
theorem zoo (z : Int) : zcb (decide (z < 0)) z.natAbs = z := by
 unfold zcb
 by_cases h : z < 0
 ·rw [decide_eq_true h,if_pos rfl]; omega
 ·rw [decide_eq_false h,if_neg (by decide)]; omega
theorem znZ {w : World} {x : Nat} {A : oA9} {n c : Nat} (h : zaf w x A n c) (hn : n ≤ 1) : x < 18446744073709551616 := zhO h.len hn
theorem len_one {w : World} {x : Nat} {A : oA9} {n c : Nat} (h : zaf w x A n c) (hx : x = 1) : n ≤ 1 := by
 have h1 : Sz 1 x := by rw [hx]; exact zck (by decide)
 exact h1.words h
theorem zmu (p d : Int) (hd : d ≠ 0) : (Rat.divInt p d).num = zcb (decide (p < 0) != decide (d < 0)) (p.natAbs / Nat.gcd p.natAbs d.natAbs) ∧ (Rat.divInt p d).den = d.natAbs / Nat.gcd p.natAbs d.natAbs := by
 refine ⟨?_,zkT p d hd⟩
 have h1 := zkU p d hd
 have h2 := ziP p d hd
 rw [← h1]
 generalize (Rat.divInt p d).num = z at *
 unfold zcb
 by_cases hp : p < 0
 ·by_cases hq : d < 0
  ·rw [decide_eq_true hp,decide_eq_true hq]; simp; omega
  ·rw [decide_eq_true hp,decide_eq_false hq]; simp; omega
 ·by_cases hq : d < 0
  ·rw [decide_eq_false hp,decide_eq_true hq]; simp
   by_cases h0 : p = 0
   ·subst h0; simp at h1; omega
   ·omega
  ·rw [decide_eq_false hp,decide_eq_false hq]; simp; omega
end Go.Proofs.YtfieheffipfahaaGreatDoor
namespace Go.Proofs.YtfieheffipfahaaGreatDoor
open Go Go.RowKit
set_option maxHeartbeats 16000000
set_option maxRecDepth 100000
set_option linter.unusedVariables false
set_option linter.unusedSimpArgs false
theorem zmx (z : Int) (baa : Bool) (Baa : oA9) (maa daa : Nat) (w : World) (hT : zap w) (haa : zaw w z baa Baa maa daa) (qaa : maa ≤ 268435456) :
  Calls Tryz.prog 71 #[.agg #[.bool baa,.slice Baa maa daa]] w (zbA w z) := by
 have HIC := lh9 (zbD (T := zap))
 have HGC := lh9 zdA
 have HT := lh9 (fun w' (hb : Below w.heap.size w w') => hT.on hb)
 have HTB := HT
 obtain ⟨K,hKe⟩ : ∃ K,268435456 = K := ⟨_,rfl⟩
 have hKK : K ≤ 268435456 := by omega
 have hK0 : 0 < K := by omega
 have HV := lh9 (zoo z)
 obtain ⟨sb,hsb⟩ : ∃ s,decide (z < 0) = s := ⟨_,rfl⟩
 rw [hsb] at HV
 have HSB := lh9 hsb
 clear hsb
 have HNaa := lh9 (fun w' (b : Below w.heap.size w w') => haa.below b)
 have HZaa : Hid (Sz K z.natAbs) := Sz.of_words haa.words (by omega)
 clear haa qaa
 clear hT hKe
 go_enter Tryz.func71,Tryz.ntmps71
 have hB := Below.refl w.heap.size w
 obtain ⟨bx1,bx2,bx3,bz⟩ := zbQ w 31 31 #[.bool baa,.slice Baa maa daa] #[.bool false,.slice none 0 0]
 have hB := zac hB bx1
 obtain ⟨g1,e1⟩ := bx2.c2
 have k2 := bx3
 clear bx1 bx2 bx3 bz
 go_wp2_with fail
 generalize (w.alloc (.cells #[.bool baa,.slice Baa maa daa] 31)).alloc (.cells #[.bool false,.slice none 0 0] 31) = W1 at *
 have C0 := lh9 (fun w' (h : Below W1.heap.size W1 w') => zaO (HSB.out) (HIC.out.belowI (z) baa Baa maa daa w' (HT.out _ (zac hB h)) (HNaa.out _ (zac hB h)) (szi HZaa (HNaa.out _ hB))))
 have HZ3 : Hid (Sz (K) (z.natAbs)) := HZaa.out
 have C1 := lh9 (fun w' (h : Below W1.heap.size W1 w') => HIC.out.abs (z) baa Baa maa daa w' (HT.out _ (zac hB h)) (HNaa.out _ (zac hB h)) (szi HZaa (HNaa.out _ hB)))
 have HZ4 : Hid (Sz (K) (zcb sb z.natAbs).natAbs) := (by rw [zeG]; exact HZ3.out)
 have C2 := lh9 (fun w' (h : Below W1.heap.size W1 w') B3 m3 d3 (hw3 : zaf w' (z.natAbs) B3 m3 d3) => HIC.out.new sb (z.natAbs) B3 m3 d3 w' (HT.out _ (zac hB h)) hw3 (szw HZ3 hw3))
 have hBw := (Below.refl W1.heap.size W1).drew
 refine rg (csc g1 (csc e1 csn)) (fun hHeld => ?_)
 refine tk 0 ?_
 refine tk 2 ?_
 refine rc 1 (fun K hK => ?_)
 go_simp
 go_at_call 83; (with_reducible refine (C0.out _ hBw).mono ?_); rintro e wa2 ⟨rfl,hb⟩; have hBw := zac hBw hb; refine hK.out _ _ (Cs.below hHeld hb) (fun hHeld => ?_); clear hK K hb
 try simp only [sb9]
 refine rc 3 (fun K hK => ?_)
 go_simp
 go_at_call 28; (with_reducible refine (C1.out _ hBw).mono ?_); rintro e wa3 ⟨B3,m3,d3,rfl,hw3,hb⟩; have hBw := zac hBw hb; refine hK.out _ _ (Cs.below hHeld hb) (fun hHeld => ?_); clear hK K hb
 try simp only [sb9]
 refine rc 4 (fun K hK => ?_)
 go_simp
 go_at_call 38; (with_reducible refine (C2.out _ hBw _ _ _ hw3).mono ?_); rintro e wa4 ⟨b4,B4,m4,d4,rfl,hw4,hb⟩; have hBw := zac hBw hb; have hw3 := hw3.below hb; refine hK.out _ _ (Cs.below hHeld hb) (fun hHeld => ?_); clear hK K hb
 try simp only [sb9]
 obtain ⟨sc0,sf0,sc1,sf1⟩ := st2 (zae hBw k2) (.bool b4)
 refine rc 5 (fun K hK => ?_)
 go_simp
 refine hK.out _ _ (cs2 (.bool b4) (.slice B4 m4 d4) hHeld) (fun hHeld => ?_); clear hK K
 try simp only [sb9]
 refine rdn ?_
 have hB := zac hB hBw
 have g1 := zad hBw g1
 have e1 := zad hBw e1
 have k2 := zae hBw k2
 have HN3 := lh9 hw3
 have HN4 := lh9 hw4
 clear hBw hHeld hw3 hw4 C0 C1 C2
 obtain ⟨r0,r1⟩ := (sn2 k2 (.bool b4) (.slice B4 m4 d4)).c2
 have HG := lh9 (gi2 (zaw.to8 HV.out HN4.out) k2 hB (by omega))
 go_wp2
 refine bodyPost_ret (v := .agg #[.bool b4,.slice B4 m4 d4]) (by simp [results,Tryz.results71,go_sem,r0,r1]) rfl ?_
 exact HG.out
theorem zlm (r : Rat) (baa : Bool) (Baa : oA9) (maa daa : Nat) (Eaa : oA9) (uaa vaa : Nat) (w : World) (hT : zap w) (haa : zau w r baa Baa maa daa Eaa uaa vaa) (qaa : zbg maa uaa) (hd : r.den = 1) :
  Calls Tryz.prog 31 #[.agg #[.bool baa,.slice Baa maa daa,.slice Eaa uaa vaa]] w (fun e w' => e = .returned (.bool true) ∧ Below w.heap.size w w') := by
 have HIC := lh9 (zbD (T := zap))
 have HGC := lh9 zdA
 have HT := lh9 (fun w' (hb : Below w.heap.size w w') => hT.on hb)
 have HTB := HT
 obtain ⟨K,hKe⟩ : ∃ K,67108864 = K := ⟨_,rfl⟩
 have hKK : K ≤ 67108864 := by omega
 have hK0 : 0 < K := by omega
 have HNaa := lh9 (fun w' (b : Below w.heap.size w w') => haa.below b)
 obtain ⟨xaa,hxaa,hxwaa⟩ := haa.2
 have HXaa := lh9 hxaa
 have HZaa : Hid (SzQ K r) := zaU haa qaa hKe
 have HZaap : Hid (Sz K r.num.natAbs) := HZaa.out.num
 have HZaaq : Hid (Sz K xaa) := zaE HZaa.out.den hxaa
 have HNaap := lh9 (fun w' (b : Below w.heap.size w w') => haa.1.below b)
 have HNaaq := lh9 (fun w' (b : Below w.heap.size w w') => hxwaa.below b)
 clear haa qaa hxaa hxwaa
 have HX0 := lh9 (zfq HXaa.out hd)
 clear hT hKe hd
 go_enter Tryz.func31,Tryz.ntmps31
 have hB := Below.refl w.heap.size w
 obtain ⟨bx1,bx2,bz⟩ := zaA w 33 #[.bool baa,.slice Baa maa daa,.slice Eaa uaa vaa]
 have hB := zac hB bx1
 obtain ⟨g1,e1,i1⟩ := bx2.c3
 clear bx1 bx2 bz
 go_wp2_with fail
 generalize w.alloc (.cells #[.bool baa,.slice Baa maa daa,.slice Eaa uaa vaa] 33) = W1 at *
 (with_reducible refine (zbI HX0.out (HNaaq.out _ hB)).mono ?_)
 rintro e wc2 ⟨rfl,hb⟩
 have hB := zac hB hb
 have g1 := zad hb g1
 have e1 := zad hb e1
 have i1 := zad hb i1
 clear hb 
 go_wp2
 go_ret
 exact ⟨by first | rfl | simp,hB⟩
theorem zll (r : Rat) (baa : Bool) (Baa : oA9) (maa daa : Nat) (Eaa : oA9) (uaa vaa : Nat) (w : World) (hT : zap w) (haa : zau w r baa Baa maa daa Eaa uaa vaa) (qaa : zbg maa uaa) (hd : r.den ≠ 1) :
  Calls Tryz.prog 31 #[.agg #[.bool baa,.slice Baa maa daa,.slice Eaa uaa vaa]] w (fun e w' => e = .returned (.bool false) ∧ Below w.heap.size w w') := by
 have HIC := lh9 (zbD (T := zap))
 have HGC := lh9 zdA
 have HT := lh9 (fun w' (hb : Below w.heap.size w w') => hT.on hb)
 have HTB := HT
 obtain ⟨K,hKe⟩ : ∃ K,67108864 = K := ⟨_,rfl⟩
 have hKK : K ≤ 67108864 := by omega
 have hK0 : 0 < K := by omega
 have HNaa := lh9 (fun w' (b : Below w.heap.size w w') => haa.below b)
 obtain ⟨xaa,hxaa,hxwaa⟩ := haa.2
 have HXaa := lh9 hxaa
 have HZaa : Hid (SzQ K r) := zaU haa qaa hKe
 have HZaap : Hid (Sz K r.num.natAbs) := HZaa.out.num
 have HZaaq : Hid (Sz K xaa) := zaE HZaa.out.den hxaa
 have HNaap := lh9 (fun w' (b : Below w.heap.size w w') => haa.1.below b)
 have HNaaq := lh9 (fun w' (b : Below w.heap.size w w') => hxwaa.below b)
 clear haa qaa hxaa hxwaa
 have HX0 := lh9 (zdw HXaa.out hd).1
 clear hT hKe hd
 go_enter Tryz.func31,Tryz.ntmps31
 have hB := Below.refl w.heap.size w
 obtain ⟨bx1,bx2,bz⟩ := zaA w 33 #[.bool baa,.slice Baa maa daa,.slice Eaa uaa vaa]
 have hB := zac hB bx1
 obtain ⟨g1,e1,i1⟩ := bx2.c3
 clear bx1 bx2 bz
 go_wp2_with fail
 generalize w.alloc (.cells #[.bool baa,.slice Baa maa daa,.slice Eaa uaa vaa] 33) = W1 at *
 (with_reducible refine (zbX HX0.out (HNaaq.out _ hB)).mono ?_)
 rintro e wc2 ⟨rfl,hb⟩
 have hB := zac hB hb
 have g1 := zad hb g1
 have e1 := zad hb e1
 have i1 := zad hb i1
 clear hb 
 go_wp2
 go_ret
 exact ⟨by first | rfl | simp,hB⟩
theorem zbj (r : Rat) (baa : Bool) (Baa : oA9) (maa daa : Nat) (Eaa : oA9) (uaa vaa : Nat) (w : World) (hT : zap w) (haa : zau w r baa Baa maa daa Eaa uaa vaa) (qaa : zbg maa uaa) :
  Calls Tryz.prog 31 #[.agg #[.bool baa,.slice Baa maa daa,.slice Eaa uaa vaa]] w (fun e w' => e = .returned (.bool (decide (r.den = 1))) ∧ Below w.heap.size w w') := by
 by_cases hd : r.den = 1
 ·rw [decide_eq_true hd]; exact zlm r baa Baa maa daa Eaa uaa vaa w hT haa qaa hd
 ·rw [decide_eq_false hd]; exact zll r baa Baa maa daa Eaa uaa vaa w hT haa qaa hd
end Go.Proofs.YtfieheffipfahaaGreatDoor
namespace Go.Proofs.YtfieheffipfahaaGreatDoor
open Go Go.RowKit
set_option maxHeartbeats 16000000
set_option maxRecDepth 100000
set_option linter.unusedVariables false
theorem zjW (x y : Nat) (A D : oA9) (n m c d : Nat) (w : World) (hA : zaj w x A n c) (hD : zaj w y D m d) (hn : n ≤ 1073741824) (hm : m ≤ 1073741824) :
  Calls Tryz.prog 53 #[.slice A n c,.slice D m d] w (GivesH w (Nat.gcd x y)) := by
 by_cases hx : x = 0
 ·have e : n = 0 := by rw [hA.len,hx,zbV]; rfl
  have HD := lh9 hD
  have hg : Nat.gcd x y = y := by rw [hx,Nat.gcd_zero_left]
  rw [hg]
  subst e
  clear hA hD hx hg
  go_enter Tryz.func53,Tryz.ntmps53
  go_wp2
  go_ret
  exact ⟨D,m,d,rfl,HD.out,Below.refl _ _⟩
 ·by_cases hy : y = 0
  ·have e : m = 0 := by rw [hD.len,hy,zbV]; rfl
   have hn0 := zdI hA hx
   have z1 : ((n : Int) == 0) = false := by simp; omega
   have HA := lh9 hA
   have hg : Nat.gcd x y = x := by rw [hy,Nat.gcd_zero_right]
   rw [hg]
   subst e
   clear hA hD hx hy hg hn0
   go_enter Tryz.func53,Tryz.ntmps53
   go_wp2
   go_ret
   exact ⟨A,n,c,rfl,HA.out,Below.refl _ _⟩
  ·refine (ref5_gcd x y A D n m c d w hA hD hn hm hx hy).mono fun e w' hg => ?_
   obtain ⟨A',n',c',he,hh,hb⟩ := hg.elim
   exact ⟨A',n',c',he,hh,hb⟩
end Go.Proofs.YtfieheffipfahaaGreatDoor
