/- What this claim leans on. -/
import Derived.Test.YtkiedljcgkoaiaaGreatDoorRD8Form
import Derived.Test.YtkiedljcgkoaiaaGreatDoorRBunU
import Derived.Laws.Concat
namespace Go.Proofs.YtkiedljcgkoaiaaGreatDoor
open Go Go.RowKit
open Go.ChangeShapes Go.WideShapes Go.ChangeAt
set_option maxHeartbeats 16000000
set_option linter.unusedVariables false
namespace UA
set_option maxHeartbeats 16000000
theorem one_le {H : Type} (d : DataW H) : 1 ≤ Rows.uptoBulk d:=by
 cases d with
 | lit l => cases l <;> simp [Rows.uptoBulk]
 | nil => simp [Rows.uptoBulk]
 | ptr d => simp [Rows.uptoBulk]
 | slice elems spare => simp [Rows.uptoBulk]
 | agg parts => simp [Rows.uptoBulk]
 | iface t d => simp [Rows.uptoBulk]
 | map entries => simp [Rows.uptoBulk]
 | held h => simp [Rows.uptoBulk]
theorem zic {H : Type} (l : List (DataW H)) : l.length ≤ Rows.uptoBulkAll l:=by
 induction l with
 | nil => simp [Rows.uptoBulkAll]
 | cons x r ih => have:=one_le x; simp only [Rows.uptoBulkAll,List.length_cons]; omega
theorem slice_le {H : Type} (elems spare : List (DataW H)) : elems.length + spare.length + 1 ≤ Rows.uptoBulk (.slice elems spare):=by
 have h1:=zic elems
 have h2:=zic spare
 simp only [Rows.uptoBulk]
 omega
end UA
end Go.Proofs.YtkiedljcgkoaiaaGreatDoor
namespace Go.Proofs.YtkiedljcgkoaiaaGreatDoor
open Go Go.RowKit
open Go.ChangeShapes Go.WideShapes Go.ChangeAt Go.Deep
set_option maxHeartbeats 16000000
set_option linter.unusedVariables false
end Go.Proofs.YtkiedljcgkoaiaaGreatDoor
namespace Go.Proofs.YtkiedljcgkoaiaaGreatDoor
open Go Go.RowKit
open Go.ChangeShapes Go.WideShapes Go.ChangeAt Go.Deep
set_option maxHeartbeats 16000000
set_option linter.unusedVariables false
end Go.Proofs.YtkiedljcgkoaiaaGreatDoor
namespace Go.Proofs.YtkiedljcgkoaiaaGreatDoor
open Go Go.RowKit
set_option maxHeartbeats 16000000
set_option maxRecDepth 100000
set_option linter.unusedVariables false
set_option linter.unusedSimpArgs false
end Go.Proofs.YtkiedljcgkoaiaaGreatDoor
namespace Go.Proofs.YtkiedljcgkoaiaaGreatDoor
open Go Go.RowKit
set_option maxHeartbeats 16000000
set_option maxRecDepth 100000
set_option linter.unusedVariables false
set_option linter.unusedSimpArgs false
end Go.Proofs.YtkiedljcgkoaiaaGreatDoor
namespace Go.Proofs.YtkiedljcgkoaiaaGreatDoor
open Go Go.RowKit
set_option maxHeartbeats 16000000
set_option linter.unusedVariables false
theorem zbu {T : World → Prop} : IntC T where
 new s x A n c w _ hA hn:=zjR s x A n c w hA (by omega)
 of z w _ h1 h2:=zlg z w h1 h2
 belowI z b A n c w _ hA hn:=zhH z b A n c w hA
 abs z b A n c w _ hA hn:=(zjN z b A n c w hA (by omega)).mono fun _ _ ⟨A',n',c',he,hw,hb,_⟩ => ⟨A',n',c',he,hw,hb⟩
 sign z b A n c w _ hA hn:=ziP z b A n c w hA
 cmp x y b b' A D n m c d w _ hA hD hn hm:=zjP x y b b' A D n m c d w hA hD (by omega) (by omega)
 add x y b b' A D n m c d w _ hA hD hn hm:=zjO x y b b' A D n m c d w hA hD (by omega) (by omega)
 mul x y b b' A D n m c d w _ hA hD hn hm:=zjQ x y b b' A D n m c d w hA hD (by omega) (by omega)
end Go.Proofs.YtkiedljcgkoaiaaGreatDoor
namespace Go.Proofs.YtkiedljcgkoaiaaGreatDoor
open Go Go.RowKit
set_option maxHeartbeats 16000000
set_option maxRecDepth 100000
set_option linter.unusedVariables false
set_option linter.unusedSimpArgs false
theorem zag.to8 {w : World} {x y : Nat} {A : oA9} {n c : Nat} (e : x = y) (h : zag w x A n c) : zag w y A n c:=e ▸ h
theorem zaA.to8 {w : World} {x y : Int} {b : Bool} {A : oA9} {n c : Nat} (e : x = y) (h : zaA w x b A n c) : zaA w y b A n c:=e ▸ h
theorem ziy (x : Nat) (A : oA9) (n c : Nat) (w : World) (h : zag w x A n c) (hn : n ≤ 1099511627776) :
  Calls Tryz.prog 85 #[.agg #[.slice A n c]] w fun e w' => ∃ (B : oA9) (m d : Nat),e = .returned (.slice B m d) ∧ zag w' x B m d ∧ Below w.heap.size w w':=by
 refine (zcd x A n c w h hn).mono ?_
 rintro e w' ⟨B,d,rfl,h1,h2,h3,h4⟩
 exact ⟨B,_,d,rfl,⟨h1,h2,h3.1⟩,h4⟩
theorem of_row (x : Nat) (A : oA9) (n c : Nat) (w : World) (h : zag w x A n c) (hn : n ≤ 1099511627776) :
  Calls Tryz.prog 88 #[.slice A n c] w fun e w' => ∃ (B : oA9) (m d : Nat),e = .returned (.agg #[.slice B m d]) ∧ zag w' x B m d ∧ Below w.heap.size w w':=by
 have k:=zbY A n c _ w h.1 (zbJ (by decide) x) h.2.1 h.2.2 hn
 rw [zcl (by decide)] at k
 refine k.mono ?_
 rintro e w' ⟨B,m,d,rfl,h1,h2,_⟩
 exact ⟨B,m,d,rfl,h1,h2⟩
theorem zmv {P : Program} {f : FuncId} {args : Array Value} {w : World} {z v : Int} (e : z = v) (h : Calls P f args w fun e w' => e = .returned (.tuple #[.int .u64 z,.bool true]) ∧ Below w.heap.size w w') : Calls P f args w fun e w' => e = .returned (.tuple #[.int .u64 v,.bool true]) ∧ Below w.heap.size w w':=by
 subst e; exact h
theorem zjx (x : Nat) (A : oA9) (n c : Nat) (w : World) (hA : zag w x A n c) (hn : n ≤ 1099511627776) : Calls Tryz.prog 90 #[.agg #[.slice A n c]] w (zbw w ((bitLen x : Nat) : Int)):=zhb x A n c w hA hn
theorem zfD {K K' : Nat} {z : Int} {k : Nat} (h : Sz K z.natAbs) (h' : Sz K' k) : Sz (K + K') (z * ((k : Nat) : Int)).natAbs:=by
 rw [Int.natAbs_mul,Int.natAbs_natCast]
 exact h.mul h'
theorem zau {K q x : Nat} (h : Sz K q) (e : q = (if x = 0 then 1 else x) ∧ x ≠ 1) : Sz K x:=h.of_le (by rw [e.1]; split <;> omega)
theorem zaE {w : World} {r : Rat} {b : Bool} {A : oA9} {n c : Nat} {E : oA9} {k f K : Nat} (h : zao w r b A n c E k f) (q : zaI n k) (hK : 67108864 = K) : SzQ K r:=by
 obtain ⟨x,e,hx⟩:=h.2
 have h1 : Sz K r.num.natAbs:=Sz.of_words h.1.2 (by have:=q.1; omega)
 have h2 : Sz K x:=Sz.of_words hx (by have:=q.2; omega)
 refine ⟨h1,?_⟩
 rw [e.1]
 split
 ·exact zbZ (by omega)
 ·exact h2
theorem zed (w : World) : zag w 0 none 0 0:=by
 refine ⟨⟨by rw [show dg 18446744073709551616 0 = [] from by rw [dg]; rfl]; rfl,fun h => absurd h (by decide)⟩,Nat.le_refl _,by decide⟩
theorem zge (w : World) : zao w (0 : Rat) false none 0 0 none 0 0:=⟨⟨rfl,zed w⟩,⟨0,⟨rfl,by decide⟩,zed w⟩⟩
theorem zeF {w : World} {z : Int} {b : Bool} {A : oA9} {n c : Nat} (h : zaA w z b A n c) : zao w (z : Rat) b A n c none 0 0:=⟨by rw [Rat.num_intCast]; exact h,⟨0,⟨by rw [Rat.den_intCast]; rfl,by decide⟩,zed w⟩⟩
theorem znl {w : World} {r : Rat} {z : Int} {b : Bool} {A : oA9} {n c : Nat} {E : oA9} {k f : Nat} (hn : r.num = z) (hd : r.den = 1) (h : zaA w z b A n c) (q : zag w 0 E k f) : zao w r b A n c E k f :=
 ⟨by rw [hn]; exact h,⟨0,⟨by rw [hd]; rfl,by decide⟩,q⟩⟩
theorem zhm {w : World} {r : Rat} {z : Int} {y : Nat} {b : Bool} {A : oA9} {n c : Nat} {E : oA9} {k f : Nat} (hn : r.num = z) (hd : r.den = y) (hy : y ≠ 1) (h : zaA w z b A n c) (q : zag w y E k f) : zao w r b A n c E k f :=
 ⟨by rw [hn]; exact h,⟨y,⟨by rw [if_neg (fun h0 => r.den_nz (by rw [hd,h0]))]; exact hd,hy⟩,q⟩⟩
theorem zfe {q x : Nat} (e : q = (if x = 0 then 1 else x) ∧ x ≠ 1) (h : q = 1) : x = 0:=by
 refine Decidable.byContradiction fun h0 => ?_
 rw [if_neg h0] at e
 omega
theorem zdq {q x : Nat} (e : q = (if x = 0 then 1 else x) ∧ x ≠ 1) (h : q ≠ 1) : x ≠ 0 ∧ x = q:=by
 have h0 : x ≠ 0:=fun h0 => h (by rw [e.1,if_pos h0])
 refine ⟨h0,?_⟩
 have:=e.1
 rw [if_neg h0] at this
 exact this.symm
theorem znp (z : Int) : zaO (decide (z < 0)) z.natAbs = z:=by
 unfold zaO
 by_cases h : z < 0
 ·rw [decide_eq_true h,if_pos rfl]; omega
 ·rw [decide_eq_false h,if_neg (by decide)]; omega
theorem zmP {w : World} {x : Nat} {A : oA9} {n c : Nat} (h : zag w x A n c) (hn : n ≤ 1) : x < 18446744073709551616:=zhd h.len hn
theorem len_one {w : World} {x : Nat} {A : oA9} {n c : Nat} (h : zag w x A n c) (hx : x = 1) : n ≤ 1:=by
 have h1 : Sz 1 x:=by rw [hx]; exact zbZ (by decide)
 exact h1.words h
theorem zlo (p d : Int) (hd : d ≠ 0) : (Rat.divInt p d).num = zaO (decide (p < 0) != decide (d < 0)) (p.natAbs / Nat.gcd p.natAbs d.natAbs) ∧ (Rat.divInt p d).den = d.natAbs / Nat.gcd p.natAbs d.natAbs:=by
 refine ⟨?_,zke p d hd⟩
 have h1:=zkf p d hd
 have h2:=zie p d hd
 rw [← h1]
 generalize (Rat.divInt p d).num = z at *
 unfold zaO
 by_cases hp : p < 0
 ·by_cases hq : d < 0
  ·rw [decide_eq_true hp,decide_eq_true hq]; simp; omega
  ·rw [decide_eq_true hp,decide_eq_false hq]; simp; omega
 ·by_cases hq : d < 0
  ·rw [decide_eq_false hp,decide_eq_true hq]; simp
   by_cases h0 : p = 0
   ·subst h0; simp at h1; omega
   ·omega
  ·rw [decide_eq_false hp,decide_eq_false hq]; simp; omega
end Go.Proofs.YtkiedljcgkoaiaaGreatDoor
namespace Go.Proofs.YtkiedljcgkoaiaaGreatDoor
open Go Go.RowKit
set_option maxHeartbeats 16000000
set_option maxRecDepth 100000
set_option linter.unusedVariables false
set_option linter.unusedSimpArgs false
theorem zhj (z : Int) (baa : Bool) (Baa : oA9) (maa daa : Nat) (w : World) (hT : zan w) (haa : zaA w z baa Baa maa daa) (qaa : maa ≤ 268435456) :
  Calls Tryz.prog 83 #[.agg #[.bool baa,.slice Baa maa daa]] w (zaP w z):=by
 have HIC:=lh9 (zbu (T:=zan))
 have HGC:=lh9 zbF
 have HT:=lh9 (fun w' (hb : Below w.heap.size w w') => hT.on hb)
 have HTB:=HT
 obtain ⟨K,hKe⟩ : ∃ K,268435456 = K:=⟨_,rfl⟩
 have hKK : K ≤ 268435456:=by omega
 have hK0 : 0 < K:=by omega
 have HV:=lh9 (znp z)
 obtain ⟨sb,hsb⟩ : ∃ s,decide (z < 0) = s:=⟨_,rfl⟩
 rw [hsb] at HV
 have HSB:=lh9 hsb
 clear hsb
 have HNaa:=lh9 (fun w' (b : Below w.heap.size w w') => haa.below b)
 have HZaa : Hid (Sz K z.natAbs):=Sz.of_words haa.words (by omega)
 clear haa qaa
 clear hT hKe
 go_enter Tryz.func83,Tryz.ntmps83
 have hB:=Below.refl w.heap.size w
 obtain ⟨bx1,bx2,bx3,bz⟩:=zbi w 42 42 #[.bool baa,.slice Baa maa daa] #[.bool false,.slice none 0 0]
 have hB:=zac hB bx1
 obtain ⟨g1,e1⟩:=bx2.c2
 have k2:=bx3
 clear bx1 bx2 bx3 bz
 go_wp2_with fail
 generalize (w.alloc (.cells #[.bool baa,.slice Baa maa daa] 42)).alloc (.cells #[.bool false,.slice none 0 0] 42) = W1 at *
 have C0:=lh9 (fun w' (h : Below W1.heap.size W1 w') => zaw (HSB.out) (HIC.out.belowI (z) baa Baa maa daa w' (HT.out _ (zac hB h)) (HNaa.out _ (zac hB h)) (szi HZaa (HNaa.out _ hB))))
 have HZ3 : Hid (Sz (K) (z.natAbs)):=HZaa.out
 have C1:=lh9 (fun w' (h : Below W1.heap.size W1 w') => HIC.out.abs (z) baa Baa maa daa w' (HT.out _ (zac hB h)) (HNaa.out _ (zac hB h)) (szi HZaa (HNaa.out _ hB)))
 have HZ4 : Hid (Sz (K) (zaO sb z.natAbs).natAbs):=(by rw [zde]; exact HZ3.out)
 have C2:=lh9 (fun w' (h : Below W1.heap.size W1 w') B3 m3 d3 (hw3 : zag w' (z.natAbs) B3 m3 d3) => HIC.out.new sb (z.natAbs) B3 m3 d3 w' (HT.out _ (zac hB h)) hw3 (szw HZ3 hw3))
 have hBw:=(Below.refl W1.heap.size W1).drew
 refine rg (csc g1 (csc e1 csn)) (fun hHeld => ?_)
 refine tk 0 ?_
 refine tk 2 ?_
 refine rc 1 (fun K hK => ?_)
 go_simp
 go_at_call 78; (with_reducible refine (C0.out _ hBw).mono ?_); rintro e wa2 ⟨rfl,hb⟩; have hBw:=zac hBw hb; refine hK.out _ _ (Cs.below hHeld hb) (fun hHeld => ?_); clear hK K hb
 try simp only [sb9]
 refine rc 3 (fun K hK => ?_)
 go_simp
 go_at_call 75; (with_reducible refine (C1.out _ hBw).mono ?_); rintro e wa3 ⟨B3,m3,d3,rfl,hw3,hb⟩; have hBw:=zac hBw hb; refine hK.out _ _ (Cs.below hHeld hb) (fun hHeld => ?_); clear hK K hb
 try simp only [sb9]
 refine rc 4 (fun K hK => ?_)
 go_simp
 go_at_call 112; (with_reducible refine (C2.out _ hBw _ _ _ hw3).mono ?_); rintro e wa4 ⟨b4,B4,m4,d4,rfl,hw4,hb⟩; have hBw:=zac hBw hb; have hw3:=hw3.below hb; refine hK.out _ _ (Cs.below hHeld hb) (fun hHeld => ?_); clear hK K hb
 try simp only [sb9]
 obtain ⟨sc0,sf0,sc1,sf1⟩:=st2 (zae hBw k2) (.bool b4)
 refine rc 5 (fun K hK => ?_)
 go_simp
 refine hK.out _ _ (cs2 (.bool b4) (.slice B4 m4 d4) hHeld) (fun hHeld => ?_); clear hK K
 try simp only [sb9]
 refine rdn ?_
 have hB:=zac hB hBw
 have g1:=zad hBw g1
 have e1:=zad hBw e1
 have k2:=zae hBw k2
 have HN3:=lh9 hw3
 have HN4:=lh9 hw4
 clear hBw hHeld hw3 hw4 C0 C1 C2
 obtain ⟨r0,r1⟩:=(sn2 k2 (.bool b4) (.slice B4 m4 d4)).c2
 have HG:=lh9 (gi2 (zaA.to8 HV.out HN4.out) k2 hB (by omega))
 go_wp2
 refine bodyPost_ret (v:=.agg #[.bool b4,.slice B4 m4 d4]) (by simp [results,Tryz.results83,go_sem,r0,r1]) rfl ?_
 exact HG.out
theorem zeN (z : Int) (k : Nat) (baa : Bool) (Baa : oA9) (maa daa : Nat) (Bab : oA9) (mab dab : Nat) (w : World) (hT : zan w) (haa : zaA w z baa Baa maa daa) (hab : zag w k Bab mab dab) (qaa : maa ≤ 134217728) (qab : mab ≤ 134217728) :
  Calls Tryz.prog 96 #[.agg #[.bool baa,.slice Baa maa daa],.agg #[.slice Bab mab dab]] w (zaP w (z * ((k : Nat) : Int))):=by
 have HIC:=lh9 (zbu (T:=zan))
 have HGC:=lh9 zbF
 have HT:=lh9 (fun w' (hb : Below w.heap.size w w') => hT.on hb)
 have HTB:=HT
 obtain ⟨K,hKe⟩ : ∃ K,134217728 = K:=⟨_,rfl⟩
 have hKK : K ≤ 134217728:=by omega
 have hK0 : 0 < K:=by omega
 have HNaa:=lh9 (fun w' (b : Below w.heap.size w w') => haa.below b)
 have HZaa : Hid (Sz K z.natAbs):=Sz.of_words haa.words (by omega)
 clear haa qaa
 have HNab:=lh9 (fun w' (b : Below w.heap.size w w') => hab.below b)
 have HZab : Hid (Sz K k):=Sz.of_words hab (by omega)
 clear hab qab
 clear hT hKe
 go_enter Tryz.func96,Tryz.ntmps96
 have hB:=Below.refl w.heap.size w
 obtain ⟨bx1,bx2,bx3,bx4,bz⟩:=zbg w 42 40 42 #[.bool baa,.slice Baa maa daa] #[.slice Bab mab dab] #[.bool false,.slice none 0 0]
 have hB:=zac hB bx1
 obtain ⟨g1,e1⟩:=bx2.c2
 have g2:=bx3.c1
 have k3:=bx4
 clear bx1 bx2 bx3 bx4 bz
 go_wp2_with fail
 generalize ((w.alloc (.cells #[.bool baa,.slice Baa maa daa] 42)).alloc (.cells #[.slice Bab mab dab] 40)).alloc (.cells #[.bool false,.slice none 0 0] 42) = W1 at *
 have HZ4 : Hid (Sz (K) (((k : Nat) : Int)).natAbs):=(by rw [Int.natAbs_natCast]; exact HZab.out)
 have C0:=lh9 (fun w' (h : Below W1.heap.size W1 w') => inew_pos HIC.out (k) Bab mab dab w' (HT.out _ (zac hB h)) (HNab.out _ (zac hB h)) (szw HZab (HNab.out _ hB)))
 have HZ5 : Hid (Sz (K + K) (z * (((k : Nat) : Int))).natAbs):=SzI.mul HZaa.out HZ4.out
 have C1:=lh9 (fun w' (h : Below W1.heap.size W1 w') b4 B4 m4 d4 (hw4 : zaA w' (((k : Nat) : Int)) b4 B4 m4 d4) => HIC.out.mul (z) (((k : Nat) : Int)) baa b4 Baa B4 maa m4 daa d4 w' (HT.out _ (zac hB h)) (HNaa.out _ (zac hB h)) hw4 (szi HZaa (HNaa.out _ hB)) (szi HZ4 hw4))
 have hBw:=(Below.refl W1.heap.size W1).drew
 refine rg (csc g1 (csc e1 (csc g2 csn))) (fun hHeld => ?_)
 refine tk 0 ?_
 refine tk 1 ?_
 refine rc 2 (fun K hK => ?_)
 go_simp
 go_at_call 112; (with_reducible refine (C0.out _ hBw).mono ?_); rintro e wa2 ⟨b4,B4,m4,d4,rfl,hw4,hb⟩; have hBw:=zac hBw hb; refine hK.out _ _ (Cs.below hHeld hb) (fun hHeld => ?_); clear hK K hb
 try simp only [sb9]
 refine rc 3 (fun K hK => ?_)
 go_simp
 go_at_call 73; (with_reducible refine (C1.out _ hBw _ _ _ _ hw4).mono ?_); rintro e wa3 ⟨b5,B5,m5,d5,rfl,hw5,hb⟩; have hBw:=zac hBw hb; have hw4:=hw4.below hb; refine hK.out _ _ (Cs.below hHeld hb) (fun hHeld => ?_); clear hK K hb
 try simp only [sb9]
 obtain ⟨sc0,sf0,sc1,sf1⟩:=st2 (zae hBw k3) (.bool b5)
 refine rc 4 (fun K hK => ?_)
 go_simp
 refine hK.out _ _ (cs2 (.bool b5) (.slice B5 m5 d5) hHeld) (fun hHeld => ?_); clear hK K
 try simp only [sb9]
 refine rdn ?_
 have hB:=zac hB hBw
 have g1:=zad hBw g1
 have e1:=zad hBw e1
 have g2:=zad hBw g2
 have k3:=zae hBw k3
 have HN4:=lh9 hw4
 have HN5:=lh9 hw5
 clear hBw hHeld hw4 hw5 C0 C1
 obtain ⟨r0,r1⟩:=(sn2 k3 (.bool b5) (.slice B5 m5 d5)).c2
 have HG:=lh9 (gi2 (HN5.out) k3 hB (by omega))
 go_wp2
 refine bodyPost_ret (v:=.agg #[.bool b5,.slice B5 m5 d5]) (by simp [results,Tryz.results96,go_sem,r0,r1]) rfl ?_
 exact HG.out
theorem zks (r : Rat) (baa : Bool) (Baa : oA9) (maa daa : Nat) (Eaa : oA9) (uaa vaa : Nat) (w : World) (hT : zan w) (haa : zao w r baa Baa maa daa Eaa uaa vaa) (qaa : zaI maa uaa) (hd : r.den = 1) :
  Calls Tryz.prog 57 #[.agg #[.bool baa,.slice Baa maa daa,.slice Eaa uaa vaa]] w (fun e w' => e = .returned (.bool true) ∧ Below w.heap.size w w'):=by
 have HIC:=lh9 (zbu (T:=zan))
 have HGC:=lh9 zbF
 have HT:=lh9 (fun w' (hb : Below w.heap.size w w') => hT.on hb)
 have HTB:=HT
 obtain ⟨K,hKe⟩ : ∃ K,67108864 = K:=⟨_,rfl⟩
 have hKK : K ≤ 67108864:=by omega
 have hK0 : 0 < K:=by omega
 have HNaa:=lh9 (fun w' (b : Below w.heap.size w w') => haa.below b)
 obtain ⟨xaa,hxaa,hxwaa⟩:=haa.2
 have HXaa:=lh9 hxaa
 have HZaa : Hid (SzQ K r):=zaE haa qaa hKe
 have HZaap : Hid (Sz K r.num.natAbs):=HZaa.out.num
 have HZaaq : Hid (Sz K xaa):=zau HZaa.out.den hxaa
 have HNaap:=lh9 (fun w' (b : Below w.heap.size w w') => haa.1.below b)
 have HNaaq:=lh9 (fun w' (b : Below w.heap.size w w') => hxwaa.below b)
 clear haa qaa hxaa hxwaa
 have HX0:=lh9 (zfe HXaa.out hd)
 clear hT hKe hd
 go_enter Tryz.func57,Tryz.ntmps57
 have hB:=Below.refl w.heap.size w
 obtain ⟨bx1,bx2,bz⟩:=zaL w 44 #[.bool baa,.slice Baa maa daa,.slice Eaa uaa vaa]
 have hB:=zac hB bx1
 obtain ⟨g1,e1,i1⟩:=bx2.c3
 clear bx1 bx2 bz
 go_wp2_with fail
 generalize w.alloc (.cells #[.bool baa,.slice Baa maa daa,.slice Eaa uaa vaa] 44) = W1 at *
 (with_reducible refine (zdg HX0.out (HNaaq.out _ hB)).mono ?_)
 rintro e wc2 ⟨rfl,hb⟩
 have hB:=zac hB hb
 have g1:=zad hb g1
 have e1:=zad hb e1
 have i1:=zad hb i1
 clear hb 
 go_wp2
 go_ret
 exact ⟨by first | rfl | simp,hB⟩
theorem zkr (r : Rat) (baa : Bool) (Baa : oA9) (maa daa : Nat) (Eaa : oA9) (uaa vaa : Nat) (w : World) (hT : zan w) (haa : zao w r baa Baa maa daa Eaa uaa vaa) (qaa : zaI maa uaa) (hd : r.den ≠ 1) :
  Calls Tryz.prog 57 #[.agg #[.bool baa,.slice Baa maa daa,.slice Eaa uaa vaa]] w (fun e w' => e = .returned (.bool false) ∧ Below w.heap.size w w'):=by
 have HIC:=lh9 (zbu (T:=zan))
 have HGC:=lh9 zbF
 have HT:=lh9 (fun w' (hb : Below w.heap.size w w') => hT.on hb)
 have HTB:=HT
 obtain ⟨K,hKe⟩ : ∃ K,67108864 = K:=⟨_,rfl⟩
 have hKK : K ≤ 67108864:=by omega
 have hK0 : 0 < K:=by omega
 have HNaa:=lh9 (fun w' (b : Below w.heap.size w w') => haa.below b)
 obtain ⟨xaa,hxaa,hxwaa⟩:=haa.2
 have HXaa:=lh9 hxaa
 have HZaa : Hid (SzQ K r):=zaE haa qaa hKe
 have HZaap : Hid (Sz K r.num.natAbs):=HZaa.out.num
 have HZaaq : Hid (Sz K xaa):=zau HZaa.out.den hxaa
 have HNaap:=lh9 (fun w' (b : Below w.heap.size w w') => haa.1.below b)
 have HNaaq:=lh9 (fun w' (b : Below w.heap.size w w') => hxwaa.below b)
 clear haa qaa hxaa hxwaa
 have HX0:=lh9 (zdq HXaa.out hd).1
 clear hT hKe hd
 go_enter Tryz.func57,Tryz.ntmps57
 have hB:=Below.refl w.heap.size w
 obtain ⟨bx1,bx2,bz⟩:=zaL w 44 #[.bool baa,.slice Baa maa daa,.slice Eaa uaa vaa]
 have hB:=zac hB bx1
 obtain ⟨g1,e1,i1⟩:=bx2.c3
 clear bx1 bx2 bz
 go_wp2_with fail
 generalize w.alloc (.cells #[.bool baa,.slice Baa maa daa,.slice Eaa uaa vaa] 44) = W1 at *
 (with_reducible refine (zdr HX0.out (HNaaq.out _ hB)).mono ?_)
 rintro e wc2 ⟨rfl,hb⟩
 have hB:=zac hB hb
 have g1:=zad hb g1
 have e1:=zad hb e1
 have i1:=zad hb i1
 clear hb 
 go_wp2
 go_ret
 exact ⟨by first | rfl | simp,hB⟩
theorem zbj (r : Rat) (baa : Bool) (Baa : oA9) (maa daa : Nat) (Eaa : oA9) (uaa vaa : Nat) (w : World) (hT : zan w) (haa : zao w r baa Baa maa daa Eaa uaa vaa) (qaa : zaI maa uaa) :
  Calls Tryz.prog 57 #[.agg #[.bool baa,.slice Baa maa daa,.slice Eaa uaa vaa]] w (fun e w' => e = .returned (.bool (decide (r.den = 1))) ∧ Below w.heap.size w w'):=by
 by_cases hd : r.den = 1
 ·rw [decide_eq_true hd]; exact zks r baa Baa maa daa Eaa uaa vaa w hT haa qaa hd
 ·rw [decide_eq_false hd]; exact zkr r baa Baa maa daa Eaa uaa vaa w hT haa qaa hd
end Go.Proofs.YtkiedljcgkoaiaaGreatDoor
namespace Go.Proofs.YtkiedljcgkoaiaaGreatDoor
open Go Go.RowKit
set_option maxHeartbeats 16000000
set_option maxRecDepth 100000
set_option linter.unusedVariables false
theorem zjg (x y : Nat) (A D : oA9) (n m c d : Nat) (w : World) (hA : zaj w x A n c) (hD : zaj w y D m d) (hn : n ≤ 1073741824) (hm : m ≤ 1073741824) :
  Calls Tryz.prog 71 #[.slice A n c,.slice D m d] w (GivesH w (Nat.gcd x y)):=by
 by_cases hx : x = 0
 ·have e : n = 0:=by rw [hA.len,hx,zck]; rfl
  have HD:=lh9 hD
  have hg : Nat.gcd x y = y:=by rw [hx,Nat.gcd_zero_left]
  rw [hg]
  subst e
  clear hA hD hx hg
  go_enter Tryz.func71,Tryz.ntmps71
  go_wp2
  go_ret
  exact ⟨D,m,d,rfl,HD.out,Below.refl _ _⟩
 ·by_cases hy : y = 0
  ·have e : m = 0:=by rw [hD.len,hy,zck]; rfl
   have hn0:=zdB hA hx
   have z1 : ((n : Int) == 0) = false:=by simp; omega
   have HA:=lh9 hA
   have hg : Nat.gcd x y = x:=by rw [hy,Nat.gcd_zero_right]
   rw [hg]
   subst e
   clear hA hD hx hy hg hn0
   go_enter Tryz.func71,Tryz.ntmps71
   go_wp2
   go_ret
   exact ⟨A,n,c,rfl,HA.out,Below.refl _ _⟩
  ·refine (ref5_gcd x y A D n m c d w hA hD hn hm hx hy).mono fun e w' hg => ?_
   obtain ⟨A',n',c',he,hh,hb⟩:=hg.elim
   exact ⟨A',n',c',he,hh,hb⟩
end Go.Proofs.YtkiedljcgkoaiaaGreatDoor
namespace Go.Proofs.YtkiedljcgkoaiaaGreatDoor
open Go Go.RowKit
set_option maxHeartbeats 16000000
set_option linter.unusedVariables false
section
variable {P : Program} {ops : Array Oper} {Q : Exit → Act → World → Prop} {S : World → Prop} {fuel : Nat} {l : Array Bool} {a : Act} {w : World}
theorem rcb (i j : Nat) {o p : Oper} (hk : ∀ K' : Act → World → Prop,Shut (∀ (a : Act) (w : World),S w → (S w → wpAnyH P .any ops (NoPanic Q) S fuel (l.setIfInBounds i true) a w) → K' a w) → Oper.wp P o a w K' (NoPanic Q)) (hj : ∀ K' : Act → World → Prop,Shut (∀ (a : Act) (w : World),S w → (S w → wpAnyH P .any ops (NoPanic Q) S fuel (l.setIfInBounds j true) a w) → K' a w) → Oper.wp P p a w K' (NoPanic Q)) (h1 : ops[i]? = some o:=by simp only [List.getElem?_toArray,List.getElem?_cons_succ,List.getElem?_cons_zero]; rfl) (h1' : ops[j]? = some p:=by simp only [List.getElem?_toArray,List.getElem?_cons_succ,List.getElem?_cons_zero]; rfl) (h2 : Region.ready .any ops l = [i,j]:=by kernel_rfl) (h3 : Region.wanted o (yielded ops a.tmps) = true:=by rfl) (h3' : Region.wanted p (yielded ops a.tmps) = true:=by rfl) : wpAnyH P .any ops (NoPanic Q) S (fuel + 1) l a w :=
 wpAnyH_ready h2 (by simp) (AllReadyH.cons h1 (fun K' hK => by rw [if_pos h3]; exact hk K' hK) (AllReadyH.cons h1' (fun K' hK => by rw [if_pos h3']; exact hj K' hK) AllReadyH.nil))
end
end Go.Proofs.YtkiedljcgkoaiaaGreatDoor
