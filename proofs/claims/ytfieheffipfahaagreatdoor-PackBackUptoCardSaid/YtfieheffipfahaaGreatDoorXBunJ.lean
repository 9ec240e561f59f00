/- What this claim leans on. -/
import Derived.Test.YtfieheffipfahaaGreatDoorXBunI
import Derived.Lib.Bytealg
import Derived.Lib.Slices
import Derived.Lib.Strings
import Derived.Lib.Walk
namespace Go.Proofs.YtfieheffipfahaaGreatDoor
open Go Go.RowKit
set_option maxHeartbeats 16000000
set_option maxRecDepth 100000
set_option linter.unusedVariables false
theorem zga (x y : Nat) (A D : oA9) (n m c d : Nat) (w : World) (hA : zaf w x A n c) (hD : zaf w y D m d) (hn : n ≤ 274877906944) (hm : m ≤ 274877906944) :
  Calls Tryz.prog 118 #[.agg #[.slice A n c],.agg #[.slice D m d]] w (zbA w (x / y) (decide (y ≠ 0))) := by
 by_cases hy : y = 0
 ·have e : x / y = 0 := by rw [hy,Nat.div_zero]
  have e2 : decide (y ≠ 0) = false := by simp [hy]
  rw [e,e2]
  exact zeI 0 0 false A D n m c d w (fun w' hb => zeJ x y A D n m c d w' (hA.below hb) (hD.below hb) hy)
 ·have e2 : decide (y ≠ 0) = true := by simp [hy]
  rw [e2]
  exact zeI (x / y) (x % y) true A D n m c d w (fun w' hb => zdE x y A D n m c d w' (hA.below hb) (hD.below hb) (by omega) (by omega) hy)
theorem zmB (x y : Nat) (A D : oA9) (n m c d : Nat) (w : World) (hA : zaf w x A n c) (hD : zaf w y D m d) (hn : n ≤ 1073741824) (hm : m ≤ 1073741824) (hT : zaj w) :
  Calls Tryz.prog 81 #[.agg #[.slice A n c],.agg #[.slice D m d]] w (zjH w (x / Nat.gcd x y) (y / Nat.gcd x y)) := by
 have HO := lh9 (fun w' (hb : Below w.heap.size w w') => gcd_of x y A D n m c d w' (hA.below hb) (hD.below hb) hn hm (hT.on hb))
 obtain ⟨g,hg⟩ : ∃ g,Nat.gcd x y = g := ⟨_,rfl⟩
 have lg : (dg 18446744073709551616 g).length ≤ 2147483648 := by
  rw [← hg]
  rcases Nat.eq_zero_or_pos x with e | e
  ·rw [e,Nat.gcd_zero_left,hD.len]; omega
  ·exact Nat.le_trans (zbw (by decide) (Nat.gcd_le_left y e)) (by rw [hA.len]; omega)
 rw [hg] at HO ⊢
 have HDA := lh9 (fun w' (hb : Below w.heap.size w w') A1 n1 c1 (h1 : zaf w' g A1 n1 c1) => zga x g A A1 n n1 c c1 w' (hA.below hb) h1 (by omega) (by rw [← h1.len]; omega))
 have HDB := lh9 (fun w' (hb : Below w.heap.size w w') A1 n1 c1 (h1 : zaf w' g A1 n1 c1) => zga y g D A1 m n1 d c1 w' (hD.below hb) h1 (by omega) (by rw [← h1.len]; omega))
 obtain ⟨X,hX⟩ : ∃ g',x / g = g' := ⟨_,rfl⟩
 obtain ⟨Y,hY⟩ : ∃ g',y / g = g' := ⟨_,rfl⟩
 obtain ⟨bb,hbb⟩ : ∃ g' : Bool,decide (g ≠ 0) = g' := ⟨_,rfl⟩
 rw [hX,hbb] at HDA
 rw [hY,hbb] at HDB
 rw [hX,hY]
 clear hA hD hT hg lg hX hY hbb
 go_enter Tryz.func81,Tryz.ntmps81
 go_wp2_with fail
 obtain ⟨b1,b2,b3,b4,b5⟩ := zbl w 29 29 29 #[.slice A n c] #[.slice D m d] #[.slice none 0 0]
 obtain ⟨W3,hW3⟩ : ∃ W,((w.alloc (.cells #[.slice A n c] 29)).alloc (.cells #[.slice D m d] 29)).alloc (.cells #[.slice none 0 0] 29) = W := ⟨_,rfl⟩
 rw [hW3] at b1 b2 b3 b4 b5 ⊢
 have hs3 : W3.heap.size = w.heap.size + 1 + 1 + 1 := by rw [← hW3]; simp
 have kA := b2.one.alloc (.cells #[.slice none 0 0] 29)
 have kD := b3.one.alloc (.cells #[.slice none 0 0] 29)
 have kx := b4.one.alloc (.cells #[.slice none 0 0] 29)
 have ky := zbG.new W3 29 (.slice none 0 0)
 rw [hs3] at ky
 have hB := b1.alloc b1.size (.cells #[.slice none 0 0] 29)
 clear b1 b2 b3 b4 b5 hW3 hs3
 generalize W3.alloc (.cells #[.slice none 0 0] 29) = W4 at *
 obtain ⟨p,hp⟩ : ∃ p,w.heap.size = p := ⟨_,rfl⟩
 have hpw : w.heap.size ≤ p := by omega
 refine (HO.out _ hB).mono ?_
 rw [hp] at kA kD kx ky ⊢
 clear hp
 rintro e w1 ⟨A1,n1,c1,rfl,hg1,hb⟩
 obtain ⟨d1,d2,d3⟩ := zav w1 29 #[.slice A1 n1 c1]
 have hbb := zaa hb d1
 have kA := kA.keep hbb
 have kD := kD.keep hbb
 have kx := kx.keep hbb
 have ky := ky.keep hbb
 have hB := zaa hB hbb
 have hg1 := hg1.below d1
 have kg := d2.one
 clear d1 d2 d3 hb hbb
 have e1 := kA.cell
 have e2 := kg.cell
 go_wp2_with fail
 generalize hW5 : w1.alloc (.cells #[.slice A1 n1 c1] 29) = W5 at *
 generalize w1.heap.size = z1 at *
 clear hW5
 refine (HDA.out _ hB A1 n1 c1 hg1).mono ?_
 clear e1 e2
 rintro e w2 ⟨A2,n2,c2,rfl,hx2,hb⟩
 have hz2 := (ky.keep hb).lt
 obtain ⟨d1,d2,d3⟩ := zav w2 29 #[.slice A2 n2 c2]
 have hbb := zaa hb d1
 have kD := kD.keep hbb
 have kx := kx.keep hbb
 have ky := ky.keep hbb
 have kg := kg.keep hbb
 have hB := zaa hB hbb
 have hg1 := hg1.below hbb
 have hx2 := hx2.below d1
 have k7 := d2.one
 clear d1 d2 d3 hb hbb kA
 have e1 := kD.cell
 have e2 := kg.cell
 go_wp2_with fail
 generalize hW6 : w2.alloc (.cells #[.slice A2 n2 c2] 29) = W6 at *
 generalize w2.heap.size = z2 at *
 clear hW6
 refine (HDB.out _ hB A1 n1 c1 hg1).mono ?_
 clear e1 e2
 rintro e w3 ⟨A3,n3,c3,rfl,hy3,hb⟩
 have hz3 := (ky.keep hb).lt
 obtain ⟨d1,d2,d3⟩ := zav w3 29 #[.slice A3 n3 c3]
 have hbb := zaa hb d1
 have kx := kx.keep hbb
 have ky := ky.keep hbb
 have k7 := k7.keep hbb
 have hB := zaa hB hbb
 have hx2 := hx2.below hbb
 have hy3 := hy3.below d1
 have k9 := d2.one
 clear d1 d2 d3 hb hbb kD kg hg1
 go_wp2_with fail
 generalize hW7 : w3.alloc (.cells #[.slice A3 n3 c3] 29) = W7 at *
 generalize w3.heap.size = z3 at *
 clear hW7
 have q7 : W7.cell? ⟨z2,0,none⟩ = some (.slice A2 n2 c2) := k7.cell
 have q9 : W7.cell? ⟨z3,0,none⟩ = some (.slice A3 n3 c3) := k9.cell
 have qx : W7.cell? ⟨p + 1 + 1,0,none⟩ = some (.slice none 0 0) := kx.cell
 have qy : W7.cell? ⟨p + 1 + 1 + 1,0,none⟩ = some (.slice none 0 0) := ky.cell
 have fx : W7.frozen? ⟨p + 1 + 1,0,none⟩ = false := kx.frozen
 have fy : W7.frozen? ⟨p + 1 + 1 + 1,0,none⟩ = false := ky.frozen
 have q9' := zae (q := ⟨p + 1 + 1,0,none⟩) (.slice A2 n2 c2) (by show z3 ≠ p + 1 + 1; omega) q9
 have kx1 := kx.set_ (.slice A2 n2 c2)
 have ky1 := ky.far (p := ⟨p + 1 + 1,0,none⟩) (by show p + 1 + 1 + 1 ≠ p + 1 + 1; omega) (.slice A2 n2 c2)
 have qy' := ky1.cell
 have fy' := ky1.frozen
 have hx4 := zam hx2 kx (.slice A2 n2 c2)
 have hy4 := zam hy3 kx (.slice A2 n2 c2)
 have rx := (kx1.far (p := ⟨p + 1 + 1 + 1,0,none⟩) (by show p + 1 + 1 ≠ p + 1 + 1 + 1; omega) (.slice A3 n3 c3)).cell
 have ry := (ky1.set_ (.slice A3 n3 c3)).cell
 have HE : Hid (zjH w X Y (.returned (.tuple #[.agg #[.slice A2 n2 c2],.agg #[.slice A3 n3 c3]])) ((W7.setCell ⟨p + 1 + 1,0,none⟩ (.slice A2 n2 c2)).setCell ⟨p + 1 + 1 + 1,0,none⟩ (.slice A3 n3 c3)).drew) :=
  ⟨_,_,_,_,_,_,rfl,zam hx4 ky1 _,zam hy4 ky1 _,(hB.setCell (p := ⟨p + 1 + 1,0,none⟩) (by show w.heap.size ≤ p + 1 + 1; omega) _).setCell (p := ⟨p + 1 + 1 + 1,0,none⟩) (by show w.heap.size ≤ p + 1 + 1 + 1; omega) _ |>.drew⟩
 clear k7 k9 kx ky hB hx2 hy3 kx1 ky1 hx4 hy4
 go_region
 all_goals
  go_wp2
  refine bodyPost_ret (v := .tuple #[.agg #[.slice A2 n2 c2],.agg #[.slice A3 n3 c3]]) (by simp [results,Tryz.results81,go_sem,rx,ry]) rfl ?_
  exact HE.out
set_option linter.unusedSimpArgs false
theorem Sz.of_words {w : World} {x K n c : Nat} {A : oA9} (h : zaf w x A n c) (hn : n ≤ K) : Sz K x := by
 have h1 := zbd (b := 18446744073709551616) (by decide) x
 rw [h.len] at h1
 exact Nat.lt_of_lt_of_le h1 (Nat.pow_le_pow_right (by decide) hn)
theorem zdt : GcdC where
 of x y A D n m c d w hA hD hn hm hT := gcd_of x y A D n m c d w hA hD hn hm hT
 reduce x y A D n m c d w hA hD hn hm hT := zmB x y A D n m c d w hA hD hn hm hT
theorem zhV : ∀ (L : List UInt8),Lib.indexByte L 47 = if zbb L = [] then -1 else ((zau L).length : Int)
 | [] => rfl
 | c :: t => by
   have ih := zhV t
   unfold Lib.indexByte zbb zau
   rw [List.dropWhile_cons,List.takeWhile_cons]
   by_cases hc : c = 47
   ·subst hc; simp
   ·have h1 : (c == 47) = false := by rw [beq_eq_false_iff_ne]; exact hc
    have h2 : (c != 47) = true := by rw [bne_iff_ne]; exact hc
    rw [h1,h2,if_neg (by decide),if_pos rfl,if_pos rfl]
    have hr : t.dropWhile (· != 47) = zbb t := rfl
    have hh : t.takeWhile (· != 47) = zau t := rfl
    rw [hr,hh,ih]
    by_cases h3 : zbb t = []
    ·rw [if_pos h3,if_pos h3]; rfl
    ·rw [if_neg h3,if_neg h3,if_neg (by rw [beq_iff_eq]; omega)]; simp
theorem zog (L : List UInt8) : L.take (zau L).length = zau L := by
 have h := zaX L
 generalize zau L = H at *
 rw [← h,List.take_left]
theorem zoz (L : List UInt8) : L.drop ((zau L).length + 1) = zax L := by
 have h := zaX L
 unfold zax
 generalize zau L = H at *
 generalize zbb L = R at *
 rw [← h,← List.drop_drop,List.drop_left]
theorem head_len (L : List UInt8) (h : zbb L ≠ []) : (zau L).length + 1 ≤ L.length := by
 have e := congrArg List.length (zaX L)
 rw [List.length_append] at e
 have : 0 < (zbb L).length := List.length_pos_iff.2 h
 omega
theorem zlf (L : List UInt8) (w : World) :
  Calls Tryz.prog 145 #[.string (zaw L),.int .u8 47] w fun e w' => e = .returned (.int .i64 (Lib.indexByte L 47)) ∧ w' = w := by
 have hx := @run_callFunc_extern Tryz.prog 159 _ Extern.BytealgIndexByte.indexByte Tryz.func159 (by kernel_rfl) (by kernel_rfl) (by kernel_rfl) (by kernel_rfl)
 have hi : ∀ w,(Extern.BytealgIndexByte.indexByte #[.string (zaw L),.int .u8 47]).run Tryz.prog w = .ok (.int .i64 (Lib.indexByte L 47)) w := fun w => Lib.run_indexByteString (zaw L) 47 w
 obtain ⟨z,hz⟩ : ∃ z,Lib.indexByte L 47 = z := ⟨_,rfl⟩
 rw [hz]
 simp only [hz] at hi
 clear hz
 go_enter Tryz.func145,Tryz.ntmps145
 go_wp2
 go_ret
 exact ⟨rfl,rfl⟩
theorem index9 (L : List UInt8) (w : World) :
  Calls Tryz.prog 129 #[.string (zaw L),.string { data := #[47] }] w fun e w' => e = .returned (.int .i64 (Lib.indexByte L 47)) ∧ w' = w := by
 by_cases h : L = [47]
 ·have hz : Lib.indexByte L 47 = 0 := by rw [h]; decide
  have q1 : ([47] == (zaw L).toList) = true := by rw [h]; exact zde (zaw [47]) [47] true (by decide) |> fun e => by rw [beq_iff_eq] at e ⊢; exact e.symm
  rw [hz]
  clear hz h
  go_enter Tryz.func129,Tryz.ntmps129
  go_wp2
  go_ret
  exact ⟨rfl,rfl⟩
 ·have q1 : ([47] == (zaw L).toList) = false := by
   have e := zde (zaw L) [47] false (by simp [zaP,h])
   rw [beq_eq_false_iff_ne] at e ⊢
   exact fun h9 => e h9.symm
  have HI := lh9 (zlf L w)
  obtain ⟨z,hz⟩ : ∃ z,Lib.indexByte L 47 = z := ⟨_,rfl⟩
  rw [hz] at HI ⊢
  clear hz h
  go_enter Tryz.func129,Tryz.ntmps129
  go_wp2_with fail
  refine HI.out.mono ?_
  rintro e w' ⟨rfl,rfl⟩
  clear HI
  go_wp2
  go_ret
  exact ⟨rfl,rfl⟩
theorem znT (b : Bool) (L : List UInt8) (w : World) (hb : decide (zbb L ≠ []) = b) (hn : L.length ≤ 2147483648) :
  Calls Tryz.prog 101 #[.string (zaw L),.string { data := #[47] }] w fun e w' => e = .returned (.tuple #[.string (zaw (zau L)),.string (zaw (zax L)),.bool b]) ∧ Below w.heap.size w w' := by
 have HI := lh9 (index9 L w)
 rw [zhV] at HI
 cases b with
 | false =>
   have hr : zbb L = [] := by simpa using hb
   have hh : zau L = L := by have := zaX L; rw [hr,List.append_nil] at this; exact this
   have ht : Hid (zaw (zax L) = { data := #[] }) := by show _ = _; unfold zax; rw [hr]; rfl
   rw [if_pos hr] at HI
   rw [hh]
   obtain ⟨T,hT⟩ : ∃ x,zaw (zax L) = x := ⟨_,rfl⟩
   rw [hT] at ht ⊢
   clear hb hr hh hT
   go_enter Tryz.func101,Tryz.ntmps101
   go_wp2_with fail
   refine HI.out.mono ?_
   rintro e w' ⟨rfl,rfl⟩
   clear HI
   go_wp2
   refine bodyPost_ret (v := .tuple #[.string (zaw L),.string { data := #[] },.bool false]) (by simp [results,Tryz.results101,go_sem]) rfl ?_
   exact ⟨by rw [ht.out],Below.refl _ _⟩
 | true =>
   have hr : zbb L ≠ [] := by simpa using hb
   have hl := head_len L hr
   have s1 : ∀ w,(Instr.slice 9 (.string (zaw L)) none (some (.int .i64 ((zau L).length : Int))) none).run Tryz.prog w = .ok (.string (zaw (zau L))) w := fun w => by
    have := zkv (P := Tryz.prog) Tryz.underlying9 L (zau L).length (by omega) w
    rw [zog] at this; exact this
   have s2 : ∀ w,(Instr.slice 9 (.string (zaw L)) (some (.int .i64 (((zau L).length : Int) + 1))) none none).run Tryz.prog w = .ok (.string (zaw (zax L))) w := fun w => by
    have := zgi (P := Tryz.prog) Tryz.underlying9 L ((zau L).length + 1) (by omega) w
    rw [zoz] at this; exact this
   rw [if_neg hr] at HI
   obtain ⟨H,hH⟩ : ∃ x,zaw (zau L) = x := ⟨_,rfl⟩
   obtain ⟨T,hT⟩ : ∃ x,zaw (zax L) = x := ⟨_,rfl⟩
   obtain ⟨k,hk⟩ : ∃ x,(zau L).length = x := ⟨_,rfl⟩
   have hLL : L.length ≤ 9223372036854775806 ∨ True := .inr trivial
   rw [hH,hT]
   simp only [hH,hk] at s1
   simp only [hT,hk] at s2
   rw [hk] at HI hl
   by_cases hlen : L.length ≤ 9223372036854775807
   ·have i1 : IntKind.i64.wrap ((k : Int) + 1) = (k : Int) + 1 := IntWalk.i64_in _ (by omega)
    have i2 : (0 : Int) ≤ (k : Int) := by omega
    clear hb hr hH hT hk hLL
    go_enter Tryz.func101,Tryz.ntmps101
    go_wp2_with fail
    refine HI.out.mono ?_
    rintro e w' ⟨rfl,rfl⟩
    clear HI
    go_wp2_with fail
    go_region
    go_wp2
    refine bodyPost_ret (v := .tuple #[.string H,.string T,.bool true]) (by simp [results,Tryz.results101,go_sem]) rfl ?_
    exact ⟨rfl,(Below.refl _ _).drew⟩
   ·exact absurd hlen (by omega)
theorem zcg (b : Bool) (L : List UInt8) (w : World) (hb : decide (zbb L ≠ []) = b) (hn : L.length ≤ 2147483648) :
  Calls Tryz.prog 54 #[.string (zaw L),.string { data := #[47] }] w fun e w' => e = .returned (.tuple #[.string (zaw (zau L)),.string (zaw (zax L)),.bool b]) ∧ Below w.heap.size w w' := by
 have HC := lh9 (znT b L w hb hn)
 obtain ⟨H,hH⟩ : ∃ x,zaw (zau L) = x := ⟨_,rfl⟩
 obtain ⟨T,hT⟩ : ∃ x,zaw (zax L) = x := ⟨_,rfl⟩
 rw [hH,hT] at HC ⊢
 clear hH hT hb
 go_enter Tryz.func54,Tryz.ntmps54
 go_wp2_with fail
 refine HC.out.mono ?_
 rintro e w' ⟨rfl,hb⟩
 clear HC
 go_wp2
 refine bodyPost_ret (v := .tuple #[.string H,.string T,.bool b]) (by simp [results,Tryz.results54,go_sem]) rfl ?_
 exact ⟨rfl,hb⟩
end Go.Proofs.YtfieheffipfahaaGreatDoor
