/- What this claim leans on. -/
import Derived.Test.YtfieheffipfahaaGreatDoorTH6Parse
import Derived.Test.YtfieheffipfahaaGreatDoorTBunI
namespace Go.Proofs.YtfieheffipfahaaGreatDoor
open Go Go.RowKit
set_option maxHeartbeats 16000000
set_option maxRecDepth 100000
set_option linter.unusedVariables false
set_option linter.unusedSimpArgs false
theorem zbx.cell2 {w w' : World} {v v' : Value} {p : Addr} {u : Value} (h : zbx w v w' v') (hc : w.cell? p = some u) (hp : v.ownBlock ≠ some p.block) : w'.cell? p = some u :=
 (World.cell?_of_block (h.grown.block _ (World.block_lt_of_cell? w p hc) (fun e => hp e.symm))).trans hc
theorem zbR.not {B g : Nat} {w : World} {v : Value} {L : List Nat} (h : zbR B w v L) (hg : w.heap.size ≤ g) : v.ownBlock ≠ some g := fun e => by have := (h.lt g e).2; omega
theorem zbx.not {w w' : World} {v v' : Value} {g : Nat} (h : zbx w v w' v') (hn : v.ownBlock ≠ some g) (hg : g < w.heap.size) : v'.ownBlock ≠ some g := fun e => by
 rcases h.at_ with h1 | h1
 ·exact hn (h1 ▸ e)
 ·have := h1 g e; omega
def zkh (B : Nat) (w : World) (v : Value) (L : List Nat) (e : Ending) (w' : World) : Prop := ∃ v',e = .returned (.tuple #[v',.nilIface]) ∧ zbR B w' v' L ∧ zbx w v w' v'
theorem zfR (B : Nat) (v : Value) (L : List Nat) (x : Nat) (s : ByteArray) (A : oA9) (n c : Nat) (w : World) (hv : zbR B w v L) (hb : B ≤ w.heap.size) (hL : L.length ≤ 1048576) (h : zaf w x A n c) (hn : n ≤ 67108864) (ha : zcc v A n) (hx : zbt x ≤ 255) :
  Calls Tryz.prog 44 #[v,.agg #[.slice A n c],.string s] w (zkh B w v (L ++ zcm x)) := by
 obtain ⟨bx1,bx2,bz⟩ := zaA w 29 #[.slice A n c]
 have HS := lh9 (zeu x A n c _ (h.below bx1) (by omega))
 have HY := lh9 (fun w' A n c (h : zaf w' x A n c) hn => zjy x A n c w' h hn)
 have HE : Hid (L ++ zcm x = (L ++ [zbt x]) ++ zbi x) := by show _ = _; unfold zcm; simp
 have hle : (zbi x).length = zbt x := zdh x
 have HN : (dg 256 x).length = zbt x := rfl
 unfold zcA at HY
 rw [HN] at HS
 rw [hle] at HY
 obtain ⟨N,hN⟩ : ∃ N,zbt x = N := ⟨_,rfl⟩
 obtain ⟨D,hD⟩ : ∃ N,zbi x = N := ⟨_,rfl⟩
 obtain ⟨P,hP⟩ : ∃ N,L ++ zcm x = N := ⟨_,rfl⟩
 rw [hN] at HS hx hle
 rw [hN,hD] at HY
 rw [hD] at hle
 rw [hN,hD,hP] at HE
 rw [hP]
 have i1 : ¬ ((255 : Int) < (N : Int)) := by omega
 have i2 : IntKind.u8.wrap (N : Int) = (N : Int) := IntWalk.u8_in _ (by omega)
 have HV := lh9 hv
 have HW := lh9 h
 have HA := lh9 ha
 have hnb := hv.not (Nat.le_refl _)
 clear hv h ha hN hD hP HN bz
 go_enter Tryz.func44,Tryz.ntmps44
 obtain ⟨g1⟩ : _ ∧ True := ⟨bx2.c1,trivial⟩
 go_wp2_with fail
 refine HS.out.mono ?_
 rintro e w1 ⟨rfl,hb1⟩
 have hB := zac bx1 hb1
 have g1 := zad hb1 bx2.c1
 have HV1 := lh9 (HV.out.below hB)
 have HW1 := lh9 (HW.out.below hB)
 have hsz := hB.size
 have hlt := World.block_lt_of_cell? _ _ g1
 have HG0 := lh9 (zbx.below (v := v) hB)
 clear HS hb1 bx1 bx2 HV HW
 go_upto_region 4 with fail
 have hBw := (Below.refl w1.heap.size w1).drew
 refine rg (csc g1 csn) (fun hHeld => ?_)
 have HV1 := lh9 (HV1.out.below hBw)
 have HW1 := lh9 (HW1.out.below hBw)
 have HG0 := lh9 (HG0.out.trans (zbx.below (v := v) hBw))
 have hz1 := hBw.size
 generalize w1.drew = Wd at *
 clear hBw g1
 refine tk 0 ?_
 refine tk 1 ?_
 refine tk 2 ?_
 refine tk 5 ?_
 refine rc 3 (fun K hK => ?_)
 go_simp
 have HL := lh9 ((Below.refl Wd.heap.size Wd).alloc (Nat.le_refl _) (.cells #[.int .u8 (N : Int)] 5))
 refine hK.out _ _ (hHeld.below HL.out) (fun hHeld => ?_); clear hK K
 try simp only [sb9]
 have HV2 := lh9 (HV1.out.below HL.out)
 have HW2 := lh9 (HW1.out.below HL.out)
 have HR2 := lh9 (lit8 (B := B) Wd N (by omega))
 have HG1 := lh9 (HG0.out.trans (zbx.below (v := v) HL.out))
 obtain ⟨A2,c2,e2,-,-,hrd⟩ := HR2.out.reads
 cases e2
 have HRD := lh9 hrd
 have hz2 := HL.out.size
 generalize Wd.alloc (.cells #[.int .u8 (N : Int)] 5) = W2 at *
 clear HV1 HW1 HG0 hrd HL HR2
 refine rc 4 (fun K hK => ?_)
 refine app8 (.tmp 17) (.tmp 20) B v L _ 1 1 [N] HV2.out HRD.out (by omega) (by omega) (fun v3 w3 hr3 hG3 => ?_)
 refine hK.out _ _ ⟨hG3.cell2 hHeld.1 hnb,trivial⟩ (fun hHeld => ?_); clear hK K
 try simp only [sb9]
 obtain ⟨hw3,ha3⟩ := HA.out.words HW2.out hG3
 have HG3 := lh9 (HG1.out.trans hG3)
 have hnb3 := hG3.not hnb (by show w.heap.size < _; omega)
 have hsz3 := HG3.out.grown.size
 have hlt3 := World.block_lt_of_cell? _ _ hHeld.1
 have HR3 := lh9 hr3
 have HYY := lh9 (HY.out _ A n c hw3 (by omega))
 clear hG3 HG1 hw3 ha3 HY HA HW2 HV2 HRD hr3
 refine rc 6 (fun K hK => ?_)
 go_simp
 refine HYY.out.mono ?_
 rintro e w4 ⟨v4,rfl,hown4,hb4⟩
 obtain ⟨A4,c4,rfl,hc4,hc4m,hr4⟩ := zan.of_grown_own hown4
 refine hK.out _ _ (hHeld.below hb4) (fun hHeld => ?_); clear hK K
 try simp only [sb9]
 have HR4 := lh9 (HR3.out.below hb4)
 have HG4 := lh9 (HG3.out.trans (zbx.below (v := v3) hb4))
 have HRD4 := lh9 hr4
 have hsz4 := hb4.size
 clear HYY hown4 hr4 hc4 hc4m HR3 HG3
 refine rc 7 (fun K hK => ?_)
 refine app8 (.tmp 21) (.tmp 23) B v3 (L ++ [N]) _ N c4 D HR4.out HRD4.out (by simp; omega) (by omega) (fun v5 w5 hr5 hG5 => ?_)
 refine hK.out _ _ ⟨hG5.cell2 hHeld.1 hnb3,trivial⟩ (fun hHeld => ?_); clear hK K
 try simp only [sb9]
 have HG : Hid (zkh B w v P (.returned (.tuple #[v5,.nilIface])) w5) := ⟨_,rfl,HE.out ▸ hr5,HG4.out.trans hG5⟩
 clear hG5 hr5 HR4 HG4 HRD4
 refine tk 8 ?_
 refine tk 9 ?_
 refine rdn ?_
 go_wp2
 refine bodyPost_ret (v := .tuple #[v5,.nilIface]) (by simp [results,Tryz.results44,go_sem]) rfl ?_
 exact HG.out
def zlH (w : World) (er : Er) (e : Ending) (w' : World) : Prop := ∃ (et : TypeId) (ex : Value),e = .returned (.tuple #[.slice none 0 0,.iface et ex]) ∧ zbL w' er (.iface et ex) ∧ Below w.heap.size w w'
theorem zgI (v : Value) (x : Nat) (s : ByteArray) (A : oA9) (n c : Nat) (w : World) (h : zaf w x A n c) (hn : n ≤ 67108864) (hx : ¬ zbt x ≤ 255) :
  Calls Tryz.prog 44 #[v,.agg #[.slice A n c],.string s] w (zlH w (.spot 3 s ((zbt x : Nat) : Int))) := by
 obtain ⟨bx1,bx2,bz⟩ := zaA w 29 #[.slice A n c]
 have HS := lh9 (zeu x A n c _ (h.below bx1) (by omega))
 have HN : (dg 256 x).length = zbt x := rfl
 rw [HN] at HS
 obtain ⟨N,hN⟩ : ∃ N,zbt x = N := ⟨_,rfl⟩
 rw [hN] at HS hx ⊢
 have i1 : (255 : Int) < (N : Int) := by omega
 clear h hN HN bz hn
 go_enter Tryz.func44,Tryz.ntmps44
 have g1 := bx2.c1
 go_wp2_with fail
 refine HS.out.mono ?_
 rintro e w1 ⟨rfl,hb1⟩
 have hB := zac bx1 hb1
 clear HS hb1 bx1 bx2 g1
 go_wp2_with fail
 refine (zer 3 s (N : Int) _).mono ?_
 rintro e w2 ⟨et,ex,rfl,he,hb2⟩
 have hB2 := zac hB hb2
 have HE := lh9 he
 clear hB hb2 he
 go_wp2
 refine bodyPost_ret (v := .tuple #[.slice none 0 0,.iface et ex]) (by simp [results,Tryz.results44,go_sem]) rfl ?_
 exact ⟨_,_,rfl,HE.out,hB2⟩
theorem zfT (x y : Nat) (A D : oA9) (n m c d : Nat) (w : World) (hA : zaf w x A n c) (hD : zaf w y D m d) (hn : n ≤ 274877906944) (hm : m ≤ 274877906944) :
  Calls Tryz.prog 118 #[.agg #[.slice A n c],.agg #[.slice D m d]] w (zbd w (x / y) (decide (y ≠ 0))) := by
 by_cases hy : y = 0
 ·have e : x / y = 0 := by rw [hy,Nat.div_zero]
  have e2 : decide (y ≠ 0) = false := by simp [hy]
  rw [e,e2]
  exact zeC 0 0 false A D n m c d w (fun w' hb => zeD x y A D n m c d w' (hA.below hb) (hD.below hb) hy)
 ·have e2 : decide (y ≠ 0) = true := by simp [hy]
  rw [e2]
  exact zeC (x / y) (x % y) true A D n m c d w (fun w' hb => zdu x y A D n m c d w' (hA.below hb) (hD.below hb) (by omega) (by omega) hy)
theorem zmh (x y : Nat) (A D : oA9) (n m c d : Nat) (w : World) (hA : zaf w x A n c) (hD : zaf w y D m d) (hn : n ≤ 1073741824) (hm : m ≤ 1073741824) (hT : zap w) :
  Calls Tryz.prog 81 #[.agg #[.slice A n c],.agg #[.slice D m d]] w (zjj w (x / Nat.gcd x y) (y / Nat.gcd x y)) := by
 have HO := lh9 (fun w' (hb : Below w.heap.size w w') => gcd_of x y A D n m c d w' (hA.below hb) (hD.below hb) hn hm (hT.on hb))
 obtain ⟨g,hg⟩ : ∃ g,Nat.gcd x y = g := ⟨_,rfl⟩
 have lg : (dg 18446744073709551616 g).length ≤ 2147483648 := by
  rw [← hg]
  rcases Nat.eq_zero_or_pos x with e | e
  ·rw [e,Nat.gcd_zero_left,hD.len]; omega
  ·exact Nat.le_trans (zaL (by decide) (Nat.gcd_le_left y e)) (by rw [hA.len]; omega)
 rw [hg] at HO ⊢
 have HDA := lh9 (fun w' (hb : Below w.heap.size w w') A1 n1 c1 (h1 : zaf w' g A1 n1 c1) => zfT x g A A1 n n1 c c1 w' (hA.below hb) h1 (by omega) (by rw [← h1.len]; omega))
 have HDB := lh9 (fun w' (hb : Below w.heap.size w w') A1 n1 c1 (h1 : zaf w' g A1 n1 c1) => zfT y g D A1 m n1 d c1 w' (hD.below hb) h1 (by omega) (by rw [← h1.len]; omega))
 obtain ⟨X,hX⟩ : ∃ g',x / g = g' := ⟨_,rfl⟩
 obtain ⟨Y,hY⟩ : ∃ g',y / g = g' := ⟨_,rfl⟩
 obtain ⟨bb,hbb⟩ : ∃ g' : Bool,decide (g ≠ 0) = g' := ⟨_,rfl⟩
 rw [hX,hbb] at HDA
 rw [hY,hbb] at HDB
 rw [hX,hY]
 clear hA hD hT hg lg hX hY hbb
 go_enter Tryz.func81,Tryz.ntmps81
 go_wp2_with fail
 obtain ⟨b1,b2,b3,b4,b5⟩ := zcD w 29 29 29 #[.slice A n c] #[.slice D m d] #[.slice none 0 0]
 obtain ⟨W3,hW3⟩ : ∃ W,((w.alloc (.cells #[.slice A n c] 29)).alloc (.cells #[.slice D m d] 29)).alloc (.cells #[.slice none 0 0] 29) = W := ⟨_,rfl⟩
 rw [hW3] at b1 b2 b3 b4 b5 ⊢
 have hs3 : W3.heap.size = w.heap.size + 1 + 1 + 1 := by rw [← hW3]; simp
 have kA := b2.one.alloc (.cells #[.slice none 0 0] 29)
 have kD := b3.one.alloc (.cells #[.slice none 0 0] 29)
 have kx := b4.one.alloc (.cells #[.slice none 0 0] 29)
 have ky := zbl.new W3 29 (.slice none 0 0)
 rw [hs3] at ky
 have hB := b1.alloc b1.size (.cells #[.slice none 0 0] 29)
 clear b1 b2 b3 b4 b5 hW3 hs3
 generalize W3.alloc (.cells #[.slice none 0 0] 29) = W4 at *
 obtain ⟨p,hp⟩ : ∃ p,w.heap.size = p := ⟨_,rfl⟩
 have hpw : w.heap.size ≤ p := by omega
 refine (HO.out _ hB).mono ?_
 rw [hp] at kA kD kx ky ⊢
 clear hp
 rintro e w1 ⟨A1,n1,c1,rfl,hg1,hb⟩
 obtain ⟨d1,d2,d3⟩ := zaA w1 29 #[.slice A1 n1 c1]
 have hbb := zac hb d1
 have kA := kA.keep hbb
 have kD := kD.keep hbb
 have kx := kx.keep hbb
 have ky := ky.keep hbb
 have hB := zac hB hbb
 have hg1 := hg1.below d1
 have kg := d2.one
 clear d1 d2 d3 hb hbb
 have e1 := kA.cell
 have e2 := kg.cell
 go_wp2_with fail
 generalize hW5 : w1.alloc (.cells #[.slice A1 n1 c1] 29) = W5 at *
 generalize w1.heap.size = z1 at *
 clear hW5
 refine (HDA.out _ hB A1 n1 c1 hg1).mono ?_
 clear e1 e2
 rintro e w2 ⟨A2,n2,c2,rfl,hx2,hb⟩
 have hz2 := (ky.keep hb).lt
 obtain ⟨d1,d2,d3⟩ := zaA w2 29 #[.slice A2 n2 c2]
 have hbb := zac hb d1
 have kD := kD.keep hbb
 have kx := kx.keep hbb
 have ky := ky.keep hbb
 have kg := kg.keep hbb
 have hB := zac hB hbb
 have hg1 := hg1.below hbb
 have hx2 := hx2.below d1
 have k7 := d2.one
 clear d1 d2 d3 hb hbb kA
 have e1 := kD.cell
 have e2 := kg.cell
 go_wp2_with fail
 generalize hW6 : w2.alloc (.cells #[.slice A2 n2 c2] 29) = W6 at *
 generalize w2.heap.size = z2 at *
 clear hW6
 refine (HDB.out _ hB A1 n1 c1 hg1).mono ?_
 clear e1 e2
 rintro e w3 ⟨A3,n3,c3,rfl,hy3,hb⟩
 have hz3 := (ky.keep hb).lt
 obtain ⟨d1,d2,d3⟩ := zaA w3 29 #[.slice A3 n3 c3]
 have hbb := zac hb d1
 have kx := kx.keep hbb
 have ky := ky.keep hbb
 have k7 := k7.keep hbb
 have hB := zac hB hbb
 have hx2 := hx2.below hbb
 have hy3 := hy3.below d1
 have k9 := d2.one
 clear d1 d2 d3 hb hbb kD kg hg1
 go_wp2_with fail
 generalize hW7 : w3.alloc (.cells #[.slice A3 n3 c3] 29) = W7 at *
 generalize w3.heap.size = z3 at *
 clear hW7
 have q7 : W7.cell? ⟨z2,0,none⟩ = some (.slice A2 n2 c2) := k7.cell
 have q9 : W7.cell? ⟨z3,0,none⟩ = some (.slice A3 n3 c3) := k9.cell
 have qx : W7.cell? ⟨p + 1 + 1,0,none⟩ = some (.slice none 0 0) := kx.cell
 have qy : W7.cell? ⟨p + 1 + 1 + 1,0,none⟩ = some (.slice none 0 0) := ky.cell
 have fx : W7.frozen? ⟨p + 1 + 1,0,none⟩ = false := kx.frozen
 have fy : W7.frozen? ⟨p + 1 + 1 + 1,0,none⟩ = false := ky.frozen
 have q9' := zag (q := ⟨p + 1 + 1,0,none⟩) (.slice A2 n2 c2) (by show z3 ≠ p + 1 + 1; omega) q9
 have kx1 := kx.set_ (.slice A2 n2 c2)
 have ky1 := ky.far (p := ⟨p + 1 + 1,0,none⟩) (by show p + 1 + 1 + 1 ≠ p + 1 + 1; omega) (.slice A2 n2 c2)
 have qy' := ky1.cell
 have fy' := ky1.frozen
 have hx4 := zao hx2 kx (.slice A2 n2 c2)
 have hy4 := zao hy3 kx (.slice A2 n2 c2)
 have rx := (kx1.far (p := ⟨p + 1 + 1 + 1,0,none⟩) (by show p + 1 + 1 ≠ p + 1 + 1 + 1; omega) (.slice A3 n3 c3)).cell
 have ry := (ky1.set_ (.slice A3 n3 c3)).cell
 have HE : Hid (zjj w X Y (.returned (.tuple #[.agg #[.slice A2 n2 c2],.agg #[.slice A3 n3 c3]])) ((W7.setCell ⟨p + 1 + 1,0,none⟩ (.slice A2 n2 c2)).setCell ⟨p + 1 + 1 + 1,0,none⟩ (.slice A3 n3 c3)).drew) :=
  ⟨_,_,_,_,_,_,rfl,zao hx4 ky1 _,zao hy4 ky1 _,(hB.setCell (p := ⟨p + 1 + 1,0,none⟩) (by show w.heap.size ≤ p + 1 + 1; omega) _).setCell (p := ⟨p + 1 + 1 + 1,0,none⟩) (by show w.heap.size ≤ p + 1 + 1 + 1; omega) _ |>.drew⟩
 clear k7 k9 kx ky hB hx2 hy3 kx1 ky1 hx4 hy4
 go_region
 all_goals
  go_wp2
  refine bodyPost_ret (v := .tuple #[.agg #[.slice A2 n2 c2],.agg #[.slice A3 n3 c3]]) (by simp [results,Tryz.results81,go_sem,rx,ry]) rfl ?_
  exact HE.out
theorem Sz.of_words {w : World} {x K n c : Nat} {A : oA9} (h : zaf w x A n c) (hn : n ≤ K) : Sz K x := by
 have h1 := zaD (b := 18446744073709551616) (by decide) x
 rw [h.len] at h1
 exact Nat.lt_of_lt_of_le h1 (Nat.pow_le_pow_right (by decide) hn)
theorem zdA : GcdC where
 of x y A D n m c d w hA hD hn hm hT := gcd_of x y A D n m c d w hA hD hn hm hT
 reduce x y A D n m c d w hA hD hn hm hT := zmh x y A D n m c d w hA hD hn hm hT
end Go.Proofs.YtfieheffipfahaaGreatDoor
