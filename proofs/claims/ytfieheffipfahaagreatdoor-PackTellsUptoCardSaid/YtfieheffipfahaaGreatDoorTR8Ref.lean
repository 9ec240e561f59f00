/- What this claim leans on. -/
import Derived.Test.YtfieheffipfahaaGreatDoorTP8D
namespace Go.Proofs.YtfieheffipfahaaGreatDoor
open Go Go.RowKit
set_option maxHeartbeats 16000000
set_option maxRecDepth 100000
set_option linter.unusedVariables false
set_option linter.unusedSimpArgs false
def zeo (w : World) (r : Rat) (b : Bool) (A : oA9) (n c : Nat) (E : oA9) (k f : Nat) : Prop := zcy w r.num b A n c ∧ zaj w r.den E k f
theorem zeo.below {w w' : World} {r : Rat} {b : Bool} {A : oA9} {n c : Nat} {E : oA9} {k f : Nat} (h : zeo w r b A n c E k f) (hb : Below w.heap.size w w') : zeo w' r b A n c E k f := ⟨h.1.below hb,h.2.below hb⟩
theorem zeo.to {w : World} {r s : Rat} {b : Bool} {A : oA9} {n c : Nat} {E : oA9} {k f : Nat} (e : r = s) (h : zeo w r b A n c E k f) : zeo w s b A n c E k f := e ▸ h
def zfx (w : World) (r : Rat) (e : Ending) (w' : World) : Prop := ∃ (b : Bool) (A : oA9) (n c : Nat) (E : oA9) (k f : Nat),e = .returned (.agg #[.bool b,.slice A n c,.slice E k f]) ∧ zeo w' r b A n c E k f ∧ Below w.heap.size w w'
theorem zgm {w w' : World} {r : Rat} {b : Bool} {A : oA9} {n c : Nat} {E : oA9} {k f : Nat} {g : Nat} {t : TypeId} {cs : Array Value} (h : zeo w r b A n c E k f) (hk : Blk w g t cs) (hcs : NoU cs) (ho : zej g w w') : zeo w' r b A n c E k f := ⟨ref_off h.1 hk hcs ho,ziJ h.2 hk hcs ho⟩
theorem gr3 {w W : World} {r : Rat} {g : Nat} {t : TypeId} {b : Bool} {A E : oA9} {n c k f : Nat} {p : Bool} {q q2 : oA9} {r1 s r2 s2 : Nat} (h : zeo W r b A n c E k f) (kd : Blk W g t #[.bool p,.slice q r1 s,.slice q2 r2 s2]) (hB : Below w.heap.size w W) (hg : w.heap.size ≤ g) : zfx w r (.returned (.agg #[.bool b,.slice A n c,.slice E k f])) (((W.setCell ⟨g,0,none⟩ (.bool b)).setCell ⟨g,1,none⟩ (.slice A n c)).setCell ⟨g,2,none⟩ (.slice E k f)) :=
 ⟨_,_,_,_,_,_,_,rfl,zgm h kd (NoU.s3 _ _ _ _ _ _ _) (zcL _ _ _ _ _),bl3 _ _ _ hg hB⟩
theorem zaj.to {w : World} {x y : Nat} {A : oA9} {n c : Nat} (e : x = y) (h : zaj w x A n c) : zaj w y A n c := e ▸ h
theorem zdY (p d : Int) (hd : d ≠ 0) (s : Bool) (hs : s = (decide (p < 0) != decide (d < 0))) : sgI s (p.natAbs / Nat.gcd p.natAbs d.natAbs) = (Rat.divInt p d).num ∧ d.natAbs / Nat.gcd p.natAbs d.natAbs = (Rat.divInt p d).den := by
 refine ⟨?_,(zkT p d hd).symm⟩
 have h1 := zkU p d hd
 have h2 := ziP p d hd
 rw [← h1]
 generalize (Rat.divInt p d).num = z at *
 unfold sgI
 by_cases hp : p < 0
 ·by_cases hq : d < 0
  ·rw [decide_eq_true hp,decide_eq_true hq] at hs; subst hs; simp; omega
  ·rw [decide_eq_true hp,decide_eq_false hq] at hs; subst hs; simp; omega
 ·by_cases hq : d < 0
  ·rw [decide_eq_false hp,decide_eq_true hq] at hs; subst hs; simp
   by_cases h0 : p = 0
   ·subst h0; simp at h1; omega
   ·omega
  ·rw [decide_eq_false hp,decide_eq_false hq] at hs; subst hs; simp; omega
theorem zlp (p : Int) (d : Int) (baa : Bool) (Baa : oA9) (maa daa : Nat) (bab : Bool) (Bab : oA9) (mab dab : Nat) (Kp : Nat) (Kd : Nat) (w : World) (zaa : Sz Kp p.natAbs) (haa : zcy w p baa Baa maa daa) (zab : Sz Kd d.natAbs) (hab : zcy w d bab Bab mab dab) (qaa : Kp ≤ 16777216) (qab : Kd ≤ 16777216) (h0 : d ≠ 0) :
  Calls Tryz.prog 40 #[.agg #[.bool baa,.slice Baa maa daa],.agg #[.bool bab,.slice Bab mab dab]] w (zfx w (Rat.divInt p d)) := by
 have HG0 : Hid (Nat.gcd p.natAbs d.natAbs ≠ 0) := Nat.gcd_ne_zero_right (by omega)
 have H0 := lh9 h0
 have HCASE : Hid ((p < 0 ∧ d < 0) ∨ (p < 0 ∧ ¬ d < 0) ∨ (¬ p < 0 ∧ d < 0) ∨ (¬ p < 0 ∧ ¬ d < 0)) := by show _ ∨ _; omega
 clear h0
 have HZaa := lh9 zaa
 have HZab := lh9 zab
 have HNaa := lh9 (fun w' (b : Below w.heap.size w w') => haa.below b)
 have HNaaq := lh9 (fun w' (b : Below w.heap.size w w') => (HNaa.out w' b).2)
 have HZaaq : Hid (Sz Kp p.natAbs) := HZaa.out
 have HNab := lh9 (fun w' (b : Below w.heap.size w w') => hab.below b)
 have HNabq := lh9 (fun w' (b : Below w.heap.size w w') => (HNab.out w' b).2)
 have HZabq : Hid (Sz Kd d.natAbs) := HZab.out
 clear haa zaa hab zab
 go_enter Tryz.func40,Tryz.ntmps40
 have hB := Below.refl w.heap.size w
 obtain ⟨bx1,bx2,bx3,bx4,bz⟩ := zcD w 38 38 40 #[.bool baa,.slice Baa maa daa] #[.bool bab,.slice Bab mab dab] #[.bool false,.slice none 0 0,.slice none 0 0]
 have hB := zac hB bx1
 obtain ⟨g1,e1⟩ := bx2.c2
 obtain ⟨g2,e2⟩ := bx3.c2
 have k3 := bx4
 clear bx1 bx2 bx3 bx4 bz
 go_wp2_with fail
 generalize ((w.alloc (.cells #[.bool baa,.slice Baa maa daa] 38)).alloc (.cells #[.bool bab,.slice Bab mab dab] 38)).alloc (.cells #[.bool false,.slice none 0 0,.slice none 0 0] 40) = W1 at *
 have HZ4 : Hid (Sz (Kp + Kd) (Nat.gcd p.natAbs d.natAbs)) := Sz.gcd HZaaq.out HZabq.out
 (with_reducible refine (zjW (p.natAbs) (d.natAbs) Baa Bab maa mab daa dab _ (HNaaq.out _ hB) (HNabq.out _ hB) (szh HZaaq (HNaaq.out _ hB)) (szh HZabq (HNabq.out _ hB))).mono ?_)
 rintro e wc2 ⟨C4,r4,f4,rfl,hw4,hb⟩
 have hB := zac hB hb
 have g1 := zad hb g1
 have e1 := zad hb e1
 have g2 := zad hb g2
 have e2 := zad hb e2
 have k3 := zae hb k3
 have HN4 := lh9 hw4
 clear hb hw4
 go_wp2_with fail
 have HZ5 : Hid (Sz (Kp) (p.natAbs / (Nat.gcd p.natAbs d.natAbs))) := Sz.of_le HZaaq.out (Nat.div_le_self _ _)
 have HZ6 : Hid (Sz (Kp) (p.natAbs % (Nat.gcd p.natAbs d.natAbs))) := Sz.of_le HZaaq.out (Nat.mod_le _ _)
 (with_reducible refine (zgO (p.natAbs) (Nat.gcd p.natAbs d.natAbs) Baa C4 maa r4 daa f4 _ (HNaaq.out _ hB) HN4.out (szh HZaaq (HNaaq.out _ hB)) (szh HZ4 HN4.out) HG0.out).mono ?_)
 rintro e wc3 ⟨C5,r5,f5,C6,r6,f6,rfl,hw5,hw6,hb⟩
 have hB := zac hB hb
 have g1 := zad hb g1
 have e1 := zad hb e1
 have g2 := zad hb g2
 have e2 := zad hb e2
 have k3 := zae hb k3
 have HN4 := lh9 (HN4.out.below hb)
 have HN5 := lh9 hw5
 have HN6 := lh9 hw6
 clear hb hw5 hw6
 go_wp2_with fail
 have HZ7 : Hid (Sz (Kd) (d.natAbs / (Nat.gcd p.natAbs d.natAbs))) := Sz.of_le HZabq.out (Nat.div_le_self _ _)
 have HZ8 : Hid (Sz (Kd) (d.natAbs % (Nat.gcd p.natAbs d.natAbs))) := Sz.of_le HZabq.out (Nat.mod_le _ _)
 (with_reducible refine (zgO (d.natAbs) (Nat.gcd p.natAbs d.natAbs) Bab C4 mab r4 dab f4 _ (HNabq.out _ hB) HN4.out (szh HZabq (HNabq.out _ hB)) (szh HZ4 HN4.out) HG0.out).mono ?_)
 rintro e wc4 ⟨C7,r7,f7,C8,r8,f8,rfl,hw7,hw8,hb⟩
 have hB := zac hB hb
 have g1 := zad hb g1
 have e1 := zad hb e1
 have g2 := zad hb g2
 have e2 := zad hb e2
 have k3 := zae hb k3
 have HN4 := lh9 (HN4.out.below hb)
 have HN5 := lh9 (HN5.out.below hb)
 have HN6 := lh9 (HN6.out.below hb)
 have HN7 := lh9 hw7
 have HN8 := lh9 hw8
 clear hb hw7 hw8
 rcases HCASE.out with hq | hq | hq | hq
 ·clear HCASE
  obtain ⟨hp,hd⟩ := hq
  have HMP := lh9 (zdY p d H0.out false (by simp [hp,hd] <;> omega))
  have Hsp := lh9 hp
  have Hsd := lh9 hd
  clear hp hd
  obtain rfl : baa = true := ((HNaa.out _ hB)).1.trans (decide_eq_true (by have := Hsp.out; omega))
  obtain rfl : bab = true := ((HNab.out _ hB)).1.trans (decide_eq_true (by have := Hsd.out; omega))
  go_wp2_with fail
  have HZ9 : Hid (Sz (Kp) (sgI false (p.natAbs / (Nat.gcd p.natAbs d.natAbs))).natAbs) := (by rw [zeb]; exact HZ5.out)
  (with_reducible refine (zdm false (p.natAbs / (Nat.gcd p.natAbs d.natAbs)) C5 r5 f5 _ HN5.out (szh HZ5 HN5.out)).mono ?_)
  rintro e wc5 ⟨b9,B9,m9,d9,rfl,hw9,hb⟩
  have hB := zac hB hb
  have g1 := zad hb g1
  have e1 := zad hb e1
  have g2 := zad hb g2
  have e2 := zad hb e2
  have k3 := zae hb k3
  have HN4 := lh9 (HN4.out.below hb)
  have HN5 := lh9 (HN5.out.below hb)
  have HN6 := lh9 (HN6.out.below hb)
  have HN7 := lh9 (HN7.out.below hb)
  have HN8 := lh9 (HN8.out.below hb)
  have HN9 := lh9 hw9
  clear hb hw9
  obtain ⟨sc0,sf0,sc1,sf1,sc2,sf2⟩ := st3 k3 (.bool b9) (.slice B9 m9 d9)
  obtain ⟨r0,r1,r2⟩ := (sn3 k3 (.bool b9) (.slice B9 m9 d9) (.slice C7 r7 f7)).c3
  have HG := lh9 (gr3 (⟨zcy.to HMP.out.1 HN9.out,zaj.to HMP.out.2 HN7.out⟩) k3 hB (by omega))
  go_wp2
  refine bodyPost_ret (v := .agg #[.bool b9,.slice B9 m9 d9,.slice C7 r7 f7]) (by simp [results,Tryz.results40,go_sem,r0,r1,r2]) rfl ?_
  exact HG.out
 ·clear HCASE
  obtain ⟨hp,hd⟩ := hq
  have HMP := lh9 (zdY p d H0.out true (by simp [hp,hd] <;> omega))
  have Hsp := lh9 hp
  have Hsd := lh9 hd
  clear hp hd
  obtain rfl : baa = true := ((HNaa.out _ hB)).1.trans (decide_eq_true (by have := Hsp.out; omega))
  obtain rfl : bab = false := ((HNab.out _ hB)).1.trans (decide_eq_false (by have := Hsd.out; omega))
  go_wp2_with fail
  have HZ9 : Hid (Sz (Kp) (sgI true (p.natAbs / (Nat.gcd p.natAbs d.natAbs))).natAbs) := (by rw [zeb]; exact HZ5.out)
  (with_reducible refine (zdm true (p.natAbs / (Nat.gcd p.natAbs d.natAbs)) C5 r5 f5 _ HN5.out (szh HZ5 HN5.out)).mono ?_)
  rintro e wc5 ⟨b9,B9,m9,d9,rfl,hw9,hb⟩
  have hB := zac hB hb
  have g1 := zad hb g1
  have e1 := zad hb e1
  have g2 := zad hb g2
  have e2 := zad hb e2
  have k3 := zae hb k3
  have HN4 := lh9 (HN4.out.below hb)
  have HN5 := lh9 (HN5.out.below hb)
  have HN6 := lh9 (HN6.out.below hb)
  have HN7 := lh9 (HN7.out.below hb)
  have HN8 := lh9 (HN8.out.below hb)
  have HN9 := lh9 hw9
  clear hb hw9
  obtain ⟨sc0,sf0,sc1,sf1,sc2,sf2⟩ := st3 k3 (.bool b9) (.slice B9 m9 d9)
  obtain ⟨r0,r1,r2⟩ := (sn3 k3 (.bool b9) (.slice B9 m9 d9) (.slice C7 r7 f7)).c3
  have HG := lh9 (gr3 (⟨zcy.to HMP.out.1 HN9.out,zaj.to HMP.out.2 HN7.out⟩) k3 hB (by omega))
  go_wp2
  refine bodyPost_ret (v := .agg #[.bool b9,.slice B9 m9 d9,.slice C7 r7 f7]) (by simp [results,Tryz.results40,go_sem,r0,r1,r2]) rfl ?_
  exact HG.out
 ·clear HCASE
  obtain ⟨hp,hd⟩ := hq
  have HMP := lh9 (zdY p d H0.out true (by simp [hp,hd] <;> omega))
  have Hsp := lh9 hp
  have Hsd := lh9 hd
  clear hp hd
  obtain rfl : baa = false := ((HNaa.out _ hB)).1.trans (decide_eq_false (by have := Hsp.out; omega))
  obtain rfl : bab = true := ((HNab.out _ hB)).1.trans (decide_eq_true (by have := Hsd.out; omega))
  go_wp2_with fail
  have HZ9 : Hid (Sz (Kp) (sgI true (p.natAbs / (Nat.gcd p.natAbs d.natAbs))).natAbs) := (by rw [zeb]; exact HZ5.out)
  (with_reducible refine (zdm true (p.natAbs / (Nat.gcd p.natAbs d.natAbs)) C5 r5 f5 _ HN5.out (szh HZ5 HN5.out)).mono ?_)
  rintro e wc5 ⟨b9,B9,m9,d9,rfl,hw9,hb⟩
  have hB := zac hB hb
  have g1 := zad hb g1
  have e1 := zad hb e1
  have g2 := zad hb g2
  have e2 := zad hb e2
  have k3 := zae hb k3
  have HN4 := lh9 (HN4.out.below hb)
  have HN5 := lh9 (HN5.out.below hb)
  have HN6 := lh9 (HN6.out.below hb)
  have HN7 := lh9 (HN7.out.below hb)
  have HN8 := lh9 (HN8.out.below hb)
  have HN9 := lh9 hw9
  clear hb hw9
  obtain ⟨sc0,sf0,sc1,sf1,sc2,sf2⟩ := st3 k3 (.bool b9) (.slice B9 m9 d9)
  obtain ⟨r0,r1,r2⟩ := (sn3 k3 (.bool b9) (.slice B9 m9 d9) (.slice C7 r7 f7)).c3
  have HG := lh9 (gr3 (⟨zcy.to HMP.out.1 HN9.out,zaj.to HMP.out.2 HN7.out⟩) k3 hB (by omega))
  go_wp2
  refine bodyPost_ret (v := .agg #[.bool b9,.slice B9 m9 d9,.slice C7 r7 f7]) (by simp [results,Tryz.results40,go_sem,r0,r1,r2]) rfl ?_
  exact HG.out
 ·clear HCASE
  obtain ⟨hp,hd⟩ := hq
  have HMP := lh9 (zdY p d H0.out false (by simp [hp,hd] <;> omega))
  have Hsp := lh9 hp
  have Hsd := lh9 hd
  clear hp hd
  obtain rfl : baa = false := ((HNaa.out _ hB)).1.trans (decide_eq_false (by have := Hsp.out; omega))
  obtain rfl : bab = false := ((HNab.out _ hB)).1.trans (decide_eq_false (by have := Hsd.out; omega))
  go_wp2_with fail
  have HZ9 : Hid (Sz (Kp) (sgI false (p.natAbs / (Nat.gcd p.natAbs d.natAbs))).natAbs) := (by rw [zeb]; exact HZ5.out)
  (with_reducible refine (zdm false (p.natAbs / (Nat.gcd p.natAbs d.natAbs)) C5 r5 f5 _ HN5.out (szh HZ5 HN5.out)).mono ?_)
  rintro e wc5 ⟨b9,B9,m9,d9,rfl,hw9,hb⟩
  have hB := zac hB hb
  have g1 := zad hb g1
  have e1 := zad hb e1
  have g2 := zad hb g2
  have e2 := zad hb e2
  have k3 := zae hb k3
  have HN4 := lh9 (HN4.out.below hb)
  have HN5 := lh9 (HN5.out.below hb)
  have HN6 := lh9 (HN6.out.below hb)
  have HN7 := lh9 (HN7.out.below hb)
  have HN8 := lh9 (HN8.out.below hb)
  have HN9 := lh9 hw9
  clear hb hw9
  obtain ⟨sc0,sf0,sc1,sf1,sc2,sf2⟩ := st3 k3 (.bool b9) (.slice B9 m9 d9)
  obtain ⟨r0,r1,r2⟩ := (sn3 k3 (.bool b9) (.slice B9 m9 d9) (.slice C7 r7 f7)).c3
  have HG := lh9 (gr3 (⟨zcy.to HMP.out.1 HN9.out,zaj.to HMP.out.2 HN7.out⟩) k3 hB (by omega))
  go_wp2
  refine bodyPost_ret (v := .agg #[.bool b9,.slice B9 m9 d9,.slice C7 r7 f7]) (by simp [results,Tryz.results40,go_sem,r0,r1,r2]) rfl ?_
  exact HG.out
theorem zmT {n : Nat} (h : n ≠ 0) : (n : Int) ≠ 0 := by omega
end Go.Proofs.YtfieheffipfahaaGreatDoor
