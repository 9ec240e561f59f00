/- What this claim leans on. -/
import Derived.Test.YtfieheffipfahaaGreatDoorXJ9Lib
namespace Go.Proofs.YtfieheffipfahaaGreatDoor
open Go Go.RowKit
set_option maxHeartbeats 16000000
set_option maxRecDepth 100000
set_option linter.unusedVariables false
set_option linter.unusedSimpArgs false
def zdJ (w : World) (x k : Nat) (e : Ending) (w' : World) : Prop := ∃ (A : oA9) (n c : Nat),e = .returned (.tuple #[.agg #[.slice A n c],.int .i64 (k : Int),.nilIface]) ∧ zaf w' x A n c ∧ Below w.heap.size w w'
def zbV (w : World) (er : Int) (e : Ending) (w' : World) : Prop := e = .returned (.tuple #[.agg #[.slice none 0 0],.int .i64 0,.iface 47 (.int .i64 er)]) ∧ Below w.heap.size w w'
theorem le1 {w W : World} {x k g : Nat} {t : TypeId} {A : oA9} {n c : Nat} {q : oA9} {r s : Nat} {kz : Int} (h : zaf W x A n c) (hz : kz = (k : Int)) (kd : Blk W g t #[.slice q r s]) (hB : Below w.heap.size w W) (hg : w.heap.size ≤ g) : zdJ w x k (.returned (.tuple #[.agg #[.slice A n c],.int .i64 kz,.nilIface])) (W.setCell ⟨g,0,none⟩ (.slice A n c)) :=
 ⟨_,_,_,by rw [hz],zag h kd (NoU.s1 _ _ _) (zaL _ _ _),bl1 _ hg hB⟩
theorem le0 {w W : World} {er : Int} {g : Nat} (hB : Below w.heap.size w W) (hg : w.heap.size ≤ g) : zbV w er (.returned (.tuple #[.agg #[.slice none 0 0],.int .i64 0,.iface 47 (.int .i64 er)])) (W.setCell ⟨g,0,none⟩ (.slice none 0 0)) := ⟨rfl,bl1 _ hg hB⟩
theorem zfx (l : List Nat) (A : oA9) (n c : Nat) (w : World) (h : zat w l A n c) (he : n ≤ l.getD 0 0) : Calls Tryz.prog 95 #[.slice A n c] w (zbV w 90) := by
 have hlen := h.len
 obtain ⟨b1,b2,b3⟩ := zav w 29 #[.slice none 0 0]
 have s0 := st1 b2
 have HG : Hid (zbV w 90 (.returned (.tuple #[.agg #[.slice none 0 0],.int .i64 0,.iface 47 (.int .i64 90)])) (w.alloc (.cells #[.slice none 0 0] 29))) := ⟨rfl,b1⟩
 have r0 := b2.c1
 by_cases h0 : n = 0
 ·subst h0
  clear h he hlen b1 b2 b3
  go_enter Tryz.func95,Tryz.ntmps95
  go_wp2
  refine bodyPost_ret (v := .tuple #[.agg #[.slice none 0 0],.int .i64 0,.iface 47 (.int .i64 90)]) (by simp [results,Tryz.results95,go_sem,r0]) rfl ?_
  exact HG.out
 ·obtain ⟨gb,ob,ib,rfl,hgb,hx,hc⟩ := h.first (by omega)
  obtain ⟨x,hxx⟩ : ∃ x,l.getD 0 0 = x := ⟨_,rfl⟩
  rw [hxx] at hc he hx
  have hc1 := zab b1 hc
  have i0 : ((n : Int) == 0) = false := by rw [beq_eq_false_iff_ne]; omega
  have i1 : (0 : Int) < (n : Int) := by omega
  have i2 : decide ((n : Int) ≤ (x : Int)) = true := by simp; omega
  have i5 : decide (n ≤ x) = true := by simp; omega
  have i3 : IntKind.i64.wrap (x : Int) = (x : Int) := IntWalk.i64_in _ (by omega)
  clear h he hlen b1 b2 b3 hc hxx
  go_enter Tryz.func95,Tryz.ntmps95
  go_wp2
  refine bodyPost_ret (v := .tuple #[.agg #[.slice none 0 0],.int .i64 0,.iface 47 (.int .i64 90)]) (by simp [results,Tryz.results95,go_sem,r0]) rfl ?_
  exact HG.out
theorem zem (t z : Bool) (l : List Nat) (A : oA9) (n c : Nat) (w : World) (h : zat w l A n c) (hn : n ≤ 2147483648) (he : l.getD 0 0 < n) (ht : zbE (zcS l 0) = t) (hz : t = true → decide (zdu (zcS l 0) = 0) = z) :
  Calls Tryz.prog 95 #[.slice A n c] w (if t = true ∧ z = false then zdJ w (zdu (zcS l 0)) (zap l 0) else zbV w 91) := by
 have hlen := h.len
 obtain ⟨b1,b2,b3⟩ := zav w 29 #[.slice none 0 0]
 obtain ⟨gb,ob,ib,rfl,hgb,hx,hc⟩ := h.first (by omega)
 obtain ⟨A1,hs1,hm1⟩ := znS (n := n) (c := c) (k := 1) (m := 1 + l.getD 0 0) (some ⟨gb,ob,ib⟩) (by omega) (by omega) h.2.2.1
 have hme : (l.drop 1).take (1 + l.getD 0 0 - 1) = zcS l 0 := by unfold zcS; rw [show 1 + l.getD 0 0 - 1 = l.getD 0 0 by omega]
 have HP := lh9 (fun w' (hb : Below w.heap.size w w') => zjX (zcS l 0) A1 (1 + l.getD 0 0 - 1) (c - 1) w' (hme ▸ (hm1 w' l (h.below hb)).1) (hme ▸ (hm1 w' l (h.below hb)).2.1) (by omega))
 have hend : Hid ((1 : Int) + ((l.getD 0 0 : Nat) : Int) = ((zap l 0 : Nat) : Int)) := by show _ = _; unfold zap; omega
 obtain ⟨x,hxx⟩ : ∃ x,l.getD 0 0 = x := ⟨_,rfl⟩
 obtain ⟨E,hE⟩ : ∃ x,zap l 0 = x := ⟨_,rfl⟩
 obtain ⟨V,hV⟩ : ∃ x,zdu (zcS l 0) = x := ⟨_,rfl⟩
 rw [hxx] at hc he hx hs1 HP hend
 rw [hE] at hend
 rw [ht,hV] at HP
 rw [hV] at hz
 rw [hE,hV]
 have e1x : 1 + x - 1 = x := by omega
 rw [e1x] at hs1 HP
 have hs2 : ∀ w,(Instr.slice 42 (.slice (some ⟨gb,ob,ib⟩) n c) (some (.int .i64 1)) (some (.int .i64 (1 + (x : Int)))) none).run Tryz.prog w = .ok (.slice A1 x (c - 1)) w := fun w => by
  have h9 := hs1 w
  rw [show ((1 + x : Nat) : Int) = 1 + (x : Int) by omega] at h9
  exact h9
 clear hs1 e1x
 have hc1 := zab b1 hc
 have hk1 := b2
 have i0 : ((n : Int) == 0) = false := by rw [beq_eq_false_iff_ne]; omega
 have i1 : (0 : Int) < (n : Int) := by omega
 have i2 : decide ((n : Int) ≤ (x : Int)) = false := by simp; omega
 have i5 : decide (n ≤ x) = false := by simp; omega
 have i3 : IntKind.i64.wrap (x : Int) = (x : Int) := IntWalk.i64_in _ (by omega)
 have i4 : IntKind.i64.wrap (1 + (x : Int)) = 1 + (x : Int) := IntWalk.i64_in _ (by omega)
 have HB := lh9 b1
 have hHP : Hid (∀ w',Below w.heap.size w w' → Calls Tryz.prog 126 #[.slice A1 x (c - 1)] w' (zbA w' (if t then V else 0) t)) := HP.out
 clear h he hlen b1 b2 b3 hc hxx hE hV ht hm1 hme HP
 cases t with
 | false =>
   clear hz
   rw [if_neg (by simp)]
   go_enter Tryz.func95,Tryz.ntmps95
   go_wp2_with fail
   refine (hHP.out _ HB.out).mono ?_
   rintro e w1 ⟨A2,n2,c2,rfl,hw2,hb⟩
   have hB1 := zaa HB.out hb
   have hk2 := zac hb hk1
   obtain ⟨d1,d2,d3⟩ := zav w1 29 #[.slice A2 n2 c2]
   have hB2 := zaa hB1 d1
   have hk3 := zac d1 hk2
   have s0 := st1 hk3
   have HG : Hid (zbV w 91 (.returned (.tuple #[.agg #[.slice none 0 0],.int .i64 0,.iface 47 (.int .i64 91)])) ((w1.alloc (.cells #[.slice A2 n2 c2] 29)).setCell ⟨w.heap.size,0,none⟩ (.slice none 0 0))) := le0 hB2 (Nat.le_refl _)
   have r0 := (sn1 hk3 (.slice none 0 0)).c1
   clear hk1 hk2 hk3 hB1 hB2 d1 d2 d3 hw2 hb HB hHP
   go_wp2
   refine bodyPost_ret (v := .tuple #[.agg #[.slice none 0 0],.int .i64 0,.iface 47 (.int .i64 91)]) (by simp [results,Tryz.results95,go_sem,r0]) rfl ?_
   exact HG.out
 | true =>
   have hz2 := hz rfl
   clear hz
   rw [if_pos rfl] at hHP
   cases z with
   | true =>
     rw [if_neg (by simp)]
     go_enter Tryz.func95,Tryz.ntmps95
     go_wp2_with fail
     refine (hHP.out _ HB.out).mono ?_
     rintro e w1 ⟨A2,n2,c2,rfl,hw2,hb⟩
     have hB1 := zaa HB.out hb
     have hk2 := zac hb hk1
     obtain ⟨d1,d2,d3⟩ := zav w1 29 #[.slice A2 n2 c2]
     have hB2 := zaa hB1 d1
     have hk3 := zac d1 hk2
     have hw3 := hw2.below d1
     have g3 := d2.c1
     have HZ := lh9 (zbU (of_decide_eq_true hz2) hw3)
     clear hk1 hk2 hB1 d1 d2 d3 hw2 hb HB hHP hw3 hz2 hend
     go_wp2_with fail
     generalize w1.alloc (.cells #[.slice A2 n2 c2] 29) = W at *
     refine HZ.out.mono ?_
     rintro e w4 ⟨rfl,hb⟩
     have hB3 := zaa hB2 hb
     have hk4 := zac hb hk3
     have s0 := st1 hk4
     have HG : Hid (zbV w 91 (.returned (.tuple #[.agg #[.slice none 0 0],.int .i64 0,.iface 47 (.int .i64 91)])) (w4.setCell ⟨w.heap.size,0,none⟩ (.slice none 0 0))) := le0 hB3 (Nat.le_refl _)
     have r0 := (sn1 hk4 (.slice none 0 0)).c1
     clear hk3 hk4 hB3 hB2 hb HZ g3
     go_wp2
     refine bodyPost_ret (v := .tuple #[.agg #[.slice none 0 0],.int .i64 0,.iface 47 (.int .i64 91)]) (by simp [results,Tryz.results95,go_sem,r0]) rfl ?_
     exact HG.out
   | false =>
     rw [if_pos ⟨rfl,rfl⟩]
     go_enter Tryz.func95,Tryz.ntmps95
     go_wp2_with fail
     refine (hHP.out _ HB.out).mono ?_
     rintro e w1 ⟨A2,n2,c2,rfl,hw2,hb⟩
     have hB1 := zaa HB.out hb
     have hk2 := zac hb hk1
     obtain ⟨d1,d2,d3⟩ := zav w1 29 #[.slice A2 n2 c2]
     have hB2 := zaa hB1 d1
     have hk3 := zac d1 hk2
     have hw3 := hw2.below d1
     have g3 := d2.c1
     have HZ := lh9 (zbN (of_decide_eq_false hz2) hw3)
     have HW3 := lh9 hw3
     clear hk1 hk2 hB1 d1 d2 d3 hw2 hb HB hHP hw3 hz2
     go_wp2_with fail
     generalize w1.alloc (.cells #[.slice A2 n2 c2] 29) = W at *
     refine HZ.out.mono ?_
     rintro e w4 ⟨rfl,hb⟩
     have hB3 := zaa hB2 hb
     have hk4 := zac hb hk3
     have g4 := zab hb g3
     have s0 := st1 hk4
     have HG : Hid (zdJ w V E (.returned (.tuple #[.agg #[.slice A2 n2 c2],.int .i64 (1 + (x : Int)),.nilIface])) (w4.setCell ⟨w.heap.size,0,none⟩ (.slice A2 n2 c2))) := le1 (HW3.out.below hb) hend.out hk4 hB3 (Nat.le_refl _)
     have r0 := (sn1 hk4 (.slice A2 n2 c2)).c1
     clear hk3 hk4 hB3 hB2 hb HZ g3 HW3 hend
     go_wp2
     refine bodyPost_ret (v := .tuple #[.agg #[.slice A2 n2 c2],.int .i64 (1 + (x : Int)),.nilIface]) (by simp [results,Tryz.results95,go_sem,r0]) rfl ?_
     exact HG.out
theorem zgt (l : List Nat) (A : oA9) (n c : Nat) (w : World) (h : zat w l A n c) (hn : n ≤ 2147483648) (he : zaD l 0 = 0) : Calls Tryz.prog 95 #[.slice A n c] w (zdJ w (zai l 0) (zap l 0)) := by
 unfold zaD at he
 rw [h.len] at he
 by_cases h1 : n ≤ 0 + l.getD 0 0
 ·rw [if_pos h1] at he; exact absurd he (by decide)
 ·rw [if_neg h1] at he
  by_cases h2 : zbE (zcS l 0) = true ∧ zdu (zcS l 0) ≠ 0
  ·have k := zem true false l A n c w h hn (by omega) h2.1 (fun _ => decide_eq_false h2.2)
   rw [if_pos ⟨rfl,rfl⟩] at k
   exact k
  ·rw [if_neg h2] at he; exact absurd he (by decide)
theorem zhb (l : List Nat) (A : oA9) (n c : Nat) (w : World) (h : zat w l A n c) (hn : n ≤ 2147483648) (he : zaD l 0 ≠ 0) : Calls Tryz.prog 95 #[.slice A n c] w (zbV w (zaD l 0)) := by
 unfold zaD at he ⊢
 rw [h.len] at he ⊢
 by_cases h1 : n ≤ 0 + l.getD 0 0
 ·rw [if_pos h1]; exact zfx l A n c w h (by omega)
 ·rw [if_neg h1] at he ⊢
  by_cases h2 : zbE (zcS l 0) = true ∧ zdu (zcS l 0) ≠ 0
  ·rw [if_pos h2] at he; exact absurd rfl he
  ·rw [if_neg h2]
   have k := zem (zbE (zcS l 0)) (decide (zdu (zcS l 0) = 0)) l A n c w h hn (by omega) rfl (fun _ => rfl)
   rw [if_neg (by rintro ⟨a,b⟩; exact h2 ⟨a,of_decide_eq_false b⟩)] at k
   exact k
theorem lead_yes (l : List Nat) (k : Nat) (A : oA9) (n c : Nat) (w : World) (h : zat w (l.drop k) A n c) (hn : n ≤ 2147483648) (hk : k ≤ l.length) (he : zaD l k = 0) (u : Nat) (hu : 1 + l.getD k 0 = u) : Calls Tryz.prog 95 #[.slice A n c] w (zdJ w (zai l k) u) := by
 subst hu
 have q := zgt (l.drop k) A n c w h hn (by rw [zfz hk]; exact he)
 rw [zna] at q
 have e : zap (l.drop k) 0 = 1 + l.getD k 0 := by unfold zap; rw [zhU]
 rw [e] at q
 exact q
theorem lead_no (l : List Nat) (k : Nat) (A : oA9) (n c : Nat) (w : World) (h : zat w (l.drop k) A n c) (hn : n ≤ 2147483648) (hk : k ≤ l.length) (he : zaD l k ≠ 0) : Calls Tryz.prog 95 #[.slice A n c] w (zbV w (zaD l k)) := by
 have q := zhb (l.drop k) A n c w h hn (by rw [zfz hk]; exact he)
 rw [zfz hk] at q
 exact q
theorem zcQ (n : Int) (s : ByteArray) (k : Int) (w : World) : Calls Tryz.prog 56 #[.iface 47 (.int .i64 n),.string s,.int .i64 k] w fun e w' => ∃ (et : TypeId) (ex : Value),e = .returned (.iface et ex) ∧ zbO w' (.spot n s k) (.iface et ex) ∧ Below w.heap.size w w' := by
 refine (api_wrap n s k w).mono ?_
 rintro e w' ⟨v,rfl,⟨fb,rfl,h⟩,hb⟩
 exact ⟨_,_,rfl,⟨fb,rfl,h⟩,hb⟩
end Go.Proofs.YtfieheffipfahaaGreatDoor
