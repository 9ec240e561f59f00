/- What this claim leans on. -/
import Derived.Test.YtgigccjiblaefaaGreatDoorBBunP
namespace Go.Proofs.YtgigccjiblaefaaGreatDoor
open Go Go.RowKit
set_option maxRecDepth 100000
set_option linter.unusedVariables false
set_option linter.unusedSimpArgs false
def zba (w : World) (z : Int) (b : Bool) (A : Option Addr) (n c : Nat) : Prop := b = decide (z < 0) ∧ zal w z.natAbs A n c
theorem zba.below {w w' : World} {z : Int} {b : Bool} {A : Option Addr} {n c : Nat} (h : zba w z b A n c) (hb : Below w.heap.size w w') : zba w' z b A n c := ⟨h.1, h.2.below hb⟩
theorem zba.to {w : World} {z z' : Int} {b : Bool} {A : Option Addr} {n c : Nat} (e : z = z') (h : zba w z b A n c) : zba w z' b A n c := e ▸ h
def zdT (w : World) (z : Int) (e : Ending) (w' : World) : Prop := ∃ (b : Bool) (A : Option Addr) (n c : Nat), e = .returned (.agg #[.bool b, .slice A n c]) ∧ zba w' z b A n c ∧ Below w.heap.size w w'
theorem zgt {w : World} {A : Option Addr} {n g : Nat} {k : IntKind} {l : List Nat} {t : TypeId} {cs : Array Value} (h : zap w w.heap.size 1 A n (zar k l)) (hk : Blk w g t cs) (hcs : ∀ v ∈ cs.toList, ∀ z, v ≠ .int k z) : 0 < n → ∀ ad, A = some ad → ad.block ≠ g := fun hn ad e hg => by
 have hl := h.len_
 obtain ⟨ad', e', _, hc⟩ := h.2 hn
 rw [e] at e'
 injection e' with e'
 subst e'
 have h0 := hc 0 (.int k (l.getD 0 0 : Nat)) (zbO k _ 0 (by omega))
 have e0 : ad.add 0 = ad := by unfold Addr.add; rw [if_pos rfl]
 rw [e0] at h0
 obtain ⟨bk, off, pr⟩ := ad
 simp only at hg
 subst hg
 unfold Blk at hk
 cases pr with
 | none =>
   rw [show w.cell? ⟨bk, off, none⟩ = cs[off]? from cell_of_row w bk off _ t (0, 0) hk, ← Array.getElem?_toList] at h0
   exact hcs _ (List.mem_of_getElem? h0) _ rfl
 | some q => simp [World.cell?, hk] at h0
theorem zfO {w : World} {A : Option Addr} {n c x : Nat} (h : zal w x A n c) {p : Addr} (hp : 0 < n → ∀ ad, A = some ad → ad.block ≠ p.block) (u : Value) : zal (w.setCell p u) x A n c := by
 obtain ⟨hr, h1, h2⟩ := h
 refine ⟨⟨hr.1, fun hn => ?_⟩, h1, h2⟩
 obtain ⟨ad, e, hb, hc⟩ := hr.2 hn
 refine ⟨ad, e, by simpa using hb, fun j v hv => ?_⟩
 refine (World.cell?_setCell_other w p _ u (fun e2 => hp hn ad e ?_)).trans (hc j v hv)
 have := congrArg Addr.block e2
 rw [zaF] at this
 first | exact this | exact this.symm
theorem zem {w : World} {x : Nat} {p : Bool} {A q : Option Addr} {n c r s g : Nat} {t : TypeId} (h : zal w x A n c) (hk : Blk w g t #[.bool p, .slice q r s]) (p' : Bool) (q' : Option Addr) (r' s' : Nat) :
  zal ((w.setCell ⟨g, 0, none⟩ (.bool p')).setCell ⟨g, 1, none⟩ (.slice q' r' s')) x A n c := by
 have h1 := zfO (p := ⟨g, 0, none⟩) h (zgt h.1 hk (by intro v hv; simp at hv; rcases hv with rfl | rfl <;> intro z e <;> cases e)) (.bool p')
 exact zfO (p := ⟨g, 1, none⟩) h1 (zgt h1.1 (hk.set_ 0 (.bool p')) (by intro v hv; simp at hv; rcases hv with rfl | rfl <;> intro z e <;> cases e)) _
theorem ref_set2 {w : World} {z : Int} {b p : Bool} {A q : Option Addr} {n c r s g : Nat} {t : TypeId} (h : zba w z b A n c) (hk : Blk w g t #[.bool p, .slice q r s]) (p' : Bool) (q' : Option Addr) (r' s' : Nat) :
  zba ((w.setCell ⟨g, 0, none⟩ (.bool p')).setCell ⟨g, 1, none⟩ (.slice q' r' s')) z b A n c := ⟨h.1, zem h.2 hk p' q' r' s'⟩
def sgI (s : Bool) (x : Nat) : Int := if s then -(x : Int) else (x : Int)
theorem zeJ (s : Bool) (x : Nat) : (sgI s x).natAbs = x := by unfold sgI; split <;> omega
theorem sgI_neg (s : Bool) (x : Nat) : decide (sgI s x < 0) = (s && decide (0 < x)) := by unfold sgI; cases s <;> simp
theorem len16_ne {w : World} {x : Nat} {A : Option Addr} {n c : Nat} (h : zal w x A n c) : decide (0 < n) = decide (0 < x) := by
 rw [h.len]
 by_cases hx : x = 0
 ·subst hx; rfl
 ·have := (zfN (b := 65536) (by decide) x hx).1
  rw [decide_eq_true (by omega : 0 < x), decide_eq_true (by omega)]
theorem zdN (s : Bool) (x : Nat) (A : Option Addr) (n c : Nat) (w : World) (h : zal w x A n c) (hn : n ≤ 1099511627776) :
  Calls Tryz.prog 62 #[.bool s, .slice A n c] w (zdT w (sgI s x)) := by
 obtain ⟨hB, b2, b5⟩ := zbf w 38 #[.bool false, .slice none 0 0]
 have hh := h.below hB
 have hsx := sgI_neg s x
 rw [← len16_ne h] at hsx
 have HSX := Lib.hid hsx
 have HSA := Lib.hid (zeJ s x)
 clear h hsx
 cases s
 ·go_enter Tryz.func62, Tryz.ntmps62
  generalize hW : w.alloc (.cells #[.bool false, .slice none 0 0] 38) = W0 at *
  have hk9 := (b2.set_ 0 (.bool false)).set_ 1 (.slice A n c)
  have r0 := hk9.cell 0
  have r1 := hk9.cell 1
  have c0 := b2.cell 0
  have f0 := b2.frozen 0
  have c1 : (W0.setCell ⟨w.heap.size, 0, none⟩ (.bool false)).cell? ⟨w.heap.size, 1, none⟩ = some (.slice none 0 0) := (b2.set_ 0 (.bool false)).cell 1
  have f1 := (b2.set_ 0 (.bool false)).frozen 1
  have HG : Hid (zdT w (sgI false x) (.returned (.agg #[.bool false, .slice A n c])) ((W0.setCell ⟨w.heap.size, 0, none⟩ (.bool false)).setCell ⟨w.heap.size, 1, none⟩ (.slice A n c))) :=
   ⟨false, A, n, c, rfl, ⟨by rw [HSX.out]; rfl, by rw [HSA.out]; exact zem hh b2 _ _ _ _⟩, zaf _ (Nat.le_refl _) (zaf _ (Nat.le_refl _) hB)⟩
  clear hk9 b2 hh hB
  go_wp2
  refine bodyPost_ret (v := .agg #[.bool false, .slice A n c]) (by simp [results, Tryz.results62, go_sem, r0, r1]) rfl ?_
  exact HG.out
 ·have hd : decide ((0 : Int) < (n : Int)) = decide (0 < n) := by by_cases h : 0 < n <;> simp [h]
  obtain ⟨d, hd2⟩ : ∃ d, decide (0 < n) = d := ⟨_, rfl⟩
  rw [hd2] at hd HSX
  have hd3 : decide ((n : Int) > 0) = d := hd
  go_enter Tryz.func62, Tryz.ntmps62
  generalize hW : w.alloc (.cells #[.bool false, .slice none 0 0] 38) = W0 at *
  have hk9 := (b2.set_ 0 (.bool d)).set_ 1 (.slice A n c)
  have r0 := hk9.cell 0
  have r1 := hk9.cell 1
  have c0 := b2.cell 0
  have f0 := b2.frozen 0
  have c1 : (W0.setCell ⟨w.heap.size, 0, none⟩ (.bool d)).cell? ⟨w.heap.size, 1, none⟩ = some (.slice none 0 0) := (b2.set_ 0 (.bool d)).cell 1
  have f1 := (b2.set_ 0 (.bool d)).frozen 1
  have HG : Hid (zdT w (sgI true x) (.returned (.agg #[.bool d, .slice A n c])) ((W0.setCell ⟨w.heap.size, 0, none⟩ (.bool d)).setCell ⟨w.heap.size, 1, none⟩ (.slice A n c))) :=
   ⟨d, A, n, c, rfl, ⟨by rw [HSX.out]; rfl, by rw [HSA.out]; exact zem hh b2 _ _ _ _⟩, zaf _ (Nat.le_refl _) (zaf _ (Nat.le_refl _) hB)⟩
  clear hk9 b2 hh hB
  go_wp2
  refine bodyPost_ret (v := .agg #[.bool d, .slice A n c]) (by simp [results, Tryz.results62, go_sem, r0, r1]) rfl ?_
  exact HG.out
set_option maxHeartbeats 4000000 in
theorem zcm (b : Bool) (A : Option Addr) (n c : Nat) (l : List Nat) (w : World) (h : zaL w A n c l) :
  Calls Tryz.prog 12 #[.agg #[.bool b, .slice A n c]] w (zdT w (zOf b l)) := by
 obtain ⟨hB, x1, hk, x5⟩ := zaO w 24 38 #[.bool b, .slice A n c] #[.bool false, .slice none 0 0]
 have HAD := Lib.hid (arg_ref2 h)
 have hsz := (zcS h).len16'
 obtain ⟨X, hX⟩ : ∃ q, dv 18446744073709551616 l = q := ⟨_, rfl⟩
 have HZ : Hid (zOf b l = sgI b X) := by show _ = _; unfold zOf sgI; rw [hX]
 rw [hX] at HAD hsz
 have HXL : Hid (∀ q, q = (dg 65536 X).length → q ≤ 1099511627776) := fun q hq => by omega
 have HNW := Lib.hid (fun w' A n c (h : zal w' X A n c) hl => zdN b X A n c w' h hl)
 clear h hX
 go_enter Tryz.func12, Tryz.ntmps12
 go_wp2_with fail
 generalize (w.alloc (.cells #[.bool b, .slice A n c] 24)).alloc (.cells #[.bool false, .slice none 0 0] 38) = W0 at *
 have g1 : W0.cell? ⟨w.heap.size, 0, none⟩ = some (.bool b) := x1.cell 0
 have e1 : W0.cell? ⟨w.heap.size, 1, none⟩ = some (.slice A n c) := x1.cell 1
 clear x1 x5
 have j0 : W0.drew.cell? ⟨w.heap.size, 0, none⟩ = some (.bool b) := g1
 have j1 : W0.drew.cell? ⟨w.heap.size, 1, none⟩ = some (.slice A n c) := e1
 have hb0 := hB.drew
 have hk0 := hk.drew
 go_region_held3 (fun w' => Below w.heap.size w w' ∧ w'.cell? ⟨w.heap.size, 0, none⟩ = some (.bool b) ∧ w'.cell? ⟨w.heap.size, 1, none⟩ = some (.slice A n c))
  (first | (exact ⟨hb0, j0, j1⟩) | (go_split_ands; (repeat' apply And.intro); all_goals (first | with_reducible assumption | exact zad (by with_reducible assumption) hb | exact zac hb (by with_reducible assumption) | exact zaf _ (by dsimp only; omega) (zaf _ (by dsimp only; omega) (by with_reducible assumption)) | exact zah _ (by dsimp only; omega) (zah _ (by dsimp only; omega) (by with_reducible assumption)))))
  (first
    | (go_at_call 63; (with_reducible refine (HAD.out _ (by first | with_reducible assumption | exact And.left (by with_reducible assumption))).mono ?_); intro e w2 hg; obtain ⟨A2, n2, c2, rfl, hh2, hb⟩ := hg.elim; have hk1 := zae hb hk0; have hl2 := HXL.out n2 hh2.len)
    | (go_at_call 62; (with_reducible refine (HNW.out _ _ _ _ hh2 hl2).mono ?_); rintro e w3 ⟨b3, A3, n3, c3, rfl, hw3, hb⟩; go_split_ands; have hk2 := zae hb hk1; have c0 := hk2.cell 0; have f0 := hk2.frozen 0; have c1 : (w3.setCell ⟨w.heap.size + 1, 0, none⟩ (.bool b3)).cell? ⟨w.heap.size + 1, 1, none⟩ = some (.slice none 0 0) := (hk2.set_ 0 (.bool b3)).cell 1; have f1 := (hk2.set_ 0 (.bool b3)).frozen 1; have hbb : Below w.heap.size w w3 := zad (by with_reducible assumption) hb))
 have hk9 := (hk2.set_ 0 (.bool b3)).set_ 1 (.slice A3 n3 c3)
 have r0 := hk9.cell 0
 have r1 := hk9.cell 1
 have hwz := ref_set2 hw3 hk2 b3 A3 n3 c3
 have hbz := zaf (p := ⟨w.heap.size + 1, 1, none⟩) (.slice A3 n3 c3) (by dsimp only; omega) (zaf (p := ⟨w.heap.size + 1, 0, none⟩) (.bool b3) (by dsimp only; omega) hbb)
 have HG : Hid (zdT w (zOf b l) (.returned (.agg #[.bool b3, .slice A3 n3 c3])) ((w3.setCell ⟨w.heap.size + 1, 0, none⟩ (.bool b3)).setCell ⟨w.heap.size + 1, 1, none⟩ (.slice A3 n3 c3))) := by
  show zdT _ _ _ _
  rw [HZ.out]
  exact ⟨b3, A3, n3, c3, rfl, hwz, hbz⟩
 clear hk9 hwz hbz hbb hw3 c0 c1 f0 f1 hb0 hb
 go_wp2
 refine bodyPost_ret (v := .agg #[.bool b3, .slice A3 n3 c3]) (by simp [results, Tryz.results12, go_sem, r0, r1]) rfl ?_
 exact HG.out
end Go.Proofs.YtgigccjiblaefaaGreatDoor
