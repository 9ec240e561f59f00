/- What this claim leans on. -/
import Derived.Test.YtfieheffipfahaaGreatDoorTW9Awake
import Derived.Test.YtfieheffipfahaaGreatDoorTW8Make
namespace Go.Proofs.YtfieheffipfahaaGreatDoor
open Go Go.RowKit
set_option maxHeartbeats 16000000
set_option linter.unusedVariables false
theorem ratC {T : World → Prop} {M : Nat → Prop} (hTT : ∀ w,T w → zap w) (h0 : M 0 → RatG0 T) (h1 : M 1 → RatG1 T) (h2 : M 2 → RatG2 T) : RatC T M where
 g0 := h0
 g1 := h1
 g2 := h2
 new p q b b' A D n m c d w hT hA hD hn hm h0 := zhb p q b A n c b' D m d w (hTT w hT) hA hD hn hm h0
 newNo p q b b' A D n m c d w hT hA hD hn hm h0 := zhX p q b A n c b' D m d w (hTT w hT) hA hD hn hm h0
 of p q w hT h1 h2 h3 h4 h0 := rat_of p q w (hTT w hT) h1 h2 h3 h4 h0
 ofNo p q w hT h1 h2 h0 := zoh p q w (hTT w hT) h1 h2 (by omega) (by omega) h0
 num r b A n c E k f w hT h hf := zhc r b A n c E k f w (hTT w hT) h hf
 den r b A n c E k f w hT h hf := zha r b A n c E k f w (hTT w hT) h hf
 sign r b A n c E k f w hT h hf := zdl r b A n c E k f w (hTT w hT) h hf
 zero r b A n c E k f w hT h hf := zdK r b A n c E k f w (hTT w hT) h hf
 isInt r b A n c E k f w hT h hf := zbj r b A n c E k f w (hTT w hT) h hf
 bits r b A n c E k f w hT h hf := rat_bits r b A n c E k f w (hTT w hT) h hf
 same r s b b' A A' n n' c c' E E' k k' f f' w hT h h' hf hf' := zln r s b A n c E k f b' A' n' c' E' k' f' w (hTT w hT) h h' hf hf'
theorem rat9 : RatC zap (fun _ => False) := ratC (fun _ h => h) (fun h => h.elim) (fun h => h.elim) (fun h => h.elim)
theorem make9 (s : Bool) (A : oA9) (n c : Nat) (l : List Nat) (E : oA9) (u v : Nat) (e : List Nat) (w w' : World) (h : zav w A n c l) (k : zav w E u v e) (hb : Below w.heap.size w w') (hT : Tab9 w') :
  Calls Tryz.prog 11 #[.agg #[.bool s,.slice A n c,.slice E u v]] w' (zdx w' (fOf s l e)) :=
 znX (fun _ _ h hb => h.on hb) zbD rat9 s A n c l E u v e w' ⟨(h.reads.below hb).more hb.size,h.dgs,h.fits,h.small⟩ ⟨(k.reads.below hb).more hb.size,k.dgs,k.fits,k.small⟩ hT.1
section
variable {P : Program} {ops : Array Oper} {Q : Exit → Act → World → Prop} {a : Act} {w : World}
theorem rg9 {id : Nat} {cl : List (Addr × Value)} (h0 : Cs w cl) (h : (Cs w.drew cl ∧ Below w.heap.size w w.drew) → wpAnyH P .any ops (NoPanic Q) (fun w' => Cs w' cl ∧ Below w.heap.size w w') ops.size (Array.replicate ops.size false) a w.drew) (hm : P.follows Departure.mixedOrders = true := by kernel_rfl) : Code.wp P (.region id ops true) Q a w :=
 wp_region_noPanic (wp_region_held_drew (S := fun w' => Cs w' cl ∧ Below w.heap.size w w') hm ⟨h0.drew,(Below.refl _ w).drew⟩ h)
end
set_option maxRecDepth 100000
set_option linter.unusedSimpArgs false
def zcy (w : World) (z : Int) (b : Bool) (A : oA9) (n c : Nat) : Prop := b = decide (z < 0) ∧ zaj w z.natAbs A n c
theorem zcy.below {w w' : World} {z : Int} {b : Bool} {A : oA9} {n c : Nat} (h : zcy w z b A n c) (hb : Below w.heap.size w w') : zcy w' z b A n c := ⟨h.1,h.2.below hb⟩
theorem zcy.to {w : World} {z z' : Int} {b : Bool} {A : oA9} {n c : Nat} (e : z = z') (h : zcy w z b A n c) : zcy w z' b A n c := e ▸ h
def zeN (w : World) (z : Int) (e : Ending) (w' : World) : Prop := ∃ (b : Bool) (A : oA9) (n c : Nat),e = .returned (.agg #[.bool b,.slice A n c]) ∧ zcy w' z b A n c ∧ Below w.heap.size w w'
theorem ziV {w : World} {A : oA9} {n g : Nat} {k : IntKind} {l : List Nat} {t : TypeId} {cs : Array Value} (h : zan w w.heap.size 1 A n (zam k l)) (hk : Blk w g t cs) (hcs : ∀ v ∈ cs.toList,∀ z,v ≠ .int k z) : 0 < n → ∀ ad,A = some ad → ad.block ≠ g := fun hn ad e hg => by
 have hl := h.len_
 obtain ⟨ad',e',_,hc⟩ := h.2 hn
 rw [e] at e'
 injection e' with e'
 subst e'
 have h0 := hc 0 (.int k (l.getD 0 0 : Nat)) (zco k _ 0 (by omega))
 have e0 : ad.add 0 = ad := by unfold Addr.add; rw [if_pos rfl]
 rw [e0] at h0
 obtain ⟨bk,off,pr⟩ := ad
 simp only at hg
 subst hg
 unfold Blk at hk
 cases pr with
 | none =>
   rw [show w.cell? ⟨bk,off,none⟩ = cs[off]? from cell_of_row w bk off _ t (0,0) hk,← Array.getElem?_toList] at h0
   exact hcs _ (List.mem_of_getElem? h0) _ rfl
 | some q => simp [World.cell?,hk] at h0
theorem zhG {w : World} {A : oA9} {n c x : Nat} (h : zaj w x A n c) {p : Addr} (hp : 0 < n → ∀ ad,A = some ad → ad.block ≠ p.block) (u : Value) : zaj (w.setCell p u) x A n c := by
 obtain ⟨hr,h1,h2⟩ := h
 refine ⟨⟨hr.1,fun hn => ?_⟩,h1,h2⟩
 obtain ⟨ad,e,hb,hc⟩ := hr.2 hn
 refine ⟨ad,e,by simpa using hb,fun j v hv => ?_⟩
 refine (World.cell?_setCell_other w p _ u (fun e2 => hp hn ad e ?_)).trans (hc j v hv)
 have := congrArg Addr.block e2
 rw [zaz] at this
 first | exact this | exact this.symm
theorem zfj {w : World} {x : Nat} {p : Bool} {A q : oA9} {n c r s g : Nat} {t : TypeId} (h : zaj w x A n c) (hk : Blk w g t #[.bool p,.slice q r s]) (p' : Bool) (q' : oA9) (r' s' : Nat) :
  zaj ((w.setCell ⟨g,0,none⟩ (.bool p')).setCell ⟨g,1,none⟩ (.slice q' r' s')) x A n c := by
 have h1 := zhG (p := ⟨g,0,none⟩) h (ziV h.1 hk (by intro v hv; simp at hv; rcases hv with rfl | rfl <;> intro z e <;> cases e)) (.bool p')
 exact zhG (p := ⟨g,1,none⟩) h1 (ziV h1.1 (hk.set_ 0 (.bool p')) (by intro v hv; simp at hv; rcases hv with rfl | rfl <;> intro z e <;> cases e)) _
theorem ref_set2 {w : World} {z : Int} {b p : Bool} {A q : oA9} {n c r s g : Nat} {t : TypeId} (h : zcy w z b A n c) (hk : Blk w g t #[.bool p,.slice q r s]) (p' : Bool) (q' : oA9) (r' s' : Nat) :
  zcy ((w.setCell ⟨g,0,none⟩ (.bool p')).setCell ⟨g,1,none⟩ (.slice q' r' s')) z b A n c := ⟨h.1,zfj h.2 hk p' q' r' s'⟩
def sgI (s : Bool) (x : Nat) : Int := if s then -(x : Int) else (x : Int)
theorem zeb (s : Bool) (x : Nat) : (sgI s x).natAbs = x := by unfold sgI; split <;> omega
theorem sgI_neg (s : Bool) (x : Nat) : decide (sgI s x < 0) = (s && decide (0 < x)) := by unfold sgI; cases s <;> simp
theorem len16_ne {w : World} {x : Nat} {A : oA9} {n c : Nat} (h : zaj w x A n c) : decide (0 < n) = decide (0 < x) := by
 rw [h.len]
 by_cases hx : x = 0
 ·subst hx; rfl
 ·have := (zfb (b := 65536) (by decide) x hx).1
  rw [decide_eq_true (by omega : 0 < x),decide_eq_true (by omega)]
theorem zdm (s : Bool) (x : Nat) (A : oA9) (n c : Nat) (w : World) (h : zaj w x A n c) (hn : n ≤ 1099511627776) :
  Calls Tryz.prog 42 #[.bool s,.slice A n c] w (zeN w (sgI s x)) := by
 obtain ⟨hB,b2,b5⟩ := zaA w 38 #[.bool false,.slice none 0 0]
 have hh := h.below hB
 have hsx := sgI_neg s x
 rw [← len16_ne h] at hsx
 have HSX := lh9 hsx
 have HSA := lh9 (zeb s x)
 clear h hsx
 cases s
 ·go_enter Tryz.func42,Tryz.ntmps42
  generalize hW : w.alloc (.cells #[.bool false,.slice none 0 0] 38) = W0 at *
  have hk9 := (b2.set_ 0 (.bool false)).set_ 1 (.slice A n c)
  have r0 := hk9.cell 0
  have r1 := hk9.cell 1
  have c0 := b2.cell 0
  have f0 := b2.frozen 0
  have c1 : (W0.setCell ⟨w.heap.size,0,none⟩ (.bool false)).cell? ⟨w.heap.size,1,none⟩ = some (.slice none 0 0) := (b2.set_ 0 (.bool false)).cell 1
  have f1 := (b2.set_ 0 (.bool false)).frozen 1
  have HG : Hid (zeN w (sgI false x) (.returned (.agg #[.bool false,.slice A n c])) ((W0.setCell ⟨w.heap.size,0,none⟩ (.bool false)).setCell ⟨w.heap.size,1,none⟩ (.slice A n c))) :=
   ⟨false,A,n,c,rfl,⟨by rw [HSX.out]; rfl,by rw [HSA.out]; exact zfj hh b2 _ _ _ _⟩,zah _ (Nat.le_refl _) (zah _ (Nat.le_refl _) hB)⟩
  clear hk9 b2 hh hB
  go_wp2
  refine bodyPost_ret (v := .agg #[.bool false,.slice A n c]) (by simp [results,Tryz.results42,go_sem,r0,r1]) rfl ?_
  exact HG.out
 ·have hd : decide ((0 : Int) < (n : Int)) = decide (0 < n) := by by_cases h : 0 < n <;> simp [h]
  obtain ⟨d,hd2⟩ : ∃ d,decide (0 < n) = d := ⟨_,rfl⟩
  rw [hd2] at hd HSX
  have hd3 : decide ((n : Int) > 0) = d := hd
  go_enter Tryz.func42,Tryz.ntmps42
  generalize hW : w.alloc (.cells #[.bool false,.slice none 0 0] 38) = W0 at *
  have hk9 := (b2.set_ 0 (.bool d)).set_ 1 (.slice A n c)
  have r0 := hk9.cell 0
  have r1 := hk9.cell 1
  have c0 := b2.cell 0
  have f0 := b2.frozen 0
  have c1 : (W0.setCell ⟨w.heap.size,0,none⟩ (.bool d)).cell? ⟨w.heap.size,1,none⟩ = some (.slice none 0 0) := (b2.set_ 0 (.bool d)).cell 1
  have f1 := (b2.set_ 0 (.bool d)).frozen 1
  have HG : Hid (zeN w (sgI true x) (.returned (.agg #[.bool d,.slice A n c])) ((W0.setCell ⟨w.heap.size,0,none⟩ (.bool d)).setCell ⟨w.heap.size,1,none⟩ (.slice A n c))) :=
   ⟨d,A,n,c,rfl,⟨by rw [HSX.out]; rfl,by rw [HSA.out]; exact zfj hh b2 _ _ _ _⟩,zah _ (Nat.le_refl _) (zah _ (Nat.le_refl _) hB)⟩
  clear hk9 b2 hh hB
  go_wp2
  refine bodyPost_ret (v := .agg #[.bool d,.slice A n c]) (by simp [results,Tryz.results42,go_sem,r0,r1]) rfl ?_
  exact HG.out
theorem zkO (b : Bool) (A : oA9) (n c : Nat) (l : List Nat) (w : World) (h : zav w A n c l) :
  Calls Tryz.prog 41 #[.agg #[.bool b,.slice A n c]] w (zeN w (zOf b l)) := by
 obtain ⟨hB,x1,hk,x5⟩ := zbQ w 24 38 #[.bool b,.slice A n c] #[.bool false,.slice none 0 0]
 have HAD := lh9 (arg_ref2 h)
 have hsz := (zdy h).len16'
 obtain ⟨X,hX⟩ : ∃ q,dv 18446744073709551616 l = q := ⟨_,rfl⟩
 have HZ : Hid (zOf b l = sgI b X) := by show _ = _; unfold zOf sgI; rw [hX]
 rw [hX] at HAD hsz
 have HXL : Hid (∀ q,q = (dg 65536 X).length → q ≤ 1099511627776) := fun q hq => by omega
 have HNW := lh9 (fun w' A n c (h : zaj w' X A n c) hl => zdm b X A n c w' h hl)
 clear h hX
 go_enter Tryz.func41,Tryz.ntmps41
 go_wp2_with fail
 generalize (w.alloc (.cells #[.bool b,.slice A n c] 24)).alloc (.cells #[.bool false,.slice none 0 0] 38) = W0 at *
 have g1 : W0.cell? ⟨w.heap.size,0,none⟩ = some (.bool b) := x1.cell 0
 have e1 : W0.cell? ⟨w.heap.size,1,none⟩ = some (.slice A n c) := x1.cell 1
 clear x1 x5
 have j0 : W0.drew.cell? ⟨w.heap.size,0,none⟩ = some (.bool b) := g1
 have j1 : W0.drew.cell? ⟨w.heap.size,1,none⟩ = some (.slice A n c) := e1
 have hb0 := hB.drew
 have hk0 := hk.drew
 go_region_held3 (fun w' => Below w.heap.size w w' ∧ w'.cell? ⟨w.heap.size,0,none⟩ = some (.bool b) ∧ w'.cell? ⟨w.heap.size,1,none⟩ = some (.slice A n c))
  (first | (exact ⟨hb0,j0,j1⟩) | (go_split_ands; (repeat' apply And.intro); all_goals (first | with_reducible assumption | exact zac (by with_reducible assumption) hb | exact zad hb (by with_reducible assumption) | exact zah _ (by dsimp only; omega) (zah _ (by dsimp only; omega) (by with_reducible assumption)) | exact zag _ (by dsimp only; omega) (zag _ (by dsimp only; omega) (by with_reducible assumption)))))
  (first
    | (go_at_call 39; (with_reducible refine (HAD.out _ (by first | with_reducible assumption | exact And.left (by with_reducible assumption))).mono ?_); intro e w2 hg; obtain ⟨A2,n2,c2,rfl,hh2,hb⟩ := hg.elim; have hk1 := zae hb hk0; have hl2 := HXL.out n2 hh2.len)
    | (go_at_call 42; (with_reducible refine (HNW.out _ _ _ _ hh2 hl2).mono ?_); rintro e w3 ⟨b3,A3,n3,c3,rfl,hw3,hb⟩; go_split_ands; have hk2 := zae hb hk1; have c0 := hk2.cell 0; have f0 := hk2.frozen 0; have c1 : (w3.setCell ⟨w.heap.size + 1,0,none⟩ (.bool b3)).cell? ⟨w.heap.size + 1,1,none⟩ = some (.slice none 0 0) := (hk2.set_ 0 (.bool b3)).cell 1; have f1 := (hk2.set_ 0 (.bool b3)).frozen 1; have hbb : Below w.heap.size w w3 := zac (by with_reducible assumption) hb))
 have hk9 := (hk2.set_ 0 (.bool b3)).set_ 1 (.slice A3 n3 c3)
 have r0 := hk9.cell 0
 have r1 := hk9.cell 1
 have hwz := ref_set2 hw3 hk2 b3 A3 n3 c3
 have hbz := zah (p := ⟨w.heap.size + 1,1,none⟩) (.slice A3 n3 c3) (by dsimp only; omega) (zah (p := ⟨w.heap.size + 1,0,none⟩) (.bool b3) (by dsimp only; omega) hbb)
 have HG : Hid (zeN w (zOf b l) (.returned (.agg #[.bool b3,.slice A3 n3 c3])) ((w3.setCell ⟨w.heap.size + 1,0,none⟩ (.bool b3)).setCell ⟨w.heap.size + 1,1,none⟩ (.slice A3 n3 c3))) := by
  show zeN _ _ _ _
  rw [HZ.out]
  exact ⟨b3,A3,n3,c3,rfl,hwz,hbz⟩
 clear hk9 hwz hbz hbb hw3 c0 c1 f0 f1 hb0 hb
 go_wp2
 refine bodyPost_ret (v := .agg #[.bool b3,.slice A3 n3 c3]) (by simp [results,Tryz.results41,go_sem,r0,r1]) rfl ?_
 exact HG.out
theorem szh {K B x n c : Nat} {A : oA9} {w : World} (h : Hid (Sz K x)) (k : zaj w x A n c) (e : 4 * K ≤ B := by omega) : n ≤ B := Nat.le_trans (h.out.holds' k) e
theorem ziJ {w w' : World} {x : Nat} {A : oA9} {n c g : Nat} {t : TypeId} {cs : Array Value} (h : zaj w x A n c) (hk : Blk w g t cs) (hcs : NoU cs) (ho : zej g w w') : zaj w' x A n c := ⟨ziW h.1 hk hcs ho,h.2⟩
theorem ref_off {w w' : World} {z : Int} {b : Bool} {A : oA9} {n c g : Nat} {t : TypeId} {cs : Array Value} (h : zcy w z b A n c) (hk : Blk w g t cs) (hcs : NoU cs) (ho : zej g w w') : zcy w' z b A n c := ⟨h.1,ziJ h.2 hk hcs ho⟩
end Go.Proofs.YtfieheffipfahaaGreatDoor
