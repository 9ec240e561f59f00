/- What this claim leans on. -/
import Derived.Test.YtgigccjiblaefaaGreatDoorBBunR
import Derived.Test.YtgigccjiblaefaaGreatDoorBBunY
namespace Go.Proofs.YtgigccjiblaefaaGreatDoor
open Go Go.RowKit
set_option maxRecDepth 100000
set_option linter.unusedVariables false
set_option maxHeartbeats 4000000 in
theorem zlk (x mm : Nat) (A : Option Addr) (n c : Nat) (w : World) (hA : zal w x A n c) (hn : n ≤ 274877906944) (hm0 : 0 < mm) (hm1 : mm ≤ 32768) :
  Calls Tryz.prog 122 #[.slice A n c, .int .i64 mm] w (zgL w x mm) := by
 obtain ⟨i0, hi0, hz0, hz1, hz2⟩ := info_parts zfW
 have HLN := Lib.hid hA.len
 have hR := hA.1
 clear hA
 obtain ⟨Z, hZ⟩ : ∃ Z, madeCells (Value.cells (.int .i64 0)) (n * i0.size) = Z := ⟨_, rfl⟩
 have HZ : Hid (Z.size = n) := by show _ = _; rw [← hZ, size_madeCells, hz1, Nat.mul_one]
 have hmk : ∀ W : World, (Instr.makeSlice 35 (.int .i64 (n : Int)) (.int .i64 (n : Int))).run Tryz.prog W = .ok (.slice (some ⟨W.heap.size, 0, none⟩) n n) (W.alloc (.cells Z 3)) := fun W => by
  rw [← hZ]; exact zaS _ _ i0 _ Tryz.underlying35 hi0 hz0 _ _ n n (Nat.le_refl _) (by rw [hz2]; omega) (by omega) W
 clear hZ
 go_enter Tryz.func122, Tryz.ntmps122
 go_wp2
 clear hmk
 go_loopg [7, 8, 9] (n + 1) (fun g s i _ wr => ∃ (k left : Nat) (cs : Array Value) (out : List Nat), k ≤ n ∧ k < g ∧ i = .int .i64 ((k : Int) - 1) ∧ s = .int .i64 left ∧ zdo x mm n k out left ∧
   Blk wr w.heap.size 3 cs ∧ cs.size = n ∧ cs.toList.drop k = zar .i64 out ∧ Below w.heap.size w wr)
 case atStart => exact ⟨n, 0, Z, [], Nat.le_refl _, by omega, rfl, rfl, zdo.start hm0 (by have := HLN.out; omega), Blk.new w _ _, HZ.out, by rw [List.drop_of_length_le (by have := HZ.out; simp; omega)]; rfl, (Below.refl _ _).alloc (Nat.le_refl _) _⟩
 case round =>
  obtain ⟨k, left, cs, out, hk, hg, rfl, rfl, hat, hB, hsz, hdr, hbl⟩ := hrel
  by_cases hk0 : k = 0
  ·subst hk0
   obtain ⟨f1, f2⟩ := hat.done
   have hlen : out.length = n := by have := hat.len; omega
   have hrd : zap wr wr.heap.size 1 (some ⟨w.heap.size, 0, none⟩) n (zar .i64 out) := by
    refine ⟨by rw [zau]; omega, fun _ => ⟨_, rfl, hB.lt, fun j u hu => ?_⟩⟩
    have e : (⟨w.heap.size, 0, none⟩ : Addr).add j = ⟨w.heap.size, j, none⟩ := by unfold Addr.add; split <;> simp_all
    rw [e, hB.cell j, ← Array.getElem?_toList]
    rw [List.drop_zero] at hdr
    rw [hdr]; exact hu
   have T := zeR (some ⟨w.heap.size, 0, none⟩) n n out wr hrd hat.dgs (Nat.le_refl _) (by omega) (by omega)
   rw [f1] at T
   have HT := Lib.hid T
   have F2 := Lib.hid f2
   clear T hrd f1 f2 hat hdr hsz hlen
   go_wp2_with fail
   refine HT.out.mono ?_
   intro e w2 hg2
   have hg3 := hg2.from_ hbl
   obtain ⟨A2, n2, c2, rfl, hh2, hb2⟩ := hg2.elim
   have HG3 := Lib.hid hg3
   clear hg2 hh2 hb2 hg3
   go_wp2_with fail
   go_ret2
   exact ⟨_, by rw [← F2.out]; rfl, HG3.out⟩
  ·obtain ⟨j, rfl⟩ : ∃ j, k = j + 1 := ⟨k - 1, by omega⟩
   obtain ⟨ad, rfl, hadb, hc0⟩ := zaT hR (k := j) (by omega)
   have hc1 : wr.cell? (ad.add j) = some (.int .i64 ((dg 65536 x).getD j 0 : Nat)) := (hbl.cell (by rw [zaF]; exact hadb)).trans hc0
   rw [zea] at hc1
   have ha1 : x / 65536 ^ j % 65536 < 65536 := Nat.mod_lt _ (by decide)
   have hst := hat.step hk rfl
   have hleft := hat.rest
   obtain ⟨a, ha⟩ : ∃ b, x / 65536 ^ j % 65536 = b := ⟨_, rfl⟩
   rw [ha] at hc1 ha1 hst
   have hfr := hB.frozen j
   have hcell : ∃ u, wr.cell? ⟨w.heap.size, j, none⟩ = some u := by
    rw [hB.cell j]
    exact ⟨cs[j]'(by omega), Array.getElem?_eq_getElem (by omega)⟩
   obtain ⟨u, hu⟩ := hcell
   have HST := Lib.hid hst
   have HS := Lib.hid hsz
   have HD := Lib.hid hdr
   clear hst ha hat hc0 hsz hdr
   go_wp2
   go_roundg (j + 1)
   case measure => omega
   case rel => exact ⟨j, (left * 65536 + a) % mm, cs.setIfInBounds j (.int .i64 (((left : Int) * 65536 + (a : Int)) / (mm : Int))), _, by omega, by omega, by go_num, by go_num, HST.out, hB.set_ _ _, by simpa using HS.out, by rw [drop_set _ _ _ (by have := HS.out; omega), HD.out]; simp [zar], hbl.setCell (Nat.le_refl _) _⟩
set_option linter.unusedSimpArgs false
def BackD (b x y : Nat) (D : List Nat) : Prop := D ++ dg b y = dg b x
theorem BackD.step {b x y : Nat} {D : List Nat} (h : BackD b x y D) (hb : 2 ≤ b) (hy : y ≠ 0) : BackD b x (y / b) (D ++ [y % b]) := by
 unfold BackD at h ⊢
 rw [← h, zcQ hb hy, List.append_assoc]
 rfl
end Go.Proofs.YtgigccjiblaefaaGreatDoor
