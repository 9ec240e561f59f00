/- What this claim leans on. -/
import Derived.Test.YtgigccjiblaefaaDoorSJ8Add
import Derived.Deep.Slices
namespace Go.Proofs.YtgigccjiblaefaaDoor
open Go Go.RowKit
set_option maxRecDepth 100000
set_option linter.unusedVariables false
set_option linter.unusedSimpArgs false
structure zep (w : World) (A : Option Addr) (n c : Nat) (rs : List Rat) : Prop where
 len : rs.length = n
 fits : n ≤ c
 most : c ≤ 9223372036854775807
 num : ∀ i, i < n → ∃ (ad : Addr) (b : Bool) (B : Option Addr) (m d : Nat) (E : Option Addr) (u v : Nat), A = some ad ∧ ad.block < w.heap.size ∧ w.cell? (ad.add (i * 3)) = some (.bool b) ∧ w.cell? (ad.add (i * 3 + 1)) = some (.slice B m d) ∧ w.cell? (ad.add (i * 3 + 2)) = some (.slice E u v) ∧ zam w (rs.getD i 0) b B m d E u v
theorem zep.below {w w' : World} {A : Option Addr} {n c : Nat} {rs : List Rat} (h : zep w A n c rs) (hb : Below w.heap.size w w') : zep w' A n c rs :=
 ⟨h.len, h.fits, h.most, fun i hi => by
  obtain ⟨ad, b, B, m, d, E, u, v, e, h1, h2, h3, h4, h5⟩ := h.num i hi
  exact ⟨ad, b, B, m, d, E, u, v, e, Nat.lt_of_lt_of_le h1 hb.size, zaa hb h2, zaa hb h3, zaa hb h4, h5.below hb⟩⟩
def zcc (rs : List Rat) : Rat := rs.foldl (fun a b => a + b) 0
theorem zel (rs : List Rat) (r : Rat) : zcc (rs ++ [r]) = zcc rs + r := by unfold zcc; rw [List.foldl_append]; rfl
theorem zji (rs : List Rat) (k : Nat) (h : k < rs.length) : zcc (rs.take (k + 1)) = zcc (rs.take k) + rs.getD k 0 := by
 rw [List.take_succ_eq_append_getElem h, zel, List.getD_eq_getElem?_getD, List.getElem?_eq_getElem h]
 rfl
theorem zdD {w : World} {r : Rat} {b : Bool} {A E : Option Addr} {n c k f g : Nat} {t : TypeId} {p : Bool} {q q2 : Option Addr} {r1 s r2 s2 : Nat} (h : zam w r b A n c E k f) (kd : Blk w g t #[.bool p, .slice q r1 s, .slice q2 r2 s2]) (x y z : Value) :
  zam (((w.setCell ⟨g, 0, none⟩ x).setCell ⟨g, 1, none⟩ y).setCell ⟨g, 2, none⟩ z) r b A n c E k f := zcU h kd (NoU.s3 _ _ _ _ _ _ _) (off3 _ _ _ _ _)
theorem zfn {w : World} {g g' : Nat} {t : TypeId} {cs : Array Value} (h : Blk w g t cs) (hne : g ≠ g') (x y z : Value) : Blk (((w.setCell ⟨g', 0, none⟩ x).setCell ⟨g', 1, none⟩ y).setCell ⟨g', 2, none⟩ z) g t cs := ((h.far (p := ⟨g', 0, none⟩) hne x).far (p := ⟨g', 1, none⟩) hne y).far (p := ⟨g', 2, none⟩) hne z
theorem ziO {w : World} {ad : Addr} {k : Nat} {v : Value} (h : w.cell? (ad.add (k + 1)) = some v) : w.cell? ⟨(ad.add k).block, (ad.add k).off + 1, none⟩ = some v := by
 rw [← Go.Deep.add_add] at h
 exact h
theorem ziW {w : World} {ad : Addr} {k : Nat} {v : Value} (h : w.cell? (ad.add (k + 2)) = some v) : w.cell? ⟨(ad.add k).block, (ad.add k).off + 2, none⟩ = some v := by
 rw [← Go.Deep.add_add] at h
 exact h
set_option maxHeartbeats 8000000 in
theorem zfX (rs : List Rat) (A : Option Addr) (n c K : Nat) (w : World) (hT : zal w) (h : zep w A n c rs) (hn : n ≤ 1073741824) (hK : K ≤ 67108864) (he : ∀ i, i < n → SzQ K (rs.getD i 0)) (hs : ∀ k, k ≤ n → SzQ K (zcc (rs.take k))) :
  Calls Tryd.prog 12 #[.slice A n c] w (zaU w (zcc rs)) := by
 have HTB := Lib.hid (fun w' (h : Below w.heap.size w w') => hT.on h)
 have HN := Lib.hid (fun w' (hb : Below w.heap.size w w') => h.below hb)
 have HS := Lib.hid hs
 have HE := Lib.hid he
 have HSU := Lib.hid (fun k (hk : k < n) => zji rs k (by rw [h.len]; exact hk))
 have HF : Hid (zcc (rs.take n) = zcc rs) := by
  show _ = _
  rw [List.take_of_length_le (by rw [h.len]; exact Nat.le_refl _)]
 clear h hs he hT
 go_enter Tryd.func12, Tryd.ntmps12
 go_wp2_with fail
 obtain ⟨hB, hk1, hp, b5⟩ := zaQ w 33 33 #[.bool false, .slice none 0 0, .slice none 0 0] #[.bool false, .slice none 0 0, .slice none 0 0]
 generalize hV : (w.alloc (.cells #[.bool false, .slice none 0 0, .slice none 0 0] 33)).alloc (.cells #[.bool false, .slice none 0 0, .slice none 0 0] 33) = V1 at *
 clear hV b5
 obtain ⟨gp, hgp⟩ : ∃ g, w.heap.size + 1 = g := ⟨_, rfl⟩
 rw [hgp] at hp ⊢
 have hgw : w.heap.size < gp := by omega
 go_loopg [9] (n + 1) (fun g ix wr => ∃ (k : Nat) (b : Bool) (Ap : Option Addr) (np cp : Nat) (Ep : Option Addr) (kp fp : Nat), k ≤ n ∧ n < g + k ∧ ix = .int .i64 k ∧ zam wr (zcc (rs.take k)) b Ap np cp Ep kp fp ∧ Blk wr gp 33 #[.bool b, .slice Ap np cp, .slice Ep kp fp] ∧ Below w.heap.size w wr ∧ Blk wr w.heap.size 33 #[.bool false, .slice none 0 0, .slice none 0 0])
 case atStart => exact ⟨0, false, none, 0, 0, none, 0, 0, Nat.zero_le _, by omega, rfl, zcl _, hp, hB, hk1⟩
 case round =>
  clear hp hB hk1 hgp
  obtain ⟨k, b, Ap, np, cp, Ep, kp, fp, hkn, hg, rfl, hw, hp, hB, hk1⟩ := hrel
  by_cases hlt : k < n
  ·obtain ⟨ad, b1, B1, m1, d1, E1, u1, v1, rfl, hadb, hc0, hc1, hc2, hx⟩ := (HN.out _ hB).num k hlt
   have HM := Lib.hid (fun w' (hb : Below wr.heap.size wr w') => ziN (zcc (rs.take k)) (rs.getD k 0) b Ap np cp Ep kp fp b1 B1 m1 d1 E1 u1 v1 w' (HTB.out _ (zab hB hb)) (hw.below hb) (hx.below hb) (SzQ.fit (HS.out k hkn) hw hK) (SzQ.fit (HE.out k hlt) hx hK))
   have hc1 := ziO hc1
   have hc2 := ziW hc2
   have i1 : (0 : Int) ≤ (k : Int) := by omega
   have i2 : (k : Int) < (n : Int) := by omega
   obtain ⟨p0, p1, p2⟩ := hp.c3
   obtain ⟨st, d2, d3⟩ := zaS wr 33 #[.bool b1, .slice B1 m1 d1, .slice E1 u1 v1]
   obtain ⟨q0, q1, q2⟩ := d2.c3
   have p3 := zaa st p0
   have p4 := zaa st p1
   have p5 := zaa st p2
   have HM2 := Lib.hid (HM.out _ st)
   have HB1 := Lib.hid (zab hB st)
   have HP1 := Lib.hid (zac st hp)
   have HK2 := Lib.hid (zac st hk1)
   clear hw hx hB hp hk1 HM st d2 d3
   go_wp2_with fail
   refine HM2.out.mono ?_
   rintro e w3 ⟨b3, A3, n3, c3, E3, k3, f3, rfl, hw3, hb⟩
   rw [← HSU.out k hlt] at hw3
   have hB3 := zab HB1.out hb
   have hp3 := zac hb HP1.out
   have hk3 := zac hb HK2.out
   obtain ⟨sc0, sf0, sc1, sf1, sc2, sf2⟩ := st3 hp3 (.bool b3) (.slice A3 n3 c3)
   have hw4 := zdD hw3 hp3 (.bool b3) (.slice A3 n3 c3) (.slice E3 k3 f3)
   have hB4 := bl3 (.bool b3) (.slice A3 n3 c3) (.slice E3 k3 f3) (by show w.heap.size ≤ gp; omega) hB3
   have hp4 := sn3 hp3 (.bool b3) (.slice A3 n3 c3) (.slice E3 k3 f3)
   have hk4 := zfn hk3 (by show w.heap.size ≠ gp; omega) (.bool b3) (.slice A3 n3 c3) (.slice E3 k3 f3)
   clear hb hB3 hp3 hk3 hw3 HM2 HB1 HP1 HK2 hc0 hc1 hc2 p0 p1 p2 p3 p4 p5 q0 q1 q2
   go_wp2
   go_roundg (n - k)
   case measure => omega
   case rel => exact ⟨k + 1, b3, A3, n3, c3, E3, k3, f3, by omega, by omega, by go_num, hw4, hp4, hB4, hk4⟩
  ·have hkn : k = n := by omega
   subst hkn
   rw [HF.out] at hw
   obtain ⟨p0, p1, p2⟩ := hp.c3
   obtain ⟨sc0, sf0, sc1, sf1, sc2, sf2⟩ := st3 hk1 (.bool b) (.slice Ap np cp)
   obtain ⟨r0, r1, r2⟩ := (sn3 hk1 (.bool b) (.slice Ap np cp) (.slice Ep kp fp)).c3
   have HG := Lib.hid (gq3 hw hk1 hB (Nat.le_refl _))
   clear hw hp hk1 hB
   go_wp2
   refine bodyPost_ret (v := .agg #[.bool b, .slice Ap np cp, .slice Ep kp fp]) (by simp [results, Tryd.results12, go_sem, r0, r1, r2]) rfl ?_
   exact HG.out
end Go.Proofs.YtgigccjiblaefaaDoor
