/- What this claim leans on. -/
import Derived.Test.YtgigccjiblaefaaDoorSUArgsPs
import Derived.Test.YtgigccjiblaefaaDoorSW8Awake
import Derived.Test.YtgigccjiblaefaaDoorSW8Make
import Derived.Test.YtgigccjiblaefaaDoorSS8Sum
import Derived.Test.YtgigccjiblaefaaDoorSS8App
namespace Go.Proofs.YtgigccjiblaefaaDoor
open Go Go.RowKit
set_option maxRecDepth 100000
set_option linter.unusedVariables false
set_option linter.unusedSimpArgs false
theorem infoQ8 : (Tryd.prog.info? 33).map (fun i => (i.zero, i.size, i.bytes)) = some (some (.agg #[.bool false, .slice none 0 0, .slice none 0 0]), 3, 56) := by kernel_rfl
def zaG (R : Nat → zdR) (k : Nat) : List Rat := (List.range k).map fun r => fOf (R r).s (R r).l (R r).e
theorem zdW (R : Nat → zdR) (k : Nat) : zaG R (k + 1) = zaG R k ++ [fOf (R k).s (R k).l (R k).e] := by simp [zaG, List.range_succ]
theorem zcY (R : Nat → zdR) (k : Nat) : (zaG R k).length = k := by simp [zaG]
theorem zgh (R : Nat → zdR) {j k : Nat} (h : k ≤ j) : (zaG R j).take k = zaG R k := by
 simp [zaG, ← List.map_take, List.take_range, Nat.min_eq_left h]
theorem zgR (R : Nat → zdR) {j k : Nat} (h : k < j) : (zaG R j).getD k 0 = fOf (R k).s (R k).l (R k).e := by
 simp [zaG, List.getD_eq_getElem?_getD, List.getElem?_map, List.getElem?_range h]
theorem ziK {K0 n : Nat} (R : Nat → zdR) (h : ∀ r, r < n → SzQ K0 (fOf (R r).s (R r).l (R r).e)) : ∀ k, k ≤ n → SzQ (1 + k * (K0 + 1)) (zcc (zaG R k))
 | 0, _ => by rw [Nat.zero_mul]; exact SzQ.zero
 | k + 1, hk => by
   rw [zdW, zel]
   exact (SzQ.add (ziK R h k (by omega)) (h k (by omega))).up (by rw [Nat.succ_mul]; omega)
theorem zdF {w w' : World} {x : Nat} {B : Option Addr} {m d : Nat} {v : Value} (h : zae w x B m d) (hg : w.grownBy w' v.ownBlock) (hn : zaV w v) : zae w' x B m d :=
 zcX h hg (fun hm ad e => (hn.words h hm ad e).symm)
theorem zdo {w w' : World} {r : Rat} {b : Bool} {B E : Option Addr} {m d u f : Nat} {v : Value} (h : zam w r b B m d E u f) (hg : w.grownBy w' v.ownBlock) (hn : zaV w v) : zam w' r b B m d E u f := by
 obtain ⟨⟨h1, h2⟩, x, e, h3⟩ := h
 exact ⟨⟨h1, zdF h2 hg hn⟩, x, e, zdF h3 hg hn⟩
theorem zfE {w w' : World} {g : Nat} {t : TypeId} {cs : Array Value} {row : Option Nat} (h : Blk w g t cs) (hg : w.grownBy w' row) (hne : row ≠ some g) : Blk w' g t cs := (hg.block g (Blk.lt h) (fun e => hne e.symm)).trans h
structure zct (w : World) (base : Nat) (v : Value) (rs : List Rat) (vs : List Value) : Prop where
 own : w.ownsRow base 33 3 v rs.length vs
 nou : zaV w v
 num : ∀ i, i < rs.length → ∃ (b : Bool) (B : Option Addr) (m d : Nat) (E : Option Addr) (u f : Nat), vs[i * 3]? = some (.bool b) ∧ vs[i * 3 + 1]? = some (.slice B m d) ∧ vs[i * 3 + 2]? = some (.slice E u f) ∧ zam w (rs.getD i 0) b B m d E u f
theorem zct.nil (w : World) (base : Nat) : zct w base (.slice none 0 0) [] [] := ⟨World.ownsRow_nil _ _ _ _, zaV.nil _ _, fun i hi => by simp at hi⟩
theorem zct.len {w : World} {base : Nat} {v : Value} {rs : List Rat} {vs : List Value} (h : zct w base v rs vs) : vs.length = rs.length * 3 := h.own.1
theorem zct.shape {w : World} {base : Nat} {v : Value} {rs : List Rat} {vs : List Value} (h : zct w base v rs vs) : ∃ A c, v = .slice A rs.length c ∧ zep w A rs.length c rs := by
 rcases h.own.2 with ⟨rfl, h0⟩ | ⟨g, cap, cur, rfl, hbg, hg, hnc, hcm, hcs, htake⟩
 ·rw [h0]
  exact ⟨none, 0, rfl, h0, Nat.le_refl _, by decide, fun i hi => by omega⟩
 ·have hcell := h.own.cells (g := g) rfl
  refine ⟨some ⟨g, 0, none⟩, cap, rfl, rfl, hnc, by unfold maxLen at hcm; omega, fun i hi => ?_⟩
  obtain ⟨b, B, m, d, E, u, f, h1, h2, h3, h4⟩ := h.num i hi
  exact ⟨_, b, B, m, d, E, u, f, rfl, (Array.getElem?_eq_some_iff.1 hg).1, hcell _ _ h1, hcell _ _ h2, hcell _ _ h3, h4⟩
theorem zct.rats {w : World} {base : Nat} {A : Option Addr} {n c : Nat} {rs : List Rat} {vs : List Value} (h : zct w base (.slice A n c) rs vs) : zep w A rs.length c rs := by
 obtain ⟨A', c', e, h1⟩ := h.shape
 injection e with e1 e2 e3
 subst e1; subst e3
 exact h1
theorem zct.below {w w' : World} {base : Nat} {v : Value} {rs : List Rat} {vs : List Value} (h : zct w base v rs vs) (hb : Below w.heap.size w w') : zct w' base v rs vs := by
 refine ⟨⟨h.own.1, ?_⟩, h.nou.below hb, fun i hi => ?_⟩
 ·rcases h.own.2 with h1 | ⟨g, cap, cur, e1, e2, e3, e4⟩
  ·exact .inl h1
  ·exact .inr ⟨g, cap, cur, e1, e2, (hb.block g (Blk.lt (t := 33) (cs := cur) e3)).trans e3, e4⟩
 ·obtain ⟨b, B, m, d, E, u, f, h1, h2, h3, h4⟩ := h.num i hi
  exact ⟨b, B, m, d, E, u, f, h1, h2, h3, h4.below hb⟩
theorem zct.set3 {w : World} {base g : Nat} {v : Value} {rs : List Rat} {vs : List Value} {t : TypeId} {p : Bool} {q q2 : Option Addr} {r1 s r2 s2 : Nat} (h : zct w base v rs vs) (hk : Blk w g t #[.bool p, .slice q r1 s, .slice q2 r2 s2]) (hg : g < base) (x y z : Value) :
  zct (((w.setCell ⟨g, 0, none⟩ x).setCell ⟨g, 1, none⟩ y).setCell ⟨g, 2, none⟩ z) base v rs vs := by
 refine ⟨⟨h.own.1, ?_⟩, fun g' hg' => ?_, fun i hi => ?_⟩
 ·rcases h.own.2 with h1 | ⟨g', cap, cur, e1, e2, e3, e4⟩
  ·exact .inl h1
  ·exact .inr ⟨g', cap, cur, e1, e2, zfn (t := 33) (cs := cur) e3 (by omega) x y z, e4⟩
 ·obtain ⟨cur, e, h1, h2⟩ := h.nou g' hg'
  have := (h.own.lt g' hg').1
  exact ⟨cur, e, zfn (t := e) (cs := cur) h1 (by omega) x y z, h2⟩
 ·obtain ⟨b, B, m, d, E, u, f, h1, h2, h3, h4⟩ := h.num i hi
  exact ⟨b, B, m, d, E, u, f, h1, h2, h3, zdD h4 hk x y z⟩
theorem zct.grow {w w' : World} {base n : Nat} {v v' : Value} {rs : List Rat} {vs : List Value} {r : Rat} {b : Bool} {B E : Option Addr} {m d u f : Nat} (h : zct w base v rs vs) (hx : zam w r b B m d E u f)
  (ho : w'.ownsRow base 33 3 v' n (vs ++ [.bool b, .slice B m d, .slice E u f])) (hn : n = rs.length + 1) (hg : w.grownBy w' v.ownBlock) (hnu : zaV w' v') : zct w' base v' (rs ++ [r]) (vs ++ [.bool b, .slice B m d, .slice E u f]) := by
 have hl := h.len
 refine ⟨by rw [List.length_append, List.length_singleton, ← hn]; exact ho, hnu, fun i hi => ?_⟩
 rw [List.length_append, List.length_singleton] at hi
 by_cases hlt : i < rs.length
 ·obtain ⟨b1, B1, m1, d1, E1, u1, f1, h1, h2, h3, h4⟩ := h.num i hlt
  refine ⟨b1, B1, m1, d1, E1, u1, f1, by rw [List.getElem?_append_left (by omega)]; exact h1, by rw [List.getElem?_append_left (by omega)]; exact h2, by rw [List.getElem?_append_left (by omega)]; exact h3, ?_⟩
  rw [List.getD_eq_getElem?_getD, List.getElem?_append_left hlt, ← List.getD_eq_getElem?_getD]
  exact zdo h4 hg h.nou
 ·have hi2 : i = rs.length := by omega
  subst hi2
  refine ⟨b, B, m, d, E, u, f, by rw [List.getElem?_append_right (by omega), hl, Nat.sub_self]; rfl, by rw [List.getElem?_append_right (by omega), hl, Nat.add_sub_cancel_left]; rfl, by rw [List.getElem?_append_right (by omega), hl, Nat.add_sub_cancel_left]; rfl, ?_⟩
  rw [List.getD_eq_getElem?_getD, List.getElem?_append_right (Nat.le_refl _)]
  simpa using zdo hx hg h.nou
set_option maxHeartbeats 16000000 in
theorem ratSum_core {T : World → Prop} {M : Nat → Prop} (hTb : ∀ w w', T w → Below w.heap.size w w' → T w') (IC : IntC T) (QC : RatC T M) (hTT : ∀ w, T w → zal w) (A0 : Option Addr) (n0 c0 : Nat) (R : Nat → zdR) (w : World) (h0 : zgN w A0 n0 c0 R) (hT : T w) :
  Calls Tryd.prog 4 #[.slice A0 n0 c0] w fun e w' => e = .returned (.bool true) ∧ Below w.heap.size w w' := by
 obtain ⟨i1', hi1, hz10, hz11, hz12⟩ := info_parts infoQ8
 have HAW := Lib.hid (fun w' (hb : Below w.heap.size w w') => zhH hTb IC QC w' (hTb w w' hT hb))
 have HQC := Lib.hid QC
 have HT := Lib.hid (fun w' (hb : Below w.heap.size w w') => hTb w w' hT hb)
 have HTB := Lib.hid (fun w' (hb : Below w.heap.size w w') => hTT w' (hTb w w' hT hb))
 have HR := Lib.hid h0.row
 have hn0 : n0 ≤ 1048576 := Nat.le_trans h0.fits h0.small
 obtain ⟨K0, hK0⟩ : ∃ K, 1048576 = K := ⟨_, rfl⟩
 obtain ⟨K, hK⟩ : ∃ K, 67108864 = K := ⟨_, rfl⟩
 have hKb : K ≤ 67108864 := by omega
 have hK01 : 1 + 10 * (K0 + 1) ≤ K := by omega
 have SX0 : ∀ r, r < n0 → SzQ 1048576 (fOf (R r).s (R r).l (R r).e) := fun r hr => by
  obtain ⟨_, _, _, _, _, _, ha, he⟩ := h0.row r hr
  exact fOf_sz ha he
 rw [hK0] at SX0
 have HSX : Hid (∀ r, r < n0 → SzQ K (fOf (R r).s (R r).l (R r).e)) := fun r hr => (SX0 r hr).up (by omega)
 have HSS : Hid (∀ k, k ≤ n0 → k ≤ 10 → SzQ K (zcc (zaG R k))) := fun k h1 h2 => (ziK R SX0 k h1).up (by have := Nat.mul_le_mul_right (K0 + 1) h2; omega)
 have HMK : Hid (∀ r, r < n0 → ∀ w', Below w.heap.size w w' → Calls Tryd.prog 6 #[.agg #[.bool (R r).s, .slice (R r).A (R r).n (R r).c, .slice (R r).E (R r).u (R r).v]] w' (zaU w' (fOf (R r).s (R r).l (R r).e))) := fun r hr w' hb => by
  obtain ⟨_, _, _, _, _, _, ha, he⟩ := h0.row r hr
  exact zjJ hTb IC QC _ _ _ _ _ _ _ _ _ w' ⟨(ha.reads.below hb).more hb.size, ha.dgs, ha.fits, ha.small⟩ ⟨(he.reads.below hb).more hb.size, he.dgs, he.fits, he.small⟩ (hTb w w' hT hb)
 clear h0 SX0 hK hK0 IC QC hT
 go_enter Tryd.func4, Tryd.ntmps4
 have hb0 := Below.refl w.heap.size w
 go_wp2_with fail
 refine (HAW.out _ hb0).mono ?_
 rintro e w1 ⟨rfl, hB⟩
 have hwg0 := hB.size
 obtain ⟨bx1, hp, bz⟩ := zaS w1 33 #[.bool false, .slice none 0 0, .slice none 0 0]
 have hB := zab hB bx1
 clear hb0 bz
 go_upto_block 0 with fail
 obtain ⟨gp, hgp⟩ : ∃ g, w1.heap.size = g := ⟨_, rfl⟩
 have hszq : (w1.alloc (.cells #[.bool false, .slice none 0 0, .slice none 0 0] 33)).heap.size = gp + 1 := by simp [hgp]
 rw [hgp] at hp ⊢
 have hwg : w.heap.size ≤ gp := by omega
 generalize w1.alloc (.cells #[.bool false, .slice none 0 0, .slice none 0 0] 33) = W1 at *
 clear hgp bx1
 go_wp2_with fail
 go_loopg [3, 5] 11 (fun g sl ix wr => ∃ (k : Nat) (v : Value) (vs : List Value) (b : Bool) (Ap : Option Addr) (np cp : Nat) (Ep : Option Addr) (kp fp : Nat), k ≤ n0 ∧ k ≤ 10 ∧ 10 < g + k ∧ ix = .int .i64 k ∧ v = sl ∧ zct wr (gp + 1) v (zaG R k) vs ∧ zam wr (zcc (zaG R k)) b Ap np cp Ep kp fp ∧ Blk wr gp 33 #[.bool b, .slice Ap np cp, .slice Ep kp fp] ∧ Below w.heap.size w wr ∧ gp + 1 ≤ wr.heap.size)
 case atStart => exact ⟨0, _, _, false, none, 0, 0, none, 0, 0, Nat.zero_le _, by omega, by omega, rfl, rfl, zct.nil _ _, zcl _, hp, hB, by omega⟩
 case round =>
  clear hB hp hszq hwg0
  obtain ⟨k, v, vs, b, Ap, np, cp, Ep, kp, fp, hkn, hk10, hg, rfl, rfl, hon, hs, hp, hB, hbz⟩ := hrel
  by_cases hlt : k < n0
  ·by_cases hlt2 : k < 10
   ·obtain ⟨ad, rfl, hadb, hc0, hc1, hc2, -, -⟩ := HR.out k hlt
    have hM := HMK.out k hlt _ hB
    have HRS : Hid (zaG R (k + 1) = zaG R k ++ [fOf (R k).s (R k).l (R k).e]) := zdW R k
    have HXK := Lib.hid (HSX.out k hlt)
    have hc0 := (hB.cell (by rw [zaA]; exact hadb)).trans hc0
    have hc1 := ziO ((hB.cell (by rw [zaA]; exact hadb)).trans hc1)
    have hc2 := ziW ((hB.cell (by rw [zaA]; exact hadb)).trans hc2)
    have HSK := Lib.hid (HSS.out k hkn (by omega))
    have HSK1 := Lib.hid (HSS.out (k + 1) (by omega) (by omega))
    have HEK : Hid (∀ i, i < k + 1 → SzQ K ((zaG R (k + 1)).getD i 0)) := fun i hi => by rw [zgR R hi]; exact HSX.out i (by omega)
    have HTK : Hid (∀ i, i ≤ k + 1 → SzQ K (zcc ((zaG R (k + 1)).take i))) := fun i hi => by rw [zgh R hi]; exact HSS.out i (by omega) (by omega)
    obtain ⟨x, hx⟩ : ∃ x, fOf (R k).s (R k).l (R k).e = x := ⟨_, rfl⟩
    rw [hx] at hM HRS HXK
    have HSN : Hid (zcc (zaG R (k + 1)) = zcc (zaG R k) + x) := by show _ = _; rw [HRS.out, zel]
    obtain ⟨V, hV⟩ : ∃ V, R k = V := ⟨_, rfl⟩
    rw [hV] at hM hc0 hc1 hc2
    obtain ⟨ps, pA, pn, pc, pl, pE, pu, pf, pe⟩ := V
    dsimp only at hM hc0 hc1 hc2
    have HM := Lib.hid hM
    have hob : ∀ r, v.ownBlock = some r → gp + 1 ≤ r ∧ r < wr.heap.size := fun r h => hon.own.lt r h
    have HOB := Lib.hid hob
    have hd1 : decide ((k : Int) < (n0 : Int)) = true := by simp; omega
    have hd2 : decide ((k : Int) < 10) = true := by simp; omega
    have i1 : (0 : Int) ≤ (k : Int) := by omega
    have i2 : (k : Int) < (n0 : Int) := by omega
    have HON0 := Lib.hid hon
    have HS0 := Lib.hid hs
    have HP0 := Lib.hid hp
    have HB0 := Lib.hid hB
    clear hM hx hV hob hon hs hp hB
    go_wp2_with fail
    refine HM.out.mono ?_
    rintro e w5 ⟨b5, B5, m5, d5, E5, u5, f5, rfl, hx5, hb⟩
    have hz5 := hb.size
    obtain ⟨t1, t2, _⟩ := zaS w5 33 #[.bool b5, .slice B5 m5 d5, .slice E5 u5 f5]
    obtain ⟨c1, c2, c3, _⟩ := zaQ w5 33 33 #[.bool b5, .slice B5 m5 d5, .slice E5 u5 f5] #[.bool b5, .slice B5 m5 d5, .slice E5 u5 f5]
    obtain ⟨t20, t21, t22⟩ := t2.c3
    have hup := zab hb c1
    have HON := Lib.hid (HON0.out.below hup)
    have HS := Lib.hid (HS0.out.below hup)
    have HP := Lib.hid (zac hup HP0.out)
    have HB := Lib.hid (zab HB0.out hup)
    have HX := Lib.hid (hx5.below c1)
    have HC2 := Lib.hid c2
    have hcell : ∀ j u, [Value.bool b5, .slice B5 m5 d5, .slice E5 u5 f5][j]? = some u → ((w5.alloc (.cells #[.bool b5, .slice B5 m5 d5, .slice E5 u5 f5] 33)).alloc (.cells #[.bool b5, .slice B5 m5 d5, .slice E5 u5 f5] 33)).cell? ((⟨w5.heap.size + 1, 0, none⟩ : Addr).add j) = some u := fun j u hu => by
     rw [zfU]
     match j, hu with
     | 0, hu => simp at hu; subst hu; exact c3.cell 0
     | 1, hu => simp at hu; subst hu; exact c3.cell 1
     | 2, hu => simp at hu; subst hu; exact c3.cell 2
    have HCELL := Lib.hid hcell
    have HONE : Hid (∀ u ∈ [Value.bool b5, .slice B5 m5 d5, .slice E5 u5 f5], u.oneCell' = true) := by intro u hu; simp at hu; rcases hu with rfl | rfl | rfl <;> rfl
    have HNN : Hid (∀ u ∈ [Value.bool b5, .slice B5 m5 d5, .slice E5 u5 f5], NoUV u) := by intro u hu y; simp at hu; rcases hu with rfl | rfl | rfl <;> (intro h9; cases h9)
    have HZN : Hid (∀ u ∈ (Value.agg #[.bool false, .slice none 0 0, .slice none 0 0]).cells.toList, NoUV u) := by intro u hu y; simp [Value.cells] at hu; rcases hu with rfl | rfl <;> (intro h9; cases h9)
    have hrl : (zaG R k).length = k := zcY R k
    have HOWN := HON.out.own
    rw [hrl] at HOWN
    have HOWN := Lib.hid HOWN
    have HRL := Lib.hid hrl
    clear hb c1 c2 c3 t1 t2 hup hcell hrl hx5 HON0 HS0 HP0 HB0 HM
    go_wp2_with (at_builtin; refine zdJ _ rfl (.tmp 24) (.tmp 26) 40 rfl (gp + 1) 33 i1' (.agg #[.bool false, .slice none 0 0, .slice none 0 0]) 3 56 Tryd.underlying40 hi1 hz10 hz11 hz12 rfl (by decide) v k vs rfl HOWN.out ⟨w5.heap.size + 1, 0, none⟩ 1 1 [.bool b5, .slice B5 m5 d5, .slice E5 u5 f5] rfl rfl HCELL.out HONE.out (by unfold maxLen; omega) (by omega) (by simp; omega) HON.out.nou HZN.out HNN.out ?_; intro v' w8 hown' hgrow hat hnou'; have hon8 := zct.grow (n := k + 1) HON.out HX.out hown' (by rw [HRL.out]) hgrow hnou'; rw [← HRS.out] at hon8; have hs8 := zdo HS.out hgrow HON.out.nou; have hx8 := zdo HX.out hgrow HON.out.nou; have hp8 := zfE HP.out hgrow (fun h => by have := HOB.out _ h; omega); have hc8 := zfE HC2.out hgrow (fun h => by have := HOB.out _ h; omega); have hB8 : Below w.heap.size w w8 := HB.out.grown hgrow (by simp; omega) (fun r hr => by have := HOB.out r hr; omega); have hz8 : gp + 1 ≤ w8.heap.size := (by have := hgrow.size; simp at this; omega); obtain ⟨p0, p1, p2⟩ := hp8.c3; obtain ⟨x0, x1, x2⟩ := hc8.c3; have hsh := hon8.shape; rw [zcY] at hsh; obtain ⟨Av, cv, rfl, hnum⟩ := hsh)
    refine (HQC.out.add (zcc (zaG R k)) x b b5 Ap B5 np m5 cp d5 Ep E5 kp u5 fp f5 w8 (HT.out _ hB8) hs8 hx8 (SzQ.fit HSK.out hs8 hKb) (SzQ.fit HXK.out hx8 hKb)).mono ?_
    rintro e w9 ⟨b9, A9, n9, c9, E9, k9, f9, rfl, hw9, hb⟩
    rw [← HSN.out] at hw9
    have hon9 := hon8.below hb
    have hp9 := zac hb hp8
    have hB9 := zab hB8 hb
    have hz9 := hb.size
    obtain ⟨sc0, sf0, sc1, sf1, sc2, sf2⟩ := st3 hp9 (.bool b9) (.slice A9 n9 c9)
    have HS10 := Lib.hid (zdD hw9 hp9 (.bool b9) (.slice A9 n9 c9) (.slice E9 k9 f9))
    have HON10 := Lib.hid (hon9.set3 hp9 (by omega) (.bool b9) (.slice A9 n9 c9) (.slice E9 k9 f9))
    have hp10 := sn3 hp9 (.bool b9) (.slice A9 n9 c9) (.slice E9 k9 f9)
    have HB10 := Lib.hid (bl3 (.bool b9) (.slice A9 n9 c9) (.slice E9 k9 f9) (by omega) hB9)
    have hz10 : gp + 1 ≤ (((w9.setCell ⟨gp, 0, none⟩ (.bool b9)).setCell ⟨gp, 1, none⟩ (.slice A9 n9 c9)).setCell ⟨gp, 2, none⟩ (.slice E9 k9 f9)).heap.size := by simp; omega
    clear hb hw9 hon8 hon9 hp8 hp9 hB8 hB9 hs8 hx8 hc8 hnum p0 p1 p2 x0 x1 x2 HON HS HP HB HX HC2 HCELL HONE HNN HZN HOWN hown' hgrow hat hnou' hc0 hc1 hc2
    go_wp2_with fail
    clear sc0 sf0 sc1 sf1 sc2 sf2
    generalize ((w9.setCell ⟨gp, 0, none⟩ (.bool b9)).setCell ⟨gp, 1, none⟩ (.slice A9 n9 c9)).setCell ⟨gp, 2, none⟩ (.slice E9 k9 f9) = W10 at *
    have C0 := Lib.hid (fun w' (h : Below W10.heap.size W10 w') => zfX (zaG R (k + 1)) Av (k + 1) cv K w' (HTB.out _ (zab HB10.out h)) (by have h9 := (HON10.out.below h).rats; rw [zcY] at h9; exact h9) (by omega) hKb HEK.out HTK.out)
    have C1 := Lib.hid (fun w' (h : Below W10.heap.size W10 w') bb BB mm dd EE uu ff (hw : zam w' (zcc (zaG R (k + 1))) bb BB mm dd EE uu ff) => zax (decide_eq_true rfl) (HQC.out.same (zcc (zaG R (k + 1))) (zcc (zaG R (k + 1))) bb b9 BB A9 mm n9 dd c9 EE E9 uu k9 ff f9 w' (HT.out _ (zab HB10.out h)) hw (HS10.out.below h) (SzQ.fit HSK1.out hw hKb) (SzQ.fit HSK1.out HS10.out hKb)))
    obtain ⟨p0, p1, p2⟩ := hp10.c3
    have hBw := (Below.refl W10.heap.size W10).drew
    refine rg (csc p0 (csc p1 (csc p2 csn))) (fun hHeld => ?_)
    refine tk 0 ?_
    try simp only [sb]
    refine tk 2 ?_
    try simp only [sb]
    refine rc 1 (fun KK hK => ?_)
    go_simp
    go_at_call 12; (with_reducible refine (C0.out _ hBw).mono ?_); rintro e wa ⟨b12, A12, n12, c12, E12, k12, f12, rfl, hw12, hb⟩; have hBw := zab hBw hb; refine hK.out _ _ (Cs.below hHeld hb) (fun hHeld => ?_); clear hK KK hb
    try simp only [sb]
    refine rc 3 (fun KK hK => ?_)
    go_simp
    go_at_call 11; (with_reducible refine (C1.out _ hBw _ _ _ _ _ _ _ hw12).mono ?_); rintro e wb ⟨rfl, hb⟩; have hBw := zab hBw hb; refine hK.out _ _ (Cs.below hHeld hb) (fun hHeld => ?_); clear hK KK hb
    try simp only [sb]
    refine tk 4 ?_
    try simp only [sb]
    refine rdn ?_
    have hon := HON10.out.below hBw
    have hs := HS10.out.below hBw
    have hp := zac hBw hp10
    have hB := zab HB10.out hBw
    have hz11 := hBw.size
    clear hw12 hHeld C0 C1 hBw HON10 HS10 hp10 HB10 p0 p1 p2
    go_wp2
    go_roundg (10 - k)
    case measure => omega
    case rel => exact ⟨k + 1, _, _, b9, A9, n9, c9, E9, k9, f9, by omega, by omega, by omega, by go_num, rfl, hon, hs, hp, hB, by omega⟩
   ·have hd1 : decide ((k : Int) < (n0 : Int)) = true := by simp; omega
    have hd2 : decide ((k : Int) < 10) = false := by simp; omega
    have HSU := Lib.hid (zfX [] none 0 0 1 wr (HTB.out _ hB) ⟨rfl, Nat.le_refl _, by decide, fun i hi => by omega⟩ (by decide) (by decide) (fun i hi => by omega) (fun i hi => by rw [List.take_nil]; exact SzQ.zero))
    clear hon hs hp
    go_wp2_with fail
    refine HSU.out.mono ?_
    rintro e w2 ⟨b2, A2, n2, c2, E2, k2, f2, rfl, hw2, hb⟩
    have hB2 := zab hB hb
    clear hb
    go_wp2_with fail
    refine (zax (decide_eq_true rfl) (HQC.out.zero (zcc []) b2 A2 n2 c2 E2 k2 f2 w2 (HT.out _ hB2) hw2 (SzQ.fit (K := 1) SzQ.zero hw2 (by decide)))).mono ?_
    rintro e w3 ⟨rfl, hb⟩
    have hB3 := zab hB2 hb
    clear hb hB2 hB hw2
    go_wp2
    go_ret
    exact ⟨rfl, hB3⟩
  ·have hd1 : decide ((k : Int) < (n0 : Int)) = false := by simp; omega
   have HSU := Lib.hid (zfX [] none 0 0 1 wr (HTB.out _ hB) ⟨rfl, Nat.le_refl _, by decide, fun i hi => by omega⟩ (by decide) (by decide) (fun i hi => by omega) (fun i hi => by rw [List.take_nil]; exact SzQ.zero))
   clear hon hs hp
   go_wp2_with fail
   refine HSU.out.mono ?_
   rintro e w2 ⟨b2, A2, n2, c2, E2, k2, f2, rfl, hw2, hb⟩
   have hB2 := zab hB hb
   clear hb
   go_wp2_with fail
   refine (zax (decide_eq_true rfl) (HQC.out.zero (zcc []) b2 A2 n2 c2 E2 k2 f2 w2 (HT.out _ hB2) hw2 (SzQ.fit (K := 1) SzQ.zero hw2 (by decide)))).mono ?_
   rintro e w3 ⟨rfl, hb⟩
   have hB3 := zab hB2 hb
   clear hb hB2 hB hw2
   go_wp2
   go_ret
   exact ⟨rfl, hB3⟩
end Go.Proofs.YtgigccjiblaefaaDoor
