/-
  The walk of the law ProdMany. Conditions: the rows that came in hold words, at most 1048576 of each, and are at most 1048576.
-/
import Derived.Test.YtonjhcmppiioeaaRows
import Derived.Test.YtonjhcmppiioeaaW3Awake
import Derived.Test.YtonjhcmppiioeaaP3D
import Derived.Test.YtonjhcmppiioeaaPMany
import Derived.Test.YtonjhcmppiioeaaUArgs2
import Derived.Test.YtonjhcmppiioeaaTNat
import Derived.Test.YtonjhcmppiioeaaNBits
import Derived.WalkKit
import Derived.Lib.Hide
import Derived.Outline
import Derived.Deep.RegionHeld3
import Derived.LoopTactic
import Derived.Deep.LoopGhost
import Derived.IntWalk
namespace Go.Proofs.Ytonjhcmppiioeaa
open Go Go.RowKit
set_option maxRecDepth 100000
set_option linter.unusedVariables false
set_option linter.unusedSimpArgs false
/-- The numbers of the first k rows. -/
def rowNums (R : Nat → Option Addr × Nat × Nat × List Nat) (k : Nat) : List Nat := (List.range k).map fun r => dv 18446744073709551616 (R r).2.2.2
theorem rowNums_succ (R : Nat → Option Addr × Nat × Nat × List Nat) (k : Nat) : rowNums R (k + 1) = rowNums R k ++ [dv 18446744073709551616 (R k).2.2.2] := by simp [rowNums, List.range_succ]
theorem rowNums_len (R : Nat → Option Addr × Nat × Nat × List Nat) (k : Nat) : (rowNums R k).length = k := by simp [rowNums]
theorem prodL_snoc (l : List Nat) (x : Nat) : prodL (l ++ [x]) = prodL l * x := by simp [prodL]
theorem sumL_snoc (l : List Nat) (x : Nat) : sumL (l ++ [x]) = sumL l + x := by simp [sumL]
/-- How long what is made of k numbers of up to K words is. -/
theorem prodL_sz {K : Nat} (R : Nat → Option Addr × Nat × Nat × List Nat) (k : Nat) (h : ∀ r, r < k → Sz K (dv 18446744073709551616 (R r).2.2.2)) : Sz (K * k + 1) (prodL (rowNums R k)) := by
  induction k with
  | zero => exact Sz.up (K := 1) (by show (1 : Nat) < 18446744073709551616 ^ 1; decide) (by omega)
  | succ k ih =>
    rw [rowNums_succ, prodL_snoc]
    exact ((ih (fun r hr => h r (by omega))).mul (h k (by omega))).up (by rw [Nat.mul_succ]; omega)
theorem sumL_sz {K : Nat} (R : Nat → Option Addr × Nat × Nat × List Nat) (k : Nat) (h : ∀ r, r < k → Sz K (dv 18446744073709551616 (R r).2.2.2)) : Sz (K + k) (sumL (rowNums R k)) := by
  induction k with
  | zero => show (0 : Nat) < 18446744073709551616 ^ _; exact Nat.pow_pos (by decide)
  | succ k ih =>
    rw [rowNums_succ, sumL_snoc]
    exact ((ih (fun r hr => h r (by omega))).add ((h k (by omega)).up (by omega))).up (by omega)
theorem rowNums_take (R : Nat → Option Addr × Nat × Nat × List Nat) {j k : Nat} (h : k ≤ j) : (rowNums R j).take k = rowNums R k := by
  simp [rowNums, ← List.map_take, List.take_range, Nat.min_eq_left h]
theorem rowNums_get (R : Nat → Option Addr × Nat × Nat × List Nat) {j k : Nat} (h : k < j) : (rowNums R j).getD k 0 = dv 18446744073709551616 (R k).2.2.2 := by
  simp [rowNums, List.getD_eq_getElem?_getD, List.getElem?_map, List.getElem?_range h]
theorem take_mem {l : List Nat} {k x : Nat} (h : x ∈ l.take k) : x ∈ l := List.mem_of_mem_take h
/-- A number that the walk keeps, apart from the cells at p and q and from the row of the call's own. -/
def Kept (p q : Nat) (v : Value) (B : Option Addr) (m : Nat) : Prop := 0 < m → ∀ ad, B = some ad → ad.block ≠ p ∧ ad.block ≠ q ∧ v.ownBlock ≠ some ad.block
theorem Kept.set_ {p q : Nat} {v : Value} {B : Option Addr} {m : Nat} (h : Kept p q v B m) {w : World} {x d : Nat} (hx : WordsIn w x B m d) (u : Value) : WordsIn (w.setCell ⟨p, 0, none⟩ u) x B m d ∧ WordsIn (w.setCell ⟨q, 0, none⟩ u) x B m d :=
  ⟨words_set0 hx (fun hm ad e => (h hm ad e).1) u, words_set0 hx (fun hm ad e => (h hm ad e).2.1) u⟩
theorem Kept.grow {w w' : World} {p q x m d : Nat} {v v' : Value} {B : Option Addr} (h : Kept p q v B m) (hx : WordsIn w x B m d) (hg : w.grownBy w' v.ownBlock) (ha : v'.ownBlock = v.ownBlock ∨ v'.ownBlock = some w.heap.size) : WordsIn w' x B m d ∧ Kept p q v' B m := by
  refine ⟨words_grown hx hg (fun hm ad e => (h hm ad e).2.2.symm), fun hm ad e => ⟨(h hm ad e).1, (h hm ad e).2.1, ?_⟩⟩
  rcases ha with ha | ha
  · rw [ha]; exact (h hm ad e).2.2
  · rw [ha]
    obtain ⟨ad', e', hlt, _⟩ := hx.1.2 hm
    rw [e] at e'
    injection e' with e'
    subst e'
    intro hh
    injection hh with hh
    omega
theorem Kept.fresh {w : World} {base p q : Nat} {v : Value} {B : Option Addr} {m n : Nat} {e : TypeId} {vs : List Value} (hf : Fresh w B) (hv : w.ownsRow base e 1 v n vs) (hp : p < w.heap.size) (hq : q < w.heap.size) : Kept p q v B m := fun _ ad e => by
  have h1 := hf ad e
  refine ⟨by omega, by omega, fun hh => ?_⟩
  have := (hv.lt _ hh).2
  omega
set_option maxHeartbeats 16000000 in
theorem prodMany_walk (A0 : Option Addr) (n0 c0 : Nat) (R : Nat → Option Addr × Nat × Nat × List Nat) (w : World) (h0 : ArgRows w A0 n0 c0 R) :
    Calls Try.prog 8 #[.slice A0 n0 c0] w fun e w' => e = .returned (.bool true) ∧ Below w.heap.size w w' := by
  obtain ⟨i1', hi1, hz10, hz11, hz12⟩ := info_parts infoN
  have HR := Lib.hid h0.row
  have hn0 : n0 ≤ 1048576 := Nat.le_trans h0.fits h0.small
  obtain ⟨K, hK⟩ : ∃ K, 1048576 = K := ⟨_, rfl⟩
  obtain ⟨M, hM⟩ : ∃ M, 12582924 = M := ⟨_, rfl⟩
  have hKM : K * 12 + 12 = M := by omega
  have hKb : K ≤ 1048576 := by omega
  have SX : ∀ r, r < n0 → Sz K (dv 18446744073709551616 (R r).2.2.2) := fun r hr => by
    obtain ⟨_, _, _, _, ha⟩ := h0.row r hr
    rw [← hK]
    exact arg_sz ha
  have HSX := Lib.hid SX
  have HSP : Hid (∀ k, k ≤ 12 → k ≤ n0 → Sz M (prodL (rowNums R k))) := fun k h1 h2 => (prodL_sz R k (fun r hr => SX r (by omega))).up (by have := Nat.mul_le_mul (Nat.le_refl K) h1; omega)
  have HSS : Hid (∀ k, k ≤ 12 → k ≤ n0 → Sz M (sumL (rowNums R k))) := fun k h1 h2 => (sumL_sz R k (fun r hr => SX r (by omega))).up (by omega)
  have hMb : M ≤ 12582924 := by omega
  clear h0 SX hK hM hKM
  go_enter Try.func8, Try.ntmps8
  go_wp2_with fail
  refine (law3_awake prodC _).mono ?_
  rintro e w1 ⟨rfl, hB⟩
  go_wp2_with fail
  generalize hW : w1.alloc (.cells #[.int .u64 1] 23) = V1
  obtain ⟨b1, b3, b5⟩ := box1 w1 23 #[.int .u64 1]
  rw [hW] at b1 b3 b5
  clear hW
  refine (of_lits _ [1] V1 _ 1 1 b3 rfl rfl (dgs1 1 (by decide)) rfl (by decide)).mono ?_
  rintro e wc1 ⟨Bp, mp, dp, rfl, hw0, hb, _⟩
  have hb := up2 b1 hb
  have hB := keep_below hB hb
  have HNp := Lib.hid hw0
  clear hb hw0 b1 b3 b5
  go_wp2_with fail
  refine (show Calls Try.prog 12 #[.slice none 0 0] wc1 (GivesN2 wc1 0) from nat_of none 0 0 [] wc1 Reads.none_ (by intro d hd; simp at hd) (Nat.le_refl _) (by decide) (by decide)).mono ?_
  rintro e wc3 ⟨Bs, ms, ds, rfl, hw0, hb, _⟩
  have hB := keep_below hB hb
  have hwp := HNp.out.below hb
  have hwz := hB.size
  clear HNp hb
  obtain ⟨b1, b2, b3, b5⟩ := box2 wc3 29 29 #[.slice Bp mp dp] #[.slice Bs ms ds]
  have hws := hw0.below b1
  have hlp : 0 < mp → ∀ ad, Bp = some ad → ad.block < wc3.heap.size := fun hm ad e => by
    obtain ⟨ad', e', hlt, _⟩ := hwp.1.2 hm
    rw [e] at e'
    injection e' with e'
    subst e'
    exact hlt
  have hls : 0 < ms → ∀ ad, Bs = some ad → ad.block < wc3.heap.size := fun hm ad e => by
    obtain ⟨ad', e', hlt, _⟩ := hw0.1.2 hm
    rw [e] at e'
    injection e' with e'
    subst e'
    exact hlt
  have hwp := hwp.below b1
  have hB := keep_below hB b1
  clear hw0
  go_wp2_with fail
  generalize (wc3.alloc (.cells #[.slice Bp mp dp] 29)).alloc (.cells #[.slice Bs ms ds] 29) = W3 at *
  generalize wc3.heap.size = gp at *
  have hgz : gp + 2 ≤ W3.heap.size := b5
  have hon : OwnNums W3 (gp + 2) (.slice none 0 0) (rowNums R 0) [] := OwnNums.nil _ _
  have hkp : Kept gp (gp + 1) (.slice none 0 0) Bp mp := fun hm ad e => by have := hlp hm ad e; exact ⟨by omega, by omega, by simp [Value.ownBlock]⟩
  have hks : Kept gp (gp + 1) (.slice none 0 0) Bs ms := fun hm ad e => by have := hls hm ad e; exact ⟨by omega, by omega, by simp [Value.ownBlock]⟩
  have hwg : w.heap.size ≤ gp := by omega
  clear hlp hls b1 b5 hwz
  go_loopg [3, 6] 13 (fun g sl ix wr => ∃ (k : Nat) (v : Value) (vs : List Value) (Bp : Option Addr) (mp dp : Nat) (Bs : Option Addr) (ms ds : Nat), k ≤ n0 ∧ k ≤ 12 ∧ 12 < g + k ∧ ix = .int .i64 k ∧ v = sl ∧ OwnNums wr (gp + 2) v (rowNums R k) vs ∧ WordsIn wr (prodL (rowNums R k)) Bp mp dp ∧ Kept gp (gp + 1) v Bp mp ∧ WordsIn wr (sumL (rowNums R k)) Bs ms ds ∧ Kept gp (gp + 1) v Bs ms ∧ Blk wr gp 29 #[.slice Bp mp dp] ∧ Blk wr (gp + 1) 29 #[.slice Bs ms ds] ∧ Below w.heap.size w wr ∧ gp + 2 ≤ wr.heap.size)
  case atStart => exact ⟨0, _, _, Bp, mp, dp, Bs, ms, ds, Nat.zero_le _, by omega, by omega, rfl, rfl, hon, hwp, hkp, hws, hks, b2, b3, hB, hgz⟩
  case round =>
    clear hon hwp hkp hws hks b2 b3 hB hgz
    obtain ⟨k, v, vs, Bp, mp, dp, Bs, ms, ds, hkn, hk12, hg, rfl, rfl, hon, hwp, hkp, hws, hks, hp, hs, hB, hbz⟩ := hrel
    by_cases hlt : k < n0
    · by_cases hlt2 : k < 12
      · obtain ⟨ad, rfl, hadb, hcl, harg⟩ := HR.out k hlt
        have HRS : Hid (rowNums R (k + 1) = rowNums R k ++ [dv 18446744073709551616 (R k).2.2.2]) := rowNums_succ R k
        have hS0 := HSX.out k hlt
        obtain ⟨q, hq⟩ : ∃ q, R k = q := ⟨_, rfl⟩
        rw [hq] at hcl harg HRS hS0
        obtain ⟨Ar, nr, cr, lr⟩ := q
        dsimp only at hcl harg HRS hS0
        have O := arg_of harg
        obtain ⟨x, hx⟩ : ∃ x, dv 18446744073709551616 lr = x := ⟨_, rfl⟩
        rw [hx] at O HRS hS0
        have HO := Lib.hid O
        have HSx := Lib.hid hS0
        have hcl2 : wr.cell? (ad.add k) = some (.slice Ar nr cr) := (hB.cell (by rw [block_of_add]; exact hadb)).trans hcl
        have i1 : (0 : Int) ≤ (k : Int) := by omega
        have i2 : (k : Int) < (n0 : Int) := by omega
        have hmp := (HSP.out k hk12 hkn).words hwp
        have hms := (HSS.out k hk12 hkn).words hws
        clear hq hcl harg O hx hS0
        go_wp2_with fail
        refine (HO.out _ hB).mono ?_
        rintro e w5 ⟨Bn, mn, dn, rfl, hwn, hb, hfn⟩
        have hmn := HSx.out.words hwn
        have han := Apart.fresh (m := mn) hfn hon.own hbz
        have hob : ∀ r, v.ownBlock = some r → gp + 2 ≤ r ∧ r < wr.heap.size := fun r h => hon.own.lt r h
        have hwz := hb.size
        obtain ⟨c1, c2, c3, c5⟩ := box2 w5 29 29 #[.slice Bn mn dn] #[.slice Bn mn dn]
        have hup := keep_below hb c1
        have HB := Lib.hid (keep_below hB hup)
        have HON := Lib.hid (hon.below hup)
        have HWP := Lib.hid (hwp.below hup)
        have HWS := Lib.hid (hws.below hup)
        have HWN := Lib.hid (hwn.below c1)
        have HP := Lib.hid (keep_blk hup hp)
        have HS2 := Lib.hid (keep_blk hup hs)
        have HNB := Lib.hid c2
        have hrd : Reads ((w5.alloc (.cells #[.slice Bn mn dn] 29)).alloc (.cells #[.slice Bn mn dn] 29)) (w5.heap.size + 2) 1 (some ⟨w5.heap.size + 1, 0, none⟩) 1 [.slice Bn mn dn] := by
          refine ⟨rfl, fun _ => ⟨_, rfl, by show w5.heap.size + 1 < _; omega, fun j u hu => ?_⟩⟩
          match j, hu with
          | 0, hu => simp at hu; subst hu; exact c3.cell 0
        have HRD := Lib.hid hrd
        have hone : ∀ u ∈ [Value.slice Bn mn dn], u.oneCell' = true := by intro u hu; simp at hu; subst hu; rfl
        have HONE := Lib.hid hone
        have hrl : (rowNums R k).length = k := rowNums_len R k
        have HOWN := HON.out.own
        rw [hrl] at HOWN
        have HOWN := Lib.hid HOWN
        have HRL := Lib.hid hrl
        have HCG : Hid (∀ w6, World.grownBy ((w5.alloc (.cells #[.slice Bn mn dn] 29)).alloc (.cells #[.slice Bn mn dn] 29)) w6 v.ownBlock → w6.cell? ⟨gp, 0, none⟩ = some (.slice Bp mp dp) ∧ w6.cell? ⟨gp + 1, 0, none⟩ = some (.slice Bs ms ds) ∧ w6.cell? ⟨w5.heap.size, 0, none⟩ = some (.slice Bn mn dn) ∧ Blk w6 gp 29 #[.slice Bp mp dp] ∧ Blk w6 (gp + 1) 29 #[.slice Bs ms ds] ∧ Blk w6 w5.heap.size 29 #[.slice Bn mn dn]) := fun w6 hg => by
          have a1 := HP.out.grown hg (fun h => by have := hob _ h.symm; omega)
          have a2 := HS2.out.grown hg (fun h => by have := hob _ h.symm; omega)
          have a3 := HNB.out.grown hg (fun h => by have := hob _ h.symm; omega)
          exact ⟨a1.cell 0, a2.cell 0, a3.cell 0, a1, a2, a3⟩
        clear hb hB hon hwp hws hwn hp hs c1 c2 c3 c5 hup hrd hone hrl hfn hcl2
        go_wp2_with (at_builtin; refine wpList_append_any _ rfl (.tmp 28) (.tmp 30) 47 rfl (gp + 2) 29 i1' (.agg #[.slice none 0 0]) 1 24 Try.underlying47 hi1 hz10 hz11 hz12 rfl (by decide) v k vs rfl HOWN.out (w5.heap.size + 2) (some ⟨w5.heap.size + 1, 0, none⟩) 1 1 [.slice Bn mn dn] rfl HRD.out HONE.out (by unfold maxLen; omega) (by omega) (by simp; omega) ?_; intro v' w6 hown' hgrow hat; obtain ⟨k1, k2, k3, k4, k5, k6⟩ := HCG.out w6 hgrow)
        have hon6 := OwnNums.grow HON.out HWN.out han (by rw [HRL.out]; exact hown') rfl hgrow hat
        rw [← HRS.out] at hon6
        obtain ⟨hwp6, hkp6⟩ := hkp.grow HWP.out hgrow hat
        obtain ⟨hws6, hks6⟩ := hks.grow HWS.out hgrow hat
        obtain ⟨hwn6, han6⟩ := han.grow HWN.out hgrow hat
        have hsz6 : w5.heap.size + 2 ≤ w6.heap.size := by have := hgrow.size; simp at this; omega
        have hB6 : Below w.heap.size w w6 := HB.out.grown hgrow (by simp; omega) (fun r hr => by have := hob r hr; omega)
        have HM := Lib.hid (prod_mul _ x Bp Bn mp mn dp dn w6 hwp6 hwn6 (by omega) (by omega))
        have hpn : gp + 2 ≤ w5.heap.size := by omega
        clear HB HON HWP HWS HWN HP HS2 HNB HRD HONE HOWN HCG hown' hgrow hat hkp hks han hob hwp6 hkp6
        refine HM.out.mono ?_
        rintro e w7 ⟨A7, m7, d7, rfl, hw7, hb, hf7⟩
        have hB7 := keep_below hB6 hb
        have hon7 := hon6.below hb
        have hws7 := hws6.below hb
        have hwn7 := hwn6.below hb
        have k4 := keep_blk hb k4
        have k5 := keep_blk hb k5
        have k6 := keep_blk hb k6
        have hsz7 : w6.heap.size ≤ w7.heap.size := hb.size
        have f0 := k4.frozen 0
        have q1 := k4.cell 0
        have hkp8 : Kept gp (gp + 1) v' A7 m7 := Kept.fresh hf7 hon6.own (by omega) (by omega)
        have hwp8 := words_set hw7 (p := ⟨gp, 0, none⟩) (fun ad e => by have := hf7 ad e; show ad.block ≠ gp; omega) (.slice A7 m7 d7)
        have hon8 := hon7.set_ (p := ⟨gp, 0, none⟩) (by show gp < gp + 2; omega) (.slice A7 m7 d7)
        have hws8 := (hks6.set_ hws7 (.slice A7 m7 d7)).1
        have hwn8 := words_set0 hwn7 (p := ⟨gp, 0, none⟩) (fun hm ad e => by have := (han6 hm ad e).1; show ad.block ≠ gp; omega) (.slice A7 m7 d7)
        have hB8 := keep_below_set (p := ⟨gp, 0, none⟩) (.slice A7 m7 d7) (by show w.heap.size ≤ gp; omega) hB7
        have r4 := blk_set1 k4 (.slice A7 m7 d7)
        have r5 := k5.far (p := ⟨gp, 0, none⟩) (by show gp + 1 ≠ gp; omega) (.slice A7 m7 d7)
        have r6 := k6.far (p := ⟨gp, 0, none⟩) (by show w5.heap.size ≠ gp; omega) (.slice A7 m7 d7)
        have hsz8 : w7.heap.size ≤ (w7.setCell ⟨gp, 0, none⟩ (.slice A7 m7 d7)).heap.size := by simp
        have q2 : (w7.setCell ⟨gp, 0, none⟩ (.slice A7 m7 d7)).cell? ⟨gp + 1, 0, none⟩ = some (.slice Bs ms ds) := r5.cell 0
        have q3 : (w7.setCell ⟨gp, 0, none⟩ (.slice A7 m7 d7)).cell? ⟨w5.heap.size, 0, none⟩ = some (.slice Bn mn dn) := r6.cell 0
        have HPS := Lib.hid (show prodL (rowNums R (k + 1)) = prodL (rowNums R k) * x from by rw [HRS.out, prodL_snoc])
        have HSS1 := Lib.hid (show sumL (rowNums R (k + 1)) = sumL (rowNums R k) + x from by rw [HRS.out, sumL_snoc])
        rw [← HPS.out] at hwp8
        have HA := Lib.hid (nat_add _ x Bs Bn ms mn ds dn _ hws8 hwn8 (by omega) (by omega))
        rw [← HSS1.out] at HA
        clear hB6 hB7 hb hon6 hon7 hws6 hws7 hwn6 hwn7 k1 k2 k3 k4 k5 k6 hf7 hw7 hks6 hws8
        go_wp2_with fail
        generalize w7.setCell ⟨gp, 0, none⟩ (.slice A7 m7 d7) = U at *
        refine HA.out.mono ?_
        rintro e w8 ⟨A8, m8, d8, rfl, hw8, hb, hf8⟩
        have hB9 := keep_below hB8 hb
        have hon9 := hon8.below hb
        have hwp9 := hwp8.below hb
        have r4 := keep_blk hb r4
        have r5 := keep_blk hb r5
        have hsz9 : U.heap.size ≤ w8.heap.size := hb.size
        have f1 := r5.frozen 0
        have q4 := r5.cell 0
        have hks10 : Kept gp (gp + 1) v' A8 m8 := Kept.fresh hf8 hon8.own (by omega) (by omega)
        have hws10 := words_set hw8 (p := ⟨gp + 1, 0, none⟩) (fun ad e => by have := hf8 ad e; show ad.block ≠ gp + 1; omega) (.slice A8 m8 d8)
        have hon10 := hon9.set_ (p := ⟨gp + 1, 0, none⟩) (by show gp + 1 < gp + 2; omega) (.slice A8 m8 d8)
        have hwp10 := (hkp8.set_ hwp9 (.slice A8 m8 d8)).2
        have hB10 := keep_below_set (p := ⟨gp + 1, 0, none⟩) (.slice A8 m8 d8) (by show w.heap.size ≤ gp + 1; omega) hB9
        have s4 := r4.far (p := ⟨gp + 1, 0, none⟩) (by show gp ≠ gp + 1; omega) (.slice A8 m8 d8)
        have s5 := blk_set1 r5 (.slice A8 m8 d8)
        have hsz10 : w8.heap.size ≤ (w8.setCell ⟨gp + 1, 0, none⟩ (.slice A8 m8 d8)).heap.size := by simp
        have hsh := hon10.shape
        rw [rowNums_len] at hsh
        obtain ⟨Av, cv, rfl, hnum⟩ := hsh
        have HP1 := HSP.out (k + 1) (by omega) (by omega)
        have HS1 := HSS.out (k + 1) (by omega) (by omega)
        have C1 := Lib.hid (fun w' (h : Below (w8.setCell ⟨gp + 1, 0, none⟩ (.slice A8 m8 d8)).heap.size (w8.setCell ⟨gp + 1, 0, none⟩ (.slice A8 m8 d8)) w') => prod_of (rowNums R (k + 1)) Av (k + 1) cv w' (hnum.below h) (by omega) (fun j hj => by rw [rowNums_take R hj]; exact Nat.le_trans (HSP.out j (by omega) (by omega)).len (by omega)) (fun j hj => by rw [rowNums_get R hj]; exact Nat.le_trans (HSX.out j (by omega)).len (by omega)))
        have C2 := Lib.hid (fun w' (h : Below (w8.setCell ⟨gp + 1, 0, none⟩ (.slice A8 m8 d8)).heap.size (w8.setCell ⟨gp + 1, 0, none⟩ (.slice A8 m8 d8)) w') A' n' c' (hw : WordsIn w' (prodL (rowNums R (k + 1))) A' n' c') => cmp_same (K := M) HP1 rfl (by omega) hw (hwp10.below h))
        have C3 := Lib.hid (fun w' (h : Below (w8.setCell ⟨gp + 1, 0, none⟩ (.slice A8 m8 d8)).heap.size (w8.setCell ⟨gp + 1, 0, none⟩ (.slice A8 m8 d8)) w') => prod_sum (rowNums R (k + 1)) Av (k + 1) cv w' (hnum.below h) (by omega) (fun j hj => by rw [rowNums_take R hj]; exact Nat.le_trans (HSS.out j (by omega) (by omega)).len (by omega)) (fun j hj => by rw [rowNums_get R hj]; exact Nat.le_trans (HSX.out j (by omega)).len (by omega)))
        have C4 := Lib.hid (fun w' (h : Below (w8.setCell ⟨gp + 1, 0, none⟩ (.slice A8 m8 d8)).heap.size (w8.setCell ⟨gp + 1, 0, none⟩ (.slice A8 m8 d8)) w') A' n' c' (hw : WordsIn w' (sumL (rowNums R (k + 1))) A' n' c') => cmp_same (K := M) HS1 rfl (by omega) hw (hws10.below h))
        clear hB8 hB9 hb hon8 hon9 hwp8 hwp9 hwn8 q1 q2 q3 r4 r5 r6 hf8 hw8 HP1 HS1 hnum han6
        go_wp2_with fail
        generalize w8.setCell ⟨gp + 1, 0, none⟩ (.slice A8 m8 d8) = W9 at *
        have g4 : W9.cell? ⟨gp, 0, none⟩ = some (.slice A7 m7 d7) := s4.cell 0
        have g5 : W9.cell? ⟨gp + 1, 0, none⟩ = some (.slice A8 m8 d8) := s5.cell 0
        have hb0 : Below W9.heap.size W9 W9.drew := (Below.refl _ W9).drew
        have j0 : W9.drew.cell? ⟨gp, 0, none⟩ = some (.slice A7 m7 d7) := g4
        have j1 : W9.drew.cell? ⟨gp + 1, 0, none⟩ = some (.slice A8 m8 d8) := g5
        go_region_held3 (fun w' => Below W9.heap.size W9 w' ∧ w'.cell? ⟨gp, 0, none⟩ = some (.slice A7 m7 d7) ∧ w'.cell? ⟨gp + 1, 0, none⟩ = some (.slice A8 m8 d8))
          (first | (exact ⟨hb0, j0, j1⟩) | (go_split_ands; refine ⟨?_, ?_, ?_⟩; all_goals (first | with_reducible assumption | exact keep_below (by with_reducible assumption) hb | exact keep_cell hb (by with_reducible assumption) | exact keep_below_alloc _ (by with_reducible assumption) | exact keep_cell_alloc _ (by with_reducible assumption))))
          (first
            | (go_at_call 25; (with_reducible refine (C1.out _ (by first | with_reducible assumption | exact And.left (by with_reducible assumption))).mono ?_); rintro e w' ⟨A1, n1, c1, rfl, hw1, hb, _⟩)
            | (go_at_call 22; (with_reducible refine (C2.out _ (by first | with_reducible assumption | exact And.left (by with_reducible assumption)) _ _ _ hw1).mono ?_); rintro e w' ⟨rfl, hb⟩)
            | (go_at_call 26; (with_reducible refine (C3.out _ (by first | with_reducible assumption | exact And.left (by with_reducible assumption))).mono ?_); rintro e w' ⟨A2, n2, c2, rfl, hw2, hb, _⟩)
            | (go_at_call 22; (with_reducible refine (C4.out _ (by first | with_reducible assumption | exact And.left (by with_reducible assumption)) _ _ _ hw2).mono ?_); rintro e w' ⟨rfl, hb⟩))
        rename_i hH
        obtain ⟨hb7, _, _⟩ := hH
        have hB11 := keep_below hB10 hb7
        have hon11 := hon10.below hb7
        have hwp11 := hwp10.below hb7
        have hws11 := hws10.below hb7
        have s4 := keep_blk hb7 s4
        have s5 := keep_blk hb7 s5
        have hsz11 := hb7.size
        clear hb hb0 hb7 hB10 hon10 hwp10 hws10 g4 g5
        go_wp2
        go_roundg (12 - k)
        case measure => omega
        case rel => exact ⟨k + 1, _, _, A7, m7, d7, A8, m8, d8, by omega, by omega, by omega, by go_num, rfl, hon11, hwp11, hkp8, hws11, hks10, s4, s5, hB11, by omega⟩
      · have hk12 : k = 12 := by omega
        subst hk12
        clear hon hwp hkp hws hks hp hs hbz
        go_wp2_with fail
        refine (prod_of [] none 0 0 wr (NumsIn.none_ _) (by decide) (by intro k hk; rw [List.take_nil]; decide +kernel) (by intro i hi; omega)).mono ?_
        rintro e wf ⟨Bf, mf, df, rfl, hw0, hb, _⟩
        have hB := keep_below hB hb
        have HNf := Lib.hid hw0
        clear hb hw0
        go_wp2_with fail
        generalize hW : wf.alloc (.cells #[.int .u64 1] 23) = V9
        obtain ⟨b1, b3, b5⟩ := box1 wf 23 #[.int .u64 1]
        rw [hW] at b1 b3 b5
        clear hW
        refine (of_lits _ [1] V9 _ 1 1 b3 rfl rfl (dgs1 1 (by decide)) rfl (by decide)).mono ?_
        rintro e wg ⟨Bg, mg, dg', rfl, hw0, hb, _⟩
        have hb := up2 b1 hb
        have hB := keep_below hB hb
        have HNf := Lib.hid (HNf.out.below hb)
        have HNg := Lib.hid hw0
        clear hb hw0 b1 b3 b5
        go_wp2_with fail
        have hS1 : Sz 1 (prodL []) := by show (1 : Nat) < 18446744073709551616 ^ 1; decide
        refine (cmp_same (K := 1) (y := 1) hS1 rfl (by decide) HNf.out HNg.out).mono ?_
        clear hS1
        rintro e wh ⟨rfl, hb⟩
        have hB := keep_below hB hb
        clear hb HNf HNg
        go_wp2_with fail
        refine (prod_sum [] none 0 0 wh (NumsIn.none_ _) (by decide) (by intro k hk; rw [List.take_nil]; decide +kernel) (by intro i hi; omega)).mono ?_
        rintro e wi ⟨Bi, mi, di, rfl, hw0, hb, _⟩
        have hB := keep_below hB hb
        obtain rfl : mi = 0 := len_of hw0 (dg_zero _)
        clear hb hw0
        go_wp2_with fail
        refine (nat_zero_yes Bi di wi).mono ?_
        rintro e wj ⟨rfl, hb⟩
        have hB := keep_below hB hb
        clear hb
        go_wp2
        go_ret
        exact ⟨by first | rfl | simp, hB⟩
    · have hkn2 : k = n0 := by omega
      subst hkn2
      clear hon hwp hkp hws hks hp hs hbz
      go_wp2_with fail
      refine (prod_of [] none 0 0 wr (NumsIn.none_ _) (by decide) (by intro k hk; rw [List.take_nil]; decide +kernel) (by intro i hi; omega)).mono ?_
      rintro e wf ⟨Bf, mf, df, rfl, hw0, hb, _⟩
      have hB := keep_below hB hb
      have HNf := Lib.hid hw0
      clear hb hw0
      go_wp2_with fail
      generalize hW : wf.alloc (.cells #[.int .u64 1] 23) = V9
      obtain ⟨b1, b3, b5⟩ := box1 wf 23 #[.int .u64 1]
      rw [hW] at b1 b3 b5
      clear hW
      refine (of_lits _ [1] V9 _ 1 1 b3 rfl rfl (dgs1 1 (by decide)) rfl (by decide)).mono ?_
      rintro e wg ⟨Bg, mg, dg', rfl, hw0, hb, _⟩
      have hb := up2 b1 hb
      have hB := keep_below hB hb
      have HNf := Lib.hid (HNf.out.below hb)
      have HNg := Lib.hid hw0
      clear hb hw0 b1 b3 b5
      go_wp2_with fail
      have hS1 : Sz 1 (prodL []) := by show (1 : Nat) < 18446744073709551616 ^ 1; decide
      refine (cmp_same (K := 1) (y := 1) hS1 rfl (by decide) HNf.out HNg.out).mono ?_
      clear hS1
      rintro e wh ⟨rfl, hb⟩
      have hB := keep_below hB hb
      clear hb HNf HNg
      go_wp2_with fail
      refine (prod_sum [] none 0 0 wh (NumsIn.none_ _) (by decide) (by intro k hk; rw [List.take_nil]; decide +kernel) (by intro i hi; omega)).mono ?_
      rintro e wi ⟨Bi, mi, di, rfl, hw0, hb, _⟩
      have hB := keep_below hB hb
      obtain rfl : mi = 0 := len_of hw0 (dg_zero _)
      clear hb hw0
      go_wp2_with fail
      refine (nat_zero_yes Bi di wi).mono ?_
      rintro e wj ⟨rfl, hb⟩
      have hB := keep_below hB hb
      clear hb
      go_wp2
      go_ret
      exact ⟨by first | rfl | simp, hB⟩
end Go.Proofs.Ytonjhcmppiioeaa
