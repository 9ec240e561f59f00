/- What this claim leans on. -/
import Derived.Test.YtgigccjiblaefaaGreatDoorBBun6
import Derived.Deep.RegionLaw
import Derived.LaidMore
import Derived.LoopIn
import Derived.LoopNIn
import Derived.OrdersHeld
import Derived.OrdersIn
import Derived.OwnWalkIn
import Derived.RangeFuncBound
import Derived.RangeFuncCalls
import Derived.RangeFuncLeaves
import Derived.RangeFuncNested
import Derived.Shelf.Abstract
import Derived.Shelf.RegionOpen
import Derived.TacticsInMore
namespace Go.Proofs.YtgigccjiblaefaaGreatDoor
open Go Go.RowKit
open Go.ChangeShapes Go.WideShapes Go.ChangeAt
section
variable {H : Type} {enc : TypeId × Value → H} {P : Program}
theorem post_of_below {f : Func} {s : ChangeSpec} {apart fresh handsOn again : Bool} {W W' : World} {args : Array Value} {v : Value} {ds gs : List (DataW H)} {before pa pv : List MemPlace}
  (hW : DataW.Whole enc P f.params.toList s.vars apart W args.toList ds gs before)
  (hres : ∀ (b : Nat) (sp : Nat → Bool) (hd : Bool), DataW.TrodAll enc P W' b sp hd f.resultTypes.toList (v.resultList f.resultTypes.size) (s.fn H (ds ++ gs)).results [])
  (hargs : ∀ sp : Nat → Bool, (∀ p ∈ before, sp p.block = true) → DataW.TrodAll enc P W' 0 sp true f.params.toList args.toList (s.fn H (ds ++ gs)).args pa)
  (hvars : ∀ sp : Nat → Bool, (∀ p ∈ before, sp p.block = true) → DataW.TrodVars enc P W' sp s.vars (s.fn H (ds ++ gs)).vars pv)
  (hps : before = pa ++ pv) (hb : Below W.heap.size W W')
  (hok : ∀ (j : Nat) (t : TypeId) (r : Value), f.resultTypes[j]? = some t → (v.resultList f.resultTypes.size)[j]? = some r → Value.okWide P W' .any 0 t r) :
  s.post enc P f apart fresh handsOn again W args v W' := by
 have hlt : ∀ p ∈ before, p.block < W.heap.size := fun p hp => hW.lt p hp
 have hold : ∀ p ∈ before, (fun b => decide (b < W.heap.size)) p.block = true := fun p hp => by simpa using hlt p hp
 refine ⟨ds, gs, before, [], pa, pv, hW, hres _ _ _, hargs _ hold, hvars _ hold, World.keptBut_mono (fun p hp => ⟨hp, ?_⟩) (hb.frame (· ∈ before)), fun _ => ?_⟩
 ·rw [hps, List.mem_append] at hp
  exact Or.inr hp
 ·obtain ⟨_, _, _, _, _, hz, hn⟩ := hW
  refine ⟨hok, _, _, ([] ++ pa) ++ pv, ⟨[] ++ pa, pv, trodAll_append (hargs _ (fun _ _ => rfl)) (hres _ _ _), hvars _ (fun _ _ => rfl), rfl, ?_, ?_⟩, ?_⟩
  ·intro b off hp
   have hin : MemPlace.cell b off ∈ before := by rw [hps]; simpa using hp
   rw [hb.frozen (hlt _ hin)]
   exact hz b off hin
  ·intro ha
   have := hn ha
   rw [hps] at this
   simpa using this
  ·intro p hp _
   rw [hps]
   simpa using hp
end
end Go.Proofs.YtgigccjiblaefaaGreatDoor
namespace Go.Proofs.YtgigccjiblaefaaGreatDoor
open Go Go.RowKit
set_option linter.unusedVariables false
structure zjH (w : World) (A : Option Addr) (n c : Nat) (xs : List Nat) : Prop where
 len : xs.length = n
 fits : n ≤ c
 most : c ≤ 9223372036854775807
 num : ∀ i, i < n → ∃ (ad : Addr) (B : Option Addr) (m d : Nat), A = some ad ∧ ad.block < w.heap.size ∧ w.cell? (ad.add i) = some (.slice B m d) ∧ zag w (xs.getD i 0) B m d
theorem zjH.below {w w' : World} {A : Option Addr} {n c : Nat} {xs : List Nat} (h : zjH w A n c xs) (hb : Below w.heap.size w w') : zjH w' A n c xs :=
 ⟨h.len, h.fits, h.most, fun i hi => by
  obtain ⟨ad, B, m, d, e, h1, h2, h3⟩ := h.num i hi
  exact ⟨ad, B, m, d, e, Nat.lt_of_lt_of_le h1 hb.size, zac hb h2, h3.below hb⟩⟩
theorem zdp {w : World} {A : Option Addr} {n c x : Nat} (h : zag w x A n c) {p : Addr} (hp : 0 < n → ∀ ad, A = some ad → ad.block ≠ p.block) (u : Value) : zag (w.setCell p u) x A n c := by
 by_cases hn : 0 < n
 ·exact zbQ h (hp hn) u
 ·exact ⟨⟨h.1.1, fun h0 => absurd h0 hn⟩, h.2⟩
theorem ziH {w w' : World} {x : Nat} {B : Option Addr} {m d : Nat} (h : zag w x B m d) {row : Option Nat} (hg : w.grownBy w' row) (hr : 0 < m → ∀ ad, B = some ad → some ad.block ≠ row) : zag w' x B m d := by
 obtain ⟨hr0, h1, h2⟩ := h
 refine ⟨⟨hr0.1, fun hn => ?_⟩, h1, h2⟩
 obtain ⟨ad, e, hb, hc⟩ := hr0.2 hn
 refine ⟨ad, e, Nat.lt_of_lt_of_le hb hg.size, fun j u hu => ?_⟩
 exact (World.cell?_of_block (hg.block _ (by rw [zaF]; exact hb) (by rw [zaF]; exact hr hn ad e))).trans (hc j u hu)
theorem zhy {w : World} {A : Option Addr} {n c x g : Nat} {t : TypeId} {a : Option Addr} {b d : Nat} (h : zag w x A n c) (hk : Blk w g t #[.slice a b d]) : 0 < n → ∀ ad, A = some ad → ad.block ≠ g := fun hn ad e hg => by
 obtain ⟨ad', e', _, hc⟩ := h.1.2 hn
 rw [e] at e'
 injection e' with e'
 subst e'
 have hl := h.len
 have h0 := hc 0 (.int .u64 ((dg 18446744073709551616 x).getD 0 0 : Nat)) (zbO .u64 _ 0 (by omega))
 have e0 : ad.add 0 = ad := by unfold Addr.add; rw [if_pos rfl]
 rw [e0] at h0
 obtain ⟨bk, off, pr⟩ := ad
 simp only at hg
 subst hg
 unfold Blk at hk
 cases pr with
 | none =>
   rw [show w.cell? ⟨bk, off, none⟩ = #[Value.slice a b d][off]? from cell_of_row w bk off _ t (0, 0) hk] at h0
   match off, h0 with
   | 0, h0 => simp at h0
   | o + 1, h0 => simp at h0
 | some q => simp [World.cell?, hk] at h0
theorem zaN {w : World} {A : Option Addr} {n c x g : Nat} {t : TypeId} {a : Option Addr} {b d : Nat} (h : zag w x A n c) (hk : Blk w g t #[.slice a b d]) (u : Value) : zag (w.setCell ⟨g, 0, none⟩ u) x A n c :=
 zdp h (zhy h hk) u
theorem zam {w : World} {A : Option Addr} {n c x g : Nat} {a : Option Addr} {b d : Nat} (h : zag w x A n c) (hk : zbi w g (.slice a b d)) (u : Value) : zag (w.setCell ⟨g, 0, none⟩ u) x A n c := by
 obtain ⟨t, hk⟩ := hk
 exact zaN h hk u
def Apart (base : Nat) (v : Value) (B : Option Addr) (m : Nat) : Prop := 0 < m → ∀ ad, B = some ad → base ≤ ad.block ∧ v.ownBlock ≠ some ad.block
structure zcj (w : World) (base : Nat) (v : Value) (xs : List Nat) (vs : List Value) : Prop where
 own : w.ownsRow base 27 1 v xs.length vs
 num : ∀ i, i < xs.length → ∃ (B : Option Addr) (m d : Nat), vs[i]? = some (.slice B m d) ∧ zag w (xs.getD i 0) B m d ∧ Apart base v B m
theorem zcj.nil (w : World) (base : Nat) : zcj w base (.slice none 0 0) [] [] := ⟨World.ownsRow_nil _ _ _ _, fun i hi => by simp at hi⟩
theorem zcj.len {w : World} {base : Nat} {v : Value} {xs : List Nat} {vs : List Value} (h : zcj w base v xs vs) : vs.length = xs.length := by have := h.own.1; omega
theorem zcj.below {w w' : World} {base : Nat} {v : Value} {xs : List Nat} {vs : List Value} (h : zcj w base v xs vs) (hb : Below w.heap.size w w') : zcj w' base v xs vs := by
 refine ⟨⟨h.own.1, ?_⟩, fun i hi => ?_⟩
 ·rcases h.own.2 with h1 | ⟨g, cap, cur, e1, e2, e3, e4⟩
  ·exact .inl h1
  ·exact .inr ⟨g, cap, cur, e1, e2, (hb.block g (Blk.lt (t := 27) (cs := cur) e3)).trans e3, e4⟩
 ·obtain ⟨B, m, d, hv, hw, hf⟩ := h.num i hi
  exact ⟨B, m, d, hv, hw.below hb, hf⟩
theorem zcj.set_ {w : World} {base : Nat} {v : Value} {xs : List Nat} {vs : List Value} (h : zcj w base v xs vs) {p : Addr} (hp : p.block < base) (u : Value) : zcj (w.setCell p u) base v xs vs := by
 refine ⟨⟨h.own.1, ?_⟩, fun i hi => ?_⟩
 ·rcases h.own.2 with h1 | ⟨g, cap, cur, e1, e2, e3, e4⟩
  ·exact .inl h1
  ·exact .inr ⟨g, cap, cur, e1, e2, Blk.far (t := 27) (cs := cur) e3 (by omega) u, e4⟩
 ·obtain ⟨B, m, d, hv, hw, hf⟩ := h.num i hi
  exact ⟨B, m, d, hv, zdp hw (fun hm ad e => by have := (hf hm ad e).1; omega) u, hf⟩
end Go.Proofs.YtgigccjiblaefaaGreatDoor
namespace Go.Proofs.YtgigccjiblaefaaGreatDoor
open Go Go.RowKit
set_option maxRecDepth 100000
set_option linter.unusedVariables false
set_option linter.unusedSimpArgs false
def Aside (v : Value) (B : Option Addr) (m : Nat) : Prop := 0 < m → ∀ ad, B = some ad → v.ownBlock ≠ some ad.block
theorem Aside.words {w w' : World} {v v' : Value} {x m d : Nat} {B : Option Addr} (h : Aside v B m) (hx : zag w x B m d) (hg : zeQ w v w' v') : zag w' x B m d ∧ Aside v' B m := by
 refine ⟨ziH hx hg.grown (fun hm ad e => (h hm ad e).symm), fun hm ad e => ?_⟩
 rcases hg.at_ with h1 | h1
 ·rw [h1]; exact h hm ad e
 ·intro h2
  have := h1 _ h2
  obtain ⟨ad', e', hb, _⟩ := hx.1.2 hm
  rw [e] at e'
  injection e' with e'
  subst e'
  omega
theorem zeQ.blk {w w' : World} {v v' : Value} {base g n : Nat} {t e : TypeId} {cs : Array Value} {vs : List Value} (h : zeQ w v w' v') (hv : w.ownsRow base e 1 v n vs) (hk : Blk w g t cs) (hg : g < base) : Blk w' g t cs :=
 hk.grown h.grown (fun e => by have := (hv.lt g e.symm).1; omega)
def zeL (x y : Nat) (D : List Nat) : Prop := Dgs 10 D ∧ dv 10 D + 10 ^ D.length * y = x
theorem zeL.start (x : Nat) : zeL x x [] := ⟨fun d hd => by simp at hd, by simp [dv]⟩
theorem zeL.step {x y : Nat} {D : List Nat} (h : zeL x y D) : zeL x (y / 10000000000000000000) (D ++ lowD 19 (y % 10000000000000000000)) := by
 refine ⟨h.1.append (lowD_dgs _ _), ?_⟩
 rw [zaQ, List.length_append, zik, zjS, Nat.pow_add, show (10 : Nat) ^ 19 = 10000000000000000000 from rfl, Nat.mod_mod, Nat.mul_assoc, Nat.add_assoc, ← Nat.mul_add, Nat.mod_add_div]
 exact h.2
theorem zeL.done {x : Nat} {D : List Nat} (h : zeL x 0 D) : dv 10 D = x := by have := h.2; simpa using this
theorem zeL.len {x y : Nat} {D : List Nat} (h : zeL x y D) (hy : y ≠ 0) : 10 ^ D.length ≤ x := by
 have := h.2
 have h1 : 10 ^ D.length * 1 ≤ 10 ^ D.length * y := Nat.mul_le_mul_left _ (by omega)
 omega
end Go.Proofs.YtgigccjiblaefaaGreatDoor
namespace Go.Proofs.YtgigccjiblaefaaGreatDoor
open Go Go.RowKit
set_option maxRecDepth 100000
set_option linter.unusedVariables false
set_option linter.unusedSimpArgs false
end Go.Proofs.YtgigccjiblaefaaGreatDoor
