/- What this claim leans on. -/
import Derived.Test.YtfieheffipfahaaGreatDoorXJ9Dec
import Derived.Test.YtfieheffipfahaaGreatDoorXJ9Read
import Derived.Test.YtfieheffipfahaaGreatDoorXJ8Ord
namespace Go.Proofs.YtfieheffipfahaaGreatDoor
open Go Go.RowKit
set_option maxHeartbeats 16000000
set_option linter.unusedVariables false
def zha (r : Rat) : Er := if 255 < zbk r.den then .spot 3 zeh ((zbk r.den : Nat) : Int) else if 255 < zbk r.num.natAbs then .spot 3 zdq ((zbk r.num.natAbs : Nat) : Int) else .no
def zhO (r : Rat) : List Nat := if 255 < zbk r.den ∨ 255 < zbk r.num.natAbs then [] else zaB r
theorem zhe {r : Rat} (h : ¬ zbk r.den ≤ 255) : zha r = .spot 3 zeh ((zbk r.den : Nat) : Int) ∧ zhO r = [] := ⟨if_pos (by omega),if_pos (.inl (by omega))⟩
theorem zhf {r : Rat} (h : zbk r.den ≤ 255) (k : ¬ zbk r.num.natAbs ≤ 255) : zha r = .spot 3 zdq ((zbk r.num.natAbs : Nat) : Int) ∧ zhO r = [] := ⟨(if_neg (by omega)).trans (if_pos (by omega)),if_pos (.inr (by omega))⟩
theorem zdB {r : Rat} (h : zbk r.den ≤ 255) (k : zbk r.num.natAbs ≤ 255) : zha r = .no ∧ zhO r = zaB r := ⟨(if_neg (by omega)).trans (if_neg (by omega)),if_neg (by omega)⟩
theorem blen_one : zbk 1 = 1 := by decide
theorem zhP : zha 0 = .no ∧ zhO 0 = [0] := zdB (r := 0) (by decide) (by decide)
theorem form_ne {r : Rat} (h : r ≠ 0) : zaB r = [zaV r] ++ (zds r ++ zaR r.num.natAbs) := by unfold zaB numL; rw [if_neg h]; rfl
theorem znp {r : Rat} (h : r ≠ 0) : zaV r = (if r.den = 1 then 1 else 3) + (if r.num < 0 then 1 else 0) := by
 unfold zaV
 rw [if_neg h]
 have : r.num ≠ 0 := fun e => h (Rat.num_eq_zero.1 e)
 (repeat' split) <;> omega
theorem zcP.up {B B' : Nat} {w : World} {v : Value} {L : List Nat} (h : zcP B' w v L) (hb : B ≤ B') : zcP B w v L := by
 obtain ⟨h1,h2⟩ := h
 exact ⟨h1,h2.imp id fun ⟨g,cap,cur,e,hg,h3⟩ => ⟨g,cap,cur,e,Nat.le_trans hb hg,h3⟩⟩
theorem ratC {T : World → Prop} {M : Nat → Prop} (hTT : ∀ w,T w → zaj w) (h0 : M 0 → RatG0 T) (h1 : M 1 → RatG1 T) (h2 : M 2 → RatG2 T) : RatC T M where
 g0 := h0
 g1 := h1
 g2 := h2
 new p q b b' A D n m c d w hT hA hD hn hm h0 := zhj p q b A n c b' D m d w (hTT w hT) hA hD hn hm h0
 newNo p q b b' A D n m c d w hT hA hD hn hm h0 := ziA p q b A n c b' D m d w (hTT w hT) hA hD hn hm h0
 of p q w hT h1 h2 h3 h4 h0 := rat_of p q w (hTT w hT) h1 h2 h3 h4 h0
 ofNo p q w hT h1 h2 h0 := zop p q w (hTT w hT) h1 h2 (by omega) (by omega) h0
 num r b A n c E k f w hT h hf := zgd r b A n c E k f w (hTT w hT) h hf
 den r b A n c E k f w hT h hf := zgc r b A n c E k f w (hTT w hT) h hf
 sign r b A n c E k f w hT h hf := zdo r b A n c E k f w (hTT w hT) h hf
 zero r b A n c E k f w hT h hf := zcV r b A n c E k f w (hTT w hT) h hf
 isInt r b A n c E k f w hT h hf := zbi r b A n c E k f w (hTT w hT) h hf
 bits r b A n c E k f w hT h hf := rat_bits r b A n c E k f w (hTT w hT) h hf
 same r s b b' A A' n n' c c' E E' k k' f f' w hT h h' hf hf' := zeK r s b A n c E k f b' A' n' c' E' k' f' w (hTT w hT) h h' hf hf'
theorem own_gcd {s : Bool} {x d : Nat} (hd : d ≠ 0) : (Rat.divInt (sg9 s x) ((d : Nat) : Int)).den = d ↔ Nat.gcd x d = 1 := by
 rw [zeB _ _ (by omega),zbI,Int.natAbs_natCast,Nat.div_eq_self]
 exact ⟨fun h => h.resolve_left hd,.inr⟩
theorem made_ne {s : Bool} {x d : Nat} (hd : d ≠ 0) (hx : x ≠ 0) : Rat.divInt (sg9 s x) ((d : Nat) : Int) ≠ 0 := fun h => by
 have h1 := zfV (sg9 s x) ((d : Nat) : Int) (by omega)
 rw [h,zbI,Int.natAbs_natCast] at h1
 have h2 := Nat.div_pos (Nat.le_of_dvd (Nat.pos_of_ne_zero hx) (Nat.gcd_dvd_left x d)) (Nat.gcd_pos_of_pos_right x (Nat.pos_of_ne_zero hd))
 have : Int.natAbs (0 : Rat).num = 0 := rfl
 omega
theorem zjj {s : Bool} {x d : Nat} (hd : d ≠ 0) (hx : x ≠ 0) : zaV (Rat.divInt (sg9 s x) ((d : Nat) : Int)) = (if (Rat.divInt (sg9 s x) ((d : Nat) : Int)).den = 1 then 1 else 3) + (if s = true then 1 else 0) := by
 rw [znp (made_ne hd hx)]
 have h2 := zeZ (sg9 s x) ((d : Nat) : Int) (by omega)
 have h3 : sg9 s x < 0 ↔ s = true := by unfold sg9; cases s <;> simp; omega
 by_cases hs : s = true
 ·rw [if_pos hs,if_pos (h2.2 (.inl ⟨h3.2 hs,by omega⟩))]
 ·have h4 : ¬ (Rat.divInt (sg9 s x) ((d : Nat) : Int)).num < 0 := fun h => by
   rcases h2.1 h with h | h
   ·exact hs (h3.1 h.1)
   ·omega
  rw [if_neg hs,if_neg h4]
theorem ziG {l : List Nat} {k : Nat} (h : zaD l k = 0) : zai l k ≠ 0 ∧ zap l k ≤ l.length := by
 unfold zaD at h
 split at h
 ·cases h
 ·split at h
  ·rename_i h1 h2; exact ⟨h2.2,by unfold zap; omega⟩
  ·cases h
theorem zmE {s : Bool} {x : Nat} (hx : x ≠ 0) : zaV ((sg9 s x : Int) : Rat) = if s = true then 2 else 1 := by
 have h := zjj (s := s) (d := 1) (by decide) hx
 rw [(zcT _).2,(zcT _).1,if_pos rfl] at h
 rw [h]; split <;> rfl
theorem zdD (l : List Nat) (A : oA9) (n c : Nat) (w : World) (hT : zaj w) (h : zat w l A n c) (hn : n ≤ 2147483648) :
  Calls Tryz.prog 18 #[.slice A n c] w (zaY w (zed l)) := by
 have hl := h.len
 unfold zed
 by_cases h0 : l = []
 ·rw [if_pos h0]; exact ziO l A n c w hT h hn (by rw [← hl,h0]; rfl)
 have hp : 0 < n := by rw [← hl]; exact List.length_pos_iff.2 h0
 rw [if_neg h0]
 by_cases h4 : 4 < l.getD 0 0
 ·rw [if_pos h4]; exact ziP l A n c w hT h hn hp h4
 rw [if_neg h4]
 by_cases hz : l.getD 0 0 = 0
 ·rw [if_pos hz]; exact ziN l A n c w hT h hn hp hz
 rw [if_neg hz]
 by_cases h2 : l.getD 0 0 ≤ 2
 ·rw [if_pos h2]
  by_cases he : zaD l 1 = 0
  ·rw [if_pos he]
   have hk := fun s => zmE (s := s) (ziG he).1
   rcases (show l.getD 0 0 = 1 ∨ l.getD 0 0 = 2 by omega) with hb | hb
   ·rw [decide_eq_false (by omega)]; exact zih l A n c w hT h hn hp hb he (hk false)
   ·rw [decide_eq_true hb]; exact zij l A n c w hT h hn hp hb he (hk true)
  ·rw [if_neg he]
   rcases (show l.getD 0 0 = 1 ∨ l.getD 0 0 = 2 by omega) with hb | hb
   ·exact zig l A n c w hT h hn hp hb he
   ·exact zii l A n c w hT h hn hp hb he
 rw [if_neg h2]
 have hb34 : l.getD 0 0 = 3 ∨ l.getD 0 0 = 4 := by omega
 by_cases he : zaD l 1 = 0
 ·obtain ⟨hd,hk1⟩ := ziG he
  rw [hl] at hk1
  rw [if_neg (fun k => k he)]
  by_cases he2 : zaD l (zap l 1) = 0
  ·have hx := (ziG he2).1
   rw [if_neg (fun k => k he2)]
   have hG := fun s => own_gcd (s := s) (x := zai l (zap l 1)) hd
   have hK := fun s => zjj (s := s) hd hx
   by_cases hg : Nat.gcd (zai l (zap l 1)) (zai l 1) = 1
   ·by_cases h1 : zai l 1 = 1
    ·rw [if_pos (.inl h1)]
     rcases hb34 with hb | hb
     ·exact zik l A n c w hT h hn hp hb he hk1 he2 hd (decide_eq_true ((hG false).2 hg)) (by rw [hK,(hG false).2 hg,if_pos h1]; decide)
     ·exact zio l A n c w hT h hn hp hb he hk1 he2 hd (decide_eq_true ((hG true).2 hg)) (by rw [hK,(hG true).2 hg,if_pos h1]; decide)
    ·rw [if_neg (fun h => h.elim h1 (fun h => h hg))]
     rcases hb34 with hb | hb
     ·rw [decide_eq_false (by omega)]; exact zim l A n c w hT h hn hp hb he hk1 he2 hd (decide_eq_true ((hG false).2 hg)) (by rw [hK,(hG false).2 hg,if_neg h1]; rfl)
     ·rw [decide_eq_true hb]; exact zeG l A n c w hT h hn hp hb he hk1 he2 hd (decide_eq_true ((hG true).2 hg)) (by rw [hK,(hG true).2 hg,if_neg h1]; rfl)
   ·rw [if_pos (.inr hg)]
    rcases hb34 with hb | hb
    ·exact zeE l A n c w hT h hn hp hb he hk1 he2 hd (decide_eq_false (fun k => hg ((hG false).1 k)))
    ·exact zin l A n c w hT h hn hp hb he hk1 he2 hd (decide_eq_false (fun k => hg ((hG true).1 k)))
  ·rw [if_pos he2]
   rcases hb34 with hb | hb
   ·exact zeF l A n c w hT h hn hp hb he hk1 he2
   ·exact zir l A n c w hT h hn hp hb he hk1 he2
 ·rw [if_pos he]
  rcases hb34 with hb | hb
  ·exact zil l A n c w hT h hn hp hb he
  ·exact ziq l A n c w hT h hn hp hb he
theorem zfg {s : List UInt8} {n : Nat} (hok : okR s = true) (h : s.length ≤ 16 * n) : Sz n (zaT s) := by
 have hd : Dgs 10 (s.map fun c => c.toNat - 48).reverse := by
  intro d hd
  obtain ⟨c,hc,rfl⟩ := List.mem_map.1 (List.mem_reverse.1 hd)
  rw [zie] at hok
  simp only [Bool.and_eq_true] at hok
  have := List.all_eq_true.1 hok.2 c hc
  unfold zbt at this
  simp at this
  omega
 have h1 := zbR hd
 rw [List.length_reverse,List.length_map] at h1
 refine Nat.lt_of_lt_of_le h1 (Nat.le_trans (Nat.pow_le_pow_right (by decide) h) ?_)
 rw [Nat.pow_mul]
 exact Nat.pow_le_pow_left (by decide) n
theorem own_z {z : Int} {d : Nat} (hd : d ≠ 0) : (Rat.divInt z ((d : Nat) : Int)).den = d ↔ Nat.gcd z.natAbs d = 1 := by
 rw [zeB _ _ (by omega),Int.natAbs_natCast,Nat.div_eq_self]
 exact ⟨fun h => h.resolve_left hd,.inr⟩
theorem zgu (s : List UInt8) (w : World) (hT : zaj w) (hs : s.length ≤ 1073741824) :
  Calls Tryz.prog 20 #[.string (zaw s)] w (zcL w (zcW s)) := by
 have hh := congrArg List.length (zaX s)
 rw [List.length_append] at hh
 have ht : (zax s).length ≤ 1073741824 := by unfold zax; rw [List.length_drop]; omega
 have hzn : okI (zau s) = true → Sz 67108864 (zcc (zau s)).natAbs := fun h => by
  rw [valI_abs]
  have h2 : okR (zbm (zau s)) = true := by unfold okI at h; simp only [Bool.and_eq_true] at h; exact h.1
  refine zfg h2 ?_
  have : (zbm (zau s)).length ≤ (zau s).length := by unfold zbm; split <;> simp
  omega
 have hzd : okR (zax s) = true → Sz 67108864 (zaT (zax s)) := fun h => zfg h (by omega)
 have hs2 : s.length ≤ 2147483648 := by omega
 unfold zcW
 by_cases hi : okI (zau s) = false
 ·rw [if_pos hi]; exact zlD s w hT hs2 hi
 have hi1 : okI (zau s) = true := by simpa using hi
 rw [if_neg hi]
 by_cases hr : zbb s = []
 ·rw [if_pos hr]; exact zlE s w hT hs2 hzn hi1 hr
 rw [if_neg hr]
 by_cases hd : okR (zax s) = false
 ·rw [if_pos (.inl hd)]; exact zgT s w hT hs2 hzn hzd hi1 hr hd
 have hd1 : okR (zax s) = true := by simpa using hd
 by_cases hv : zaT (zax s) = 0
 ·rw [if_pos (.inr hv)]; exact zlG s w hT hs2 hzn hzd hi1 hr hd1 hv
 rw [if_neg (fun h => h.elim hd hv)]
 have hG := own_z (z := zcc (zau s)) hv
 by_cases hg : Nat.gcd (zcc (zau s)).natAbs (zaT (zax s)) = 1
 ·by_cases h1 : zaT (zax s) = 1
  ·rw [if_pos (.inl h1)]
   exact zlC s w hT hs2 hzn hzd hi1 hr hd1 hv (decide_eq_true (hG.2 hg)) ((hG.2 hg).trans h1)
  ·rw [if_neg (fun h => h.elim h1 (fun h => h hg))]
   exact zlF s w hT hs2 hzn hzd hi1 hr hd1 hv (decide_eq_true (hG.2 hg)) (fun h => h1 ((hG.2 hg).symm.trans h))
 ·rw [if_pos (.inr hg)]
  exact zlB s w hT hs2 hzn hzd hi1 hr hd1 hv (decide_eq_false (fun k => hg (hG.1 k)))
end Go.Proofs.YtfieheffipfahaaGreatDoor
