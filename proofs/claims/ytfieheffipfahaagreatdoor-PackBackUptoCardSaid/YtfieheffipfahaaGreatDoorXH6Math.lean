/- What this claim leans on. -/
import Derived.Test.YtfieheffipfahaaGreatDoorXBun6
import Derived.Deep.RegionLaw
import Derived.LoopIn
import Derived.LoopNIn
import Derived.OrdersHeld
import Derived.OrdersIn
import Derived.OwnWalkIn
import Derived.RangeFuncBound
import Derived.RangeFuncCalls
import Derived.RangeFuncLeaves
import Derived.RangeFuncNested
import Derived.Shelf.Abstract
import Derived.Shelf.RegionOpen
import Derived.TacticsInMore
namespace Go.Proofs.YtfieheffipfahaaGreatDoor
open Go Go.RowKit
set_option maxHeartbeats 16000000
set_option linter.unusedVariables false
theorem p256 (k : Nat) : (256 : Nat) ^ k = 2 ^ (8 * k) := by rw [show (256 : Nat) = 2 ^ 8 from rfl,← Nat.pow_mul]
theorem p64 (k : Nat) : (18446744073709551616 : Nat) ^ k = 2 ^ (64 * k) := by rw [show (18446744073709551616 : Nat) = 2 ^ 64 from rfl,← Nat.pow_mul]
theorem byte_of (x k : Nat) : (dg 256 x).getD k 0 = wd x (k / 8) / 2 ^ (8 * (k % 8)) % 256 := by
 rw [zcN (by decide) (zbQ (by decide) x),zcz (by decide)]
 unfold wd
 rw [p256,p64,show (18446744073709551616 : Nat) = 2 ^ (8 * (k % 8)) * 2 ^ (64 - 8 * (k % 8)) by rw [← Nat.pow_add,show 8 * (k % 8) + (64 - 8 * (k % 8)) = 64 by omega],
  Nat.mod_mul_right_div_self,Nat.div_div_eq_div_mul,← Nat.pow_add,show 64 * (k / 8) + 8 * (k % 8) = 8 * k by omega]
 have e : 2 ^ (64 - 8 * (k % 8)) = 256 * 2 ^ (56 - 8 * (k % 8)) := by rw [show (256 : Nat) = 2 ^ 8 from rfl,← Nat.pow_add]; congr 1; omega
 rw [e,Nat.mod_mul_right_mod]
theorem wd_byte {v d k : Nat} (hv : v < 256 ^ k) (hd : d < 256) (j : Nat) :
  wd (v + 256 ^ k * d) j = if j = k / 8 then 2 ^ (8 * (k % 8)) * d + wd v j else wd v j := by
 unfold wd
 rw [p256] at hv ⊢
 rw [p64]
 rcases Nat.lt_trichotomy j (k / 8) with h | h | h
 ·rw [if_neg (by omega)]
  have e : 2 ^ (8 * k) * d = 2 ^ (64 * j) * (18446744073709551616 * (2 ^ (8 * k - 64 * j - 64) * d)) := by
   rw [show (18446744073709551616 : Nat) = 2 ^ 64 from rfl,← Nat.mul_assoc,← Nat.mul_assoc,← Nat.pow_add,← Nat.pow_add]
   congr 2; omega
  rw [e,Nat.add_mul_div_left _ _ (Nat.two_pow_pos _),Nat.add_mul_mod_self_left]
 ·rw [if_pos h]
  have e : 2 ^ (8 * k) * d = 2 ^ (64 * j) * (2 ^ (8 * (k % 8)) * d) := by
   rw [← Nat.mul_assoc,← Nat.pow_add]
   congr 2; omega
  have h1 : v / 2 ^ (64 * j) < 2 ^ (8 * (k % 8)) := (Nat.div_lt_iff_lt_mul (Nat.two_pow_pos _)).2 (by rw [← Nat.pow_add,show 8 * (k % 8) + 64 * j = 8 * k by omega]; exact hv)
  have h2 : 2 ^ (8 * (k % 8)) * (d + 1) ≤ 2 ^ (8 * (k % 8)) * 256 := Nat.mul_le_mul_left _ hd
  have h3 : 2 ^ (8 * (k % 8)) * 256 ≤ 18446744073709551616 := by
   rw [show (256 : Nat) = 2 ^ 8 from rfl,← Nat.pow_add]
   exact Nat.le_trans (Nat.pow_le_pow_right (by decide) (show 8 * (k % 8) + 8 ≤ 64 by omega)) (by decide)
  rw [e,Nat.add_mul_div_left _ _ (Nat.two_pow_pos _)]
  rw [Nat.mul_add] at h2
  rw [Nat.mod_eq_of_lt (by omega),Nat.mod_eq_of_lt (show v / 2 ^ (64 * j) < 18446744073709551616 by omega)]
  omega
 ·rw [if_neg (by omega)]
  have h1 : v < 2 ^ (64 * j) := Nat.lt_of_lt_of_le hv (Nat.pow_le_pow_right (by decide) (by omega))
  have h2 : v + 2 ^ (8 * k) * d < 2 ^ (64 * j) := by
   have h3 : 2 ^ (8 * k) * (d + 1) ≤ 2 ^ (8 * k) * 256 := Nat.mul_le_mul_left _ hd
   rw [Nat.mul_add] at h3
   have h4 : 2 ^ (8 * k) * 256 ≤ 2 ^ (64 * j) := by
    rw [show (256 : Nat) = 2 ^ 8 from rfl,← Nat.pow_add]
    exact Nat.pow_le_pow_right (by decide) (by omega)
   omega
  rw [Nat.div_eq_of_lt h1,Nat.div_eq_of_lt h2]
theorem wd_room {v k : Nat} (hv : v < 256 ^ k) : wd v (k / 8) < 2 ^ (8 * (k % 8)) := by
 unfold wd
 rw [p256] at hv
 rw [p64]
 refine Nat.lt_of_le_of_lt (Nat.mod_le _ _) ((Nat.div_lt_iff_lt_mul (Nat.two_pow_pos _)).2 ?_)
 rw [← Nat.pow_add,show 8 * (k % 8) + 64 * (k / 8) = 8 * k by omega]; exact hv
def zcY (M : List Nat) (n x : Nat) : Prop := M.length = n ∧ ∀ j,j < n → M.getD j 0 = wd x j
theorem zcY.start (n : Nat) : zcY (List.replicate n 0) n 0 := ⟨by simp,fun j hj => by simp [List.getD_eq_getElem?_getD,hj,wd]⟩
theorem zcY.dv_ {M : List Nat} {n x : Nat} (h : zcY M n x) (hx : x < 18446744073709551616 ^ n) : dv 18446744073709551616 M = x := by
 have e : M = zbJ x n := by
  refine List.ext_getElem (by rw [h.1,zbZ]) fun k h1 h2 => ?_
  have h3 := h.2 k (by rw [← h.1]; exact h1)
  rw [List.getD_eq_getElem?_getD,List.getElem?_eq_getElem h1] at h3
  refine Eq.trans h3 ?_
  simp [zbJ]
 rw [e,zgq,Nat.mod_eq_of_lt hx]
theorem zcY.dgs {M : List Nat} {n x : Nat} (h : zcY M n x) : Dgs 18446744073709551616 M := by
 intro d hd
 obtain ⟨k,hk,rfl⟩ := List.getElem_of_mem hd
 have h3 := h.2 k (by rw [← h.1]; exact hk)
 rw [List.getD_eq_getElem?_getD,List.getElem?_eq_getElem hk] at h3
 have h4 : M[k] = wd x k := h3
 rw [h4]; exact zck x k
theorem zjg (l : List Nat) (i k a : Nat) : (l.set i a).getD k 0 = if i = k ∧ k < l.length then a else l.getD k 0 := by
 simp only [List.getD_eq_getElem?_getD,List.getElem?_set]
 by_cases h : i = k
 ·subst h
  by_cases h2 : i < l.length
  ·simp [h2]
  ·simp [h2]
 ·simp [h]
theorem zcY.step {M : List Nat} {n v d k : Nat} (h : zcY M n v) (hv : v < 256 ^ k) (hd : d < 256) (hk : k / 8 < n) : zcY (M.set (k / 8) (2 ^ (8 * (k % 8)) * d + M.getD (k / 8) 0)) n (v + 256 ^ k * d) := by
 refine ⟨by simpa using h.1,fun j hj => ?_⟩
 rw [zjg,wd_byte hv hd j,h.1]
 by_cases hjk : k / 8 = j
 ·subst hjk
  rw [if_pos ⟨rfl,hj⟩,if_pos rfl,h.2 _ hk]
 ·rw [if_neg (by omega),if_neg (by omega),h.2 j hj]
def zgj (l : List Nat) (k : Nat) : Nat := dv 256 (l.reverse.take k)
theorem zlU {l : List Nat} (hd : Dgs 256 l) (k : Nat) : zgj l k < 256 ^ k := by
 have h1 := zbR (b := 256) (l := l.reverse.take k) (fun d hd' => hd d (by have := List.mem_of_mem_take hd'; simpa using this))
 exact Nat.lt_of_lt_of_le h1 (Nat.pow_le_pow_right (by decide) (List.length_take_le _ _))
theorem zmZ {l : List Nat} {k : Nat} (h : k < l.length) : zgj l (k + 1) = zgj l k + 256 ^ k * l.getD (l.length - 1 - k) 0 := by
 unfold zgj
 rw [zaN,List.getD_eq_getElem?_getD,List.getD_eq_getElem?_getD,List.getElem?_reverse h]
theorem zoy (l : List Nat) : zgj l l.length = zdu l := by
 unfold zgj zdu
 rw [List.take_of_length_le (by simp)]
def zcA (x n k : Nat) (M : List Nat) : Prop := M.length = n ∧ ∀ j,j < k → M.getD (n - 1 - j) 0 = (dg 256 x).getD j 0
theorem zcA.start (x n : Nat) : zcA x n 0 (List.replicate n 0) := ⟨by simp,fun j hj => by omega⟩
theorem zcA.step {x n k : Nat} {M : List Nat} (h : zcA x n k M) (hk : k < n) : zcA x n (k + 1) (M.set (n - 1 - k) ((dg 256 x).getD k 0)) := by
 refine ⟨by simpa using h.1,fun j hj => ?_⟩
 rw [zjg,h.1]
 by_cases hjk : j = k
 ·subst hjk; rw [if_pos ⟨rfl,by omega⟩]
 ·rw [if_neg (by omega),h.2 j (by omega)]
theorem zcA.done {x n : Nat} {M : List Nat} (h : zcA x n n M) (hn : n = (dg 256 x).length) : M = zbe x := by
 unfold zbe
 refine List.ext_getElem (by rw [h.1,hn]; simp) fun k h1 h2 => ?_
 have hk : k < n := by rw [← h.1]; exact h1
 have h3 := h.2 (n - 1 - k) (by omega)
 rw [show n - 1 - (n - 1 - k) = k by omega,List.getD_eq_getElem?_getD,List.getElem?_eq_getElem h1] at h3
 rw [List.getElem_reverse]
 refine Eq.trans h3 ?_
 rw [List.getD_eq_getElem?_getD,List.getElem?_eq_getElem (by omega)]
 show (dg 256 x)[n - 1 - k] = _
 congr 1; omega
def zaj (w : World) : Prop := ∀ j,j < Lib.deBruijn64tab.length → w.cell? ⟨4,j,none⟩ = some (.int .u8 (Lib.deBruijn64tab.getD j 0 : Nat))
theorem zaj.below {B : Nat} {w w' : World} (h : zaj w) (hb : Below B w w') (hB : 4 < B) : zaj w' := fun j hj => (hb.cell (p := ⟨4,j,none⟩) hB).trans (h j hj)
theorem zaj.drewN {w : World} (h : zaj w) (n : Nat) : zaj (w.drewN n) := h
theorem zaj.on {w w' : World} (h : zaj w) (hb : Below w.heap.size w w') : zaj w' := h.below hb (by
 have := h 0 (by decide)
 exact World.block_lt_of_cell? w _ this)
theorem tz_key (x a : Nat) (hx : x < 18446744073709551616) (hx0 : x ≠ 0) (hlow : x &&& (18446744073709551616 - x) = a) :
  IntKind.u64.wrap (bits BinOp.and IntKind.u64 (x : Int) (IntKind.u64.wrap (-(x : Int))) * 285870213051353865) / 288230376151711744 = ((a * 285870213051353865 % 18446744073709551616 / 288230376151711744 : Nat) : Int) := by
 have e1 : IntKind.u64.wrap (-(x : Int)) = ((18446744073709551616 - x : Nat) : Int) := by rw [IntKind.wrap_u64]; omega
 rw [e1,bits_and_u64_nat x _ hx (by omega),hlow,IntKind.wrap_u64]
 omega
theorem zkx (x k idx : Nat) (w : World) (hx0 : ((x : Int) == 0) = false)
  (key : IntKind.u64.wrap (bits BinOp.and IntKind.u64 (x : Int) (IntKind.u64.wrap (-(x : Int))) * 285870213051353865) / 288230376151711744 = (idx : Int))
  (hi : idx < 64) (hk : k < 64) (hcell : w.cell? ⟨4,idx,none⟩ = some (.int .u8 k)) :
  Calls Tryz.prog 165 #[.int .u64 x] w fun e w' => e = .returned (.int .i64 k) ∧ w = w' := by
 go_enter Tryz.func165,Tryz.ntmps165
 go_wp2_with (simp only [key])
 go_ret
 exact ⟨rfl,rfl⟩
theorem zky (w : World) :
  Calls Tryz.prog 165 #[.int .u64 0] w fun e w' => e = .returned (.int .i64 64) ∧ w = w' := by
 go_enter Tryz.func165,Tryz.ntmps165
 go_wp2
 go_ret
 exact ⟨rfl,rfl⟩
theorem znI (x : Int) (hx : Wd x) (w : World) (hT : zaj w) :
  Calls Tryz.prog 165 #[.int .u64 x] w fun e w' => e = .returned (.int .i64 (zfA x)) ∧ w = w' := by
 obtain ⟨h0,h1⟩ := hx
 obtain ⟨x,rfl⟩ := Int.eq_ofNat_of_zero_le h0
 have hN : x < 18446744073709551616 := by omega
 unfold zfA
 rw [Int.toNat_natCast]
 by_cases hx0 : x = 0
 ·subst hx0
  exact zky w
 ·obtain ⟨hlow,hk⟩ := Lib.lowest_bit 64 x hx0 hN
  obtain ⟨hi,htab⟩ := Lib.deBruijn64_at _ hk
  have hcell := hT _ hi
  rw [htab] at hcell
  exact zkx x _ _ w (by simp; omega) (tz_key x _ hN hx0 hlow) hi hk hcell
theorem znf (x : Int) (hx : Wd x) (w : World) (hT : zaj w) :
  Calls Tryz.prog 156 #[.int .u64 x] w fun e w' => e = .returned (.int .i64 (zfA x)) ∧ w = w' := by
 have H := lh9 (znI x hx w hT)
 clear hT
 go_enter Tryz.func156,Tryz.ntmps156
 go_wp2_with (go_at_call 165; refine H.out.mono ?_; rintro e w' ⟨rfl,rfl⟩)
 go_ret
 exact ⟨rfl,rfl⟩
theorem info9 : (Tryz.prog.info? 5).map (fun i => (i.zero,i.size,i.bytes)) = some (some (.int .u8 0),1,1) := by kernel_rfl
def zcP (B : Nat) (w : World) (v : Value) (L : List Nat) : Prop := w.ownsRow B 5 1 v L.length (zar .u8 L)
theorem zcP.below {B : Nat} {w w' : World} {v : Value} {L : List Nat} (h : zcP B w v L) (hb : Below w.heap.size w w') : zcP B w' v L := zfb h hb
theorem zcP.nil (B : Nat) (w : World) : zcP B w (.slice none 0 0) [] := World.ownsRow_nil _ _ _ _
theorem zcP.reads {B : Nat} {w : World} {v : Value} {L : List Nat} (h : zcP B w v L) : ∃ A c,v = .slice A L.length c ∧ L.length ≤ c ∧ c ≤ maxLen ∧ zan w w.heap.size 1 A L.length (zar .u8 L) := zan.of_grown_own h
theorem app8 {o : Oper} {a : Act} {w : World} {K : Act → World → Prop} {Q : Exit → Act → World → Prop} (s x : Operand) (B : Nat) (v : Value) (L : List Nat) (A : oA9) (m c : Nat) (M : List Nat) (hown : zcP B w v L) (hr : zan w w.heap.size 1 A m (zar .u8 M))
  (hn : L.length + m ≤ 1099511627776) (hb : B ≤ w.heap.size) (h : ∀ v' w',zcP B w' v' (L ++ M) → zcl w v w' v' → K (a.put o.dst v') w')
  (ho : o.op = .call { callee := .builtin .append,args := #[s,x],argTypes := #[42,42] } := by rfl) (hs : a.eval s = v := by rfl) (hx : a.eval x = .slice A m c := by rfl) : Oper.wp Tryz.prog o a w K Q := by
 obtain ⟨i0,hi0,hz0,hz1,hz2⟩ := info_parts info9
 have hl : M.length = m := by have := hr.1; rw [zaA] at this; omega
 exact zdI w s x _ ho B 5 i0 (.int .u8 0) 1 1 Tryz.underlying42 hi0 hz0 hz1 hz2 rfl (by decide) v L.length (zar .u8 L) hs hown w.heap.size A m c (zar .u8 M) hx hr (zeQ .u8 M) (by unfold maxLen; omega) (by omega) hb
  fun v' w' h2 h3 h4 => h v' w' (by unfold zcP; rw [List.length_append,hl,zch]; exact h2) ⟨h3,h4.imp id fun e g hg => by rw [e] at hg; cases hg; exact Nat.le_refl _⟩
theorem app8L {ops : Array Oper} {rest : List Oper} {o : Oper} {a : Act} {w : World} {Q : Exit → Act → World → Prop} (s x : Operand) (B : Nat) (v : Value) (L : List Nat) (A : oA9) (m c : Nat) (M : List Nat) (hown : zcP B w v L) (hr : zan w w.heap.size 1 A m (zar .u8 M))
  (hn : L.length + m ≤ 1099511627776) (hb : B ≤ w.heap.size) (h : ∀ v' w',zcP B w' v' (L ++ M) → zcl w v w' v' → wpList Tryz.prog ops Q rest (a.put o.dst v') w')
  (ho : o.op = .call { callee := .builtin .append,args := #[s,x],argTypes := #[42,42] } := by rfl) (hs : a.eval s = v := by rfl) (hx : a.eval x = .slice A m c := by rfl) (hgd : o.guard = none := by rfl) : wpList Tryz.prog ops Q (o :: rest) a w :=
 wpList_plain hgd fun _ hK => app8 s x B v L A m c M hown hr hn hb (fun v' w' h2 h3 => hK _ _ (h v' w' h2 h3)) ho hs hx
theorem lit8 {B : Nat} (w : World) (d : Nat) (hB : B ≤ w.heap.size) : zcP B (w.alloc (.cells #[.int .u8 (d : Int)] 5)) (.slice (some ⟨w.heap.size,0,none⟩) 1 1) [d] := World.ownsRow_lit w #[.int .u8 (d : Int)] 1 hB (by unfold maxLen; decide) rfl
theorem lit8z {B : Nat} (w : World) (d : Nat) (z : Int) (hz : z = (d : Int)) (hB : B ≤ w.heap.size) : zcP B (w.alloc (.cells #[.int .u8 z] 5)) (.slice (some ⟨w.heap.size,0,none⟩) 1 1) [d] := by subst hz; exact lit8 w d hB
theorem zcl.cell {w w' : World} {v v' : Value} {B : Nat} {L : List Nat} {p : Addr} {u : Value} (h : zcl w v w' v') (hv : zcP B w v L) (hc : w.cell? p = some u) (hp : p.block < B) : w'.cell? p = some u :=
 (World.cell?_of_block (h.grown.block _ (World.block_lt_of_cell? w p hc) (fun e => by have := (hv.lt _ e.symm).1; omega))).trans hc
end Go.Proofs.YtfieheffipfahaaGreatDoor
