/- What this claim leans on. -/
import Derived.Test.YtfieheffipfahaaGreatDoorTE9Far
import Derived.Test.YtfieheffipfahaaGreatDoorTBunM
import Derived.IntWalk
namespace Go.Proofs.YtfieheffipfahaaGreatDoor
open Go Go.RowKit
set_option maxHeartbeats 16000000
set_option maxRecDepth 100000
set_option linter.unusedVariables false
theorem zhL (p q r s : Nat) (hp : p < 18446744073709551616) (hq : q < 18446744073709551616) (hr : r < 18446744073709551616) (hs : s < 18446744073709551616) (w : World) :
  Calls Tryz.prog 131 #[.int .u64 p,.int .u64 q,.int .u64 r,.int .u64 s] w fun e w' => e = .returned (.tuple #[.int .u64 (((p * q + r + s) / 18446744073709551616 : Nat) : Int),.int .u64 (((p * q + r + s) % 18446744073709551616 : Nat) : Int)]) ∧ w = w' := by
 have h := zlC p q r s ⟨by omega,by omega⟩ ⟨by omega,by omega⟩ ⟨by omega,by omega⟩ ⟨by omega,by omega⟩ w
 rw [(ma_nat p q r s).1,(ma_nat p q r s).2] at h
 exact h
theorem zli (x a b : Nat) (A : oA9) (n c : Nat) (w : World) (hA : zaf w x A n c) (hn : n ≤ 274877906944) (ha : a < 18446744073709551616) (hb : b < 18446744073709551616) :
  Calls Tryz.prog 105 #[.agg #[.slice A n c],.int .u64 a,.int .u64 b] w (zay w (x * a + b)) := by
 obtain ⟨i0,hi0,hz0,hz1,hz2⟩ := info_parts zfM
 have hln := lh9 hA.len
 have HWS := lh9 (fun w' (hb : Below w.heap.size w w') => zcf x A n c w' (hA.below hb) (by omega))
 have hI := lh9 (ByB.start (a := a) hA.len hb)
 clear hA hb
 go_enter Tryz.func105,Tryz.ntmps105
 go_wp2_with fail
 generalize hW : (w.alloc (.cells #[.slice A n c] 29)).alloc (.cells #[.slice none 0 0] 29) = W0
 obtain ⟨b1,b2,b3,b5⟩ := zbQ w 29 29 #[.slice A n c] #[.slice none 0 0]
 rw [hW] at b1 b2 b3 b5
 clear hW b2
 refine (HWS.out _ b1).mono ?_
 rintro e w1 ⟨v,rfl,hown,hb⟩
 obtain ⟨A1,c1,rfl,hc1,hc2,_⟩ := zan.of_grown_own hown
 have hB := zac b1 hb
 have hk := zae hb b3
 have hs3 : w.heap.size + 2 ≤ W0.heap.size := b5
 obtain ⟨gs,hgs⟩ : ∃ g,W0.heap.size = g := ⟨_,rfl⟩
 have hgw : gs ≤ w1.heap.size := by rw [← hgs]; exact hb.size
 rw [hgs] at hown hs3
 clear hb b1 b3 b5 hgs
 go_wp2_with fail
 go_loopg [8,16] (n + 1) (fun g cy ix wr => ∃ (k cc : Nat) (L : List Nat),k ≤ n ∧ n < g + k ∧ ix = .int .i64 k ∧ cy = .int .u64 cc ∧ ByB x a b k n L cc ∧ wr.ownsRow gs 81 1 (.slice A1 n c1) n (zam .u64 L) ∧ Below w.heap.size w wr ∧ Blk wr (w.heap.size + 1) 29 #[.slice none 0 0] ∧ gs ≤ wr.heap.size)
 case atStart => exact ⟨0,b,_,Nat.zero_le _,by omega,rfl,rfl,hI.out,hown,hB,hk,hgw⟩
 case round =>
  clear hB hk hown hI hgw
  obtain ⟨k,cc,L,hkn,hg,rfl,rfl,hI,hown,hB,hk,hgw⟩ := hrel
  by_cases hlt : k < n
  ·obtain ⟨g,cap,e,hgg,hR⟩ := zaq.of_own hown (by omega)
   injection e with e1 _ e3
   subst e1 e3
   have h2 := hR.cell k hlt
   rw [hI.get] at h2
   have h3 := hR.frozen k
   have hb2 := zbY x k
   have hc3 := hI.carry
   have hST := hI.step (s := wd x k * a + cc + 0) ha hlt rfl
   obtain ⟨p,hpp⟩ : ∃ b,wd x k = b := ⟨_,rfl⟩
   rw [hpp] at h2 hb2 hST
   have HMA := lh9 (fun w' => zhL p a cc 0 hb2 ha hc3 (by decide) w')
   obtain ⟨s1,e1⟩ : ∃ s1,(p * a + cc + 0) % 18446744073709551616 = s1 := ⟨_,rfl⟩
   obtain ⟨s2,e2⟩ : ∃ s2,(p * a + cc + 0) / 18446744073709551616 = s2 := ⟨_,rfl⟩
   rw [e1,e2] at HMA hST
   have HST := lh9 hST
   have HRS := lh9 ((hR.set_ k s1 hlt).own hgg)
   have i1 : (0 : Int) ≤ (k : Int) := by omega
   have i2 : (k : Int) < (n : Int) := by omega
   have hBS := fun u => zah (p := ⟨g,k,none⟩) u (by show w.heap.size ≤ g; omega) hB
   have kS := fun u => hk.far (p := ⟨g,k,none⟩) (by show w.heap.size + 1 ≠ g; omega) u
   clear hST hpp e1 e2 hI hown hR
   go_wp2_with fail
   refine (HMA.out _).mono ?_
   rintro e w' ⟨rfl,rfl⟩
   go_wp2
   go_roundg (n - k)
   case measure => omega
   case rel => exact ⟨k + 1,s2,_,by omega,by omega,by go_num,rfl,HST.out,HRS.out,hBS _,kS _,by simpa using hgw⟩
  ·have hkn2 : k = n := by omega
   subst hkn2
   have HD := lh9 (hI.done (by have := hln.out; omega))
   have hdg : Dgs 18446744073709551616 (L ++ [cc]) := hI.dgs.append (by intro d hd; simp at hd; subst hd; exact hI.carry)
   have HDG := lh9 hdg
   have hoa := hown.alloc (.cells #[.int .u64 (cc : Int)] 81)
   have hBa := zak (.cells #[.int .u64 (cc : Int)] 81) hB
   have hka := hk.alloc (.cells #[.int .u64 (cc : Int)] 81)
   have hsz := hB.size
   clear hI hdg
   go_wp2_with (at_builtin; refine zaM _ rfl (.tmp 32) (.tmp 34) 22 rfl gs 81 i0 (.int .u64 0) 1 8 Tryz.underlying22 hi0 hz0 hz1 hz2 rfl (by decide) (.slice A1 k c1) k (zam .u64 L) rfl hoa (wr.heap.size + 1) (some ⟨wr.heap.size,0,none⟩) 1 1 [.int .u64 (cc : Int)] rfl ⟨rfl,fun _ => ⟨_,rfl,by simp,zba _ _ _⟩⟩ (zbS _ _) (by unfold maxLen; omega) (by omega) (by simp; omega) ?_; intro v' w1 hown' hgrow hat)
   obtain ⟨A2,c2,rfl,hc3,hc4,hr2⟩ := zan.of_grown_own hown'
   have hB2 : Below w.heap.size w w1 := hBa.grown hgrow (by simp; omega) (fun g hg => by have := hoa.lt g hg; omega)
   have hk2 : Blk w1 (w.heap.size + 1) 29 #[.slice none 0 0] := hka.grown hgrow (fun h => by have := hoa.lt _ h.symm; omega)
   have O := zbZ A2 (k + 1) c2 (L ++ [cc]) w1 (by rw [zeX]; exact hr2) HDG.out hc3 (by unfold maxLen at hc4; omega) (by omega)
   rw [HD.out] at O
   have HO := lh9 O
   clear O hown' hgrow hat hr2 hB hk hoa hBa hka
   go_wp2_with fail
   refine HO.out.mono ?_
   rintro e w' ⟨A3,n2,c3,rfl,hw,hb,hf⟩
   have hk3 := zae hb hk2
   have hc1 : w'.cell? ⟨w.heap.size + 1,0,none⟩ = some (.slice none 0 0) := hk3.cell 0
   have hf1 := hk3.frozen 0
   have hlt1 := hk2.lt
   have HG : Hid (zay w (x * a + b) (.returned (.agg #[.slice A3 n2 c3])) (w'.setCell ⟨w.heap.size + 1,0,none⟩ (.slice A3 n2 c3))) :=
    zfI hw (zac hB2 hb) (by show _ ≤ _; simp) (fun ad e => by have := hf ad e; show ad.block ≠ _; simp; omega) (fun ad e => by have := hf ad e; omega) _
   clear hb hw hf hk2 hk3 hB2
   go_wp2
   refine bodyPost_ret (v := .agg #[.slice A3 n2 c3]) (by simp [results,Tryz.results105,go_sem,hc1]) rfl ?_
   exact HG.out
theorem lt_bits (x : Nat) : x < 2 ^ bitLen x := by
 unfold bitLen
 split
 ·rename_i h; subst h; decide
 ·exact Nat.lt_log2_self
theorem shr_step (k j : Nat) : k / 2 ^ j = k / 2 ^ (j + 1) + k / 2 ^ (j + 1) + k / 2 ^ j % 2 := by
 rw [Nat.pow_succ,← Nat.div_div_eq_div_mul]; omega
theorem p256 (k : Nat) : (256 : Nat) ^ k = 2 ^ (8 * k) := by rw [show (256 : Nat) = 2 ^ 8 from rfl,← Nat.pow_mul]
theorem p64 (k : Nat) : (18446744073709551616 : Nat) ^ k = 2 ^ (64 * k) := by rw [show (18446744073709551616 : Nat) = 2 ^ 64 from rfl,← Nat.pow_mul]
theorem byte_of (x k : Nat) : (dg 256 x).getD k 0 = wd x (k / 8) / 2 ^ (8 * (k % 8)) % 256 := by
 rw [zcs (by decide) (zbp (by decide) x),zbO (by decide)]
 unfold wd
 rw [p256,p64,show (18446744073709551616 : Nat) = 2 ^ (8 * (k % 8)) * 2 ^ (64 - 8 * (k % 8)) by rw [← Nat.pow_add,show 8 * (k % 8) + (64 - 8 * (k % 8)) = 64 by omega],
  Nat.mod_mul_right_div_self,Nat.div_div_eq_div_mul,← Nat.pow_add,show 64 * (k / 8) + 8 * (k % 8) = 8 * k by omega]
 have e : 2 ^ (64 - 8 * (k % 8)) = 256 * 2 ^ (56 - 8 * (k % 8)) := by rw [show (256 : Nat) = 2 ^ 8 from rfl,← Nat.pow_add]; congr 1; omega
 rw [e,Nat.mod_mul_right_mod]
theorem wd_byte {v d k : Nat} (hv : v < 256 ^ k) (hd : d < 256) (j : Nat) :
  wd (v + 256 ^ k * d) j = if j = k / 8 then 2 ^ (8 * (k % 8)) * d + wd v j else wd v j := by
 unfold wd
 rw [p256] at hv ⊢
 rw [p64]
 rcases Nat.lt_trichotomy j (k / 8) with h | h | h
 ·rw [if_neg (by omega)]
  have e : 2 ^ (8 * k) * d = 2 ^ (64 * j) * (18446744073709551616 * (2 ^ (8 * k - 64 * j - 64) * d)) := by
   rw [show (18446744073709551616 : Nat) = 2 ^ 64 from rfl,← Nat.mul_assoc,← Nat.mul_assoc,← Nat.pow_add,← Nat.pow_add]
   congr 2; omega
  rw [e,Nat.add_mul_div_left _ _ (Nat.two_pow_pos _),Nat.add_mul_mod_self_left]
 ·rw [if_pos h]
  have e : 2 ^ (8 * k) * d = 2 ^ (64 * j) * (2 ^ (8 * (k % 8)) * d) := by
   rw [← Nat.mul_assoc,← Nat.pow_add]
   congr 2; omega
  have h1 : v / 2 ^ (64 * j) < 2 ^ (8 * (k % 8)) := (Nat.div_lt_iff_lt_mul (Nat.two_pow_pos _)).2 (by rw [← Nat.pow_add,show 8 * (k % 8) + 64 * j = 8 * k by omega]; exact hv)
  have h2 : 2 ^ (8 * (k % 8)) * (d + 1) ≤ 2 ^ (8 * (k % 8)) * 256 := Nat.mul_le_mul_left _ hd
  have h3 : 2 ^ (8 * (k % 8)) * 256 ≤ 18446744073709551616 := by
   rw [show (256 : Nat) = 2 ^ 8 from rfl,← Nat.pow_add]
   exact Nat.le_trans (Nat.pow_le_pow_right (by decide) (show 8 * (k % 8) + 8 ≤ 64 by omega)) (by decide)
  rw [e,Nat.add_mul_div_left _ _ (Nat.two_pow_pos _)]
  rw [Nat.mul_add] at h2
  rw [Nat.mod_eq_of_lt (by omega),Nat.mod_eq_of_lt (show v / 2 ^ (64 * j) < 18446744073709551616 by omega)]
  omega
 ·rw [if_neg (by omega)]
  have h1 : v < 2 ^ (64 * j) := Nat.lt_of_lt_of_le hv (Nat.pow_le_pow_right (by decide) (by omega))
  have h2 : v + 2 ^ (8 * k) * d < 2 ^ (64 * j) := by
   have h3 : 2 ^ (8 * k) * (d + 1) ≤ 2 ^ (8 * k) * 256 := Nat.mul_le_mul_left _ hd
   rw [Nat.mul_add] at h3
   have h4 : 2 ^ (8 * k) * 256 ≤ 2 ^ (64 * j) := by
    rw [show (256 : Nat) = 2 ^ 8 from rfl,← Nat.pow_add]
    exact Nat.pow_le_pow_right (by decide) (by omega)
   omega
  rw [Nat.div_eq_of_lt h1,Nat.div_eq_of_lt h2]
theorem wd_room {v k : Nat} (hv : v < 256 ^ k) : wd v (k / 8) < 2 ^ (8 * (k % 8)) := by
 unfold wd
 rw [p256] at hv
 rw [p64]
 refine Nat.lt_of_le_of_lt (Nat.mod_le _ _) ((Nat.div_lt_iff_lt_mul (Nat.two_pow_pos _)).2 ?_)
 rw [← Nat.pow_add,show 8 * (k % 8) + 64 * (k / 8) = 8 * k by omega]; exact hv
def zcP (M : List Nat) (n x : Nat) : Prop := M.length = n ∧ ∀ j,j < n → M.getD j 0 = wd x j
theorem zcP.start (n : Nat) : zcP (List.replicate n 0) n 0 := ⟨by simp,fun j hj => by simp [List.getD_eq_getElem?_getD,hj,wd]⟩
theorem zcP.dv_ {M : List Nat} {n x : Nat} (h : zcP M n x) (hx : x < 18446744073709551616 ^ n) : dv 18446744073709551616 M = x := by
 have e : M = zbq x n := by
  refine List.ext_getElem (by rw [h.1,zbB]) fun k h1 h2 => ?_
  have h3 := h.2 k (by rw [← h.1]; exact h1)
  rw [List.getD_eq_getElem?_getD,List.getElem?_eq_getElem h1] at h3
  refine Eq.trans h3 ?_
  simp [zbq]
 rw [e,zgh,Nat.mod_eq_of_lt hx]
theorem zcP.dgs {M : List Nat} {n x : Nat} (h : zcP M n x) : Dgs 18446744073709551616 M := by
 intro d hd
 obtain ⟨k,hk,rfl⟩ := List.getElem_of_mem hd
 have h3 := h.2 k (by rw [← h.1]; exact hk)
 rw [List.getD_eq_getElem?_getD,List.getElem?_eq_getElem hk] at h3
 have h4 : M[k] = wd x k := h3
 rw [h4]; exact zbY x k
theorem ziG (l : List Nat) (i k a : Nat) : (l.set i a).getD k 0 = if i = k ∧ k < l.length then a else l.getD k 0 := by
 simp only [List.getD_eq_getElem?_getD,List.getElem?_set]
 by_cases h : i = k
 ·subst h
  by_cases h2 : i < l.length
  ·simp [h2]
  ·simp [h2]
 ·simp [h]
theorem zcP.step {M : List Nat} {n v d k : Nat} (h : zcP M n v) (hv : v < 256 ^ k) (hd : d < 256) (hk : k / 8 < n) : zcP (M.set (k / 8) (2 ^ (8 * (k % 8)) * d + M.getD (k / 8) 0)) n (v + 256 ^ k * d) := by
 refine ⟨by simpa using h.1,fun j hj => ?_⟩
 rw [ziG,wd_byte hv hd j,h.1]
 by_cases hjk : k / 8 = j
 ·subst hjk
  rw [if_pos ⟨rfl,hj⟩,if_pos rfl,h.2 _ hk]
 ·rw [if_neg (by omega),if_neg (by omega),h.2 j hj]
def zga (l : List Nat) (k : Nat) : Nat := dv 256 (l.reverse.take k)
theorem zlx {l : List Nat} (hd : Dgs 256 l) (k : Nat) : zga l k < 256 ^ k := by
 have h1 := zbu (b := 256) (l := l.reverse.take k) (fun d hd' => hd d (by have := List.mem_of_mem_take hd'; simpa using this))
 exact Nat.lt_of_lt_of_le h1 (Nat.pow_le_pow_right (by decide) (List.length_take_le _ _))
theorem zmK {l : List Nat} {k : Nat} (h : k < l.length) : zga l (k + 1) = zga l k + 256 ^ k * l.getD (l.length - 1 - k) 0 := by
 unfold zga
 rw [zax,List.getD_eq_getElem?_getD,List.getD_eq_getElem?_getD,List.getElem?_reverse h]
theorem zoq (l : List Nat) : zga l l.length = zeL l := by
 unfold zga zeL
 rw [List.take_of_length_le (by simp)]
def zcp (x n k : Nat) (M : List Nat) : Prop := M.length = n ∧ ∀ j,j < k → M.getD (n - 1 - j) 0 = (dg 256 x).getD j 0
theorem zcp.start (x n : Nat) : zcp x n 0 (List.replicate n 0) := ⟨by simp,fun j hj => by omega⟩
theorem zcp.step {x n k : Nat} {M : List Nat} (h : zcp x n k M) (hk : k < n) : zcp x n (k + 1) (M.set (n - 1 - k) ((dg 256 x).getD k 0)) := by
 refine ⟨by simpa using h.1,fun j hj => ?_⟩
 rw [ziG,h.1]
 by_cases hjk : j = k
 ·subst hjk; rw [if_pos ⟨rfl,by omega⟩]
 ·rw [if_neg (by omega),h.2 j (by omega)]
theorem zcp.done {x n : Nat} {M : List Nat} (h : zcp x n n M) (hn : n = (dg 256 x).length) : M = zbi x := by
 unfold zbi
 refine List.ext_getElem (by rw [h.1,hn]; simp) fun k h1 h2 => ?_
 have hk : k < n := by rw [← h.1]; exact h1
 have h3 := h.2 (n - 1 - k) (by omega)
 rw [show n - 1 - (n - 1 - k) = k by omega,List.getD_eq_getElem?_getD,List.getElem?_eq_getElem h1] at h3
 rw [List.getElem_reverse]
 refine Eq.trans h3 ?_
 rw [List.getD_eq_getElem?_getD,List.getElem?_eq_getElem (by omega)]
 show (dg 256 x)[n - 1 - k] = _
 congr 1; omega
end Go.Proofs.YtfieheffipfahaaGreatDoor
