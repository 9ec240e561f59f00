/- What this claim leans on. -/
import Derived.Test.YtfieheffipfahaaGreatDoorRBunC
import Derived.Test.YtfieheffipfahaaGreatDoorRBunM
namespace Go.Proofs.YtfieheffipfahaaGreatDoor
open Go Go.RowKit
set_option maxHeartbeats 16000000
set_option linter.unusedVariables false
theorem ziz (a : Int) (g : Nat) : (a / (g : Int)).natAbs ≤ a.natAbs:=by
 rcases Nat.eq_zero_or_pos g with rfl | hg
 ·simp
 ·exact Int.natAbs_ediv_le_natAbs a g
theorem zof (a b : Rat) : (a + b).num.natAbs ≤ a.num.natAbs * b.den + b.num.natAbs * a.den:=by
 rw [Rat.num_add]
 refine Nat.le_trans (ziz _ _) (Nat.le_trans (Int.natAbs_add_le _ _) ?_)
 rw [Int.natAbs_mul,Int.natAbs_mul,Int.natAbs_natCast,Int.natAbs_natCast]
 exact Nat.le_refl _
theorem znT (a b : Rat) : (a + b).den ≤ a.den * b.den:=by rw [Rat.den_add]; exact Nat.div_le_self _ _
theorem zjz (p q : Int) : (Rat.divInt p q).num.natAbs ≤ p.natAbs:=by
 rw [Rat.num_divInt]
 refine Nat.le_trans (ziz _ _) ?_
 rw [Int.natAbs_mul]
 by_cases h : q = 0
 ·simp [h]
 ·rw [Int.natAbs_sign_of_ne_zero h,Nat.one_mul]; exact Nat.le_refl _
def LtQ (b : Nat) (r : Rat) : Prop:=r.num.natAbs < b ∧ r.den < b
theorem LtQ.up {b b' : Nat} {r : Rat} (h : LtQ b r) (hb : b ≤ b') : LtQ b' r:=⟨Nat.lt_of_lt_of_le h.1 hb,Nat.lt_of_lt_of_le h.2 hb⟩
theorem LtQ.add {b b' : Nat} {r s : Rat} (h : LtQ b r) (h' : LtQ b' s) : LtQ (2 * (b * b')) (r + s):=by
 have h1 : r.num.natAbs * s.den < b * b':=Nat.mul_lt_mul'' h.1 h'.2
 have h2 : s.num.natAbs * r.den < b * b':=by rw [Nat.mul_comm b b']; exact Nat.mul_lt_mul'' h'.1 h.2
 have h3 : r.den * s.den < b * b':=Nat.mul_lt_mul'' h.2 h'.2
 have h4:=zof r s
 have h5:=znT r s
 exact ⟨by omega,by omega⟩
theorem LtQ.neg {b : Nat} {r : Rat} (h : LtQ b r) : LtQ b (-r):=⟨by rw [Rat.neg_num,Int.natAbs_neg]; exact h.1,h.2⟩
theorem LtQ.made {b : Nat} {p q : Int} (hp : p.natAbs < b) (hq : q.natAbs < b) (hb : 1 < b) : LtQ b (Rat.divInt p q):=by
 refine ⟨Nat.lt_of_le_of_lt (zjz p q) hp,?_⟩
 rw [Rat.den_divInt]
 split
 ·exact hb
 ·exact Nat.lt_of_le_of_lt (Nat.div_le_self _ _) hq
theorem LtQ.whole {b : Nat} {z : Int} (hz : z.natAbs < b) (hb : 1 < b) : LtQ b (z : Rat):=⟨by rw [Rat.num_intCast]; exact hz,by rw [Rat.den_intCast]; exact hb⟩
def zhS (r : Rat) : Int:=zeg r.num
theorem den_one (r : Rat) : r.den = 1 ↔ (r.num : Rat) = r:=by
 constructor
 ·intro h
  exact Rat.ext (by rw [Rat.num_intCast]) (by rw [Rat.den_intCast,h])
 ·intro h
  have:=congrArg Rat.den h
  rw [Rat.den_intCast] at this
  exact this.symm
theorem zfj (p q : Int) (hq : q ≠ 0) : (Rat.divInt p q).num.natAbs = p.natAbs / Nat.gcd p.natAbs q.natAbs:=by
 rw [Rat.num_divInt,Int.gcd]
 have hd : (Nat.gcd q.natAbs p.natAbs : Int) ∣ q.sign * p:=Int.dvd_trans (Int.ofNat_dvd_left.2 (Nat.gcd_dvd_right ..)) (Int.dvd_mul_left ..)
 rw [Int.natAbs_ediv_of_dvd hd,Int.natAbs_mul,Int.natAbs_sign_of_ne_zero hq,Nat.one_mul,Int.natAbs_natCast,Nat.gcd_comm]
theorem zer (p q : Int) (hq : q ≠ 0) : (Rat.divInt p q).den = q.natAbs / Nat.gcd p.natAbs q.natAbs:=by
 rw [Rat.den_divInt,if_neg hq,Int.gcd,Nat.gcd_comm]
theorem zes (p q : Int) (hq : q ≠ 0) : (Rat.divInt p q).num < 0 ↔ (p < 0 ∧ 0 < q ∨ 0 < p ∧ q < 0):=by
 rw [Rat.num_divInt]
 have hg0 : 0 < (q.gcd p : Int):=by
  have : 0 < q.gcd p:=Int.gcd_pos_of_ne_zero_left p hq
  omega
 have e : q.sign * p / (q.gcd p : Int) < 0 ↔ q.sign * p < 0:=by
  constructor
  ·intro h
   refine Int.not_le.1 fun h1 => ?_
   have:=Int.ediv_nonneg h1 (Int.le_of_lt hg0)
   omega
  ·intro h
   exact Int.ediv_neg_of_neg_of_pos h hg0
 rw [e]
 rcases Int.lt_or_gt_of_ne hq with h | h
 ·rw [Int.sign_eq_neg_one_of_neg h]; omega
 ·rw [Int.sign_eq_one_of_pos h]; omega
set_option maxRecDepth 100000
theorem ziP (p q r s : Nat) (hp : p < 18446744073709551616) (hq : q < 18446744073709551616) (hr : r < 18446744073709551616) (hs : s < 18446744073709551616) (w : World) :
  Calls Tryz.prog 131 #[.int .u64 p,.int .u64 q,.int .u64 r,.int .u64 s] w fun e w' => e = .returned (.tuple #[.int .u64 (((p * q + r + s) / 18446744073709551616 : Nat) : Int),.int .u64 (((p * q + r + s) % 18446744073709551616 : Nat) : Int)]) ∧ w = w':=by
 have h:=znu p q r s ⟨by omega,by omega⟩ ⟨by omega,by omega⟩ ⟨by omega,by omega⟩ ⟨by omega,by omega⟩ w
 rw [(ma_nat p q r s).1,(ma_nat p q r s).2] at h
 exact h
theorem zmY (x a b : Nat) (A : oA9) (n c : Nat) (w : World) (hA : zaf w x A n c) (hn : n ≤ 274877906944) (ha : a < 18446744073709551616) (hb : b < 18446744073709551616) :
  Calls Tryz.prog 105 #[.agg #[.slice A n c],.int .u64 a,.int .u64 b] w (zaR w (x * a + b)):=by
 obtain ⟨i0,hi0,hz0,hz1,hz2⟩:=info_parts zfT
 have hln:=lh9 hA.len
 have HWS:=lh9 (fun w' (hb : Below w.heap.size w w') => zcI x A n c w' (hA.below hb) (by omega))
 have hI:=lh9 (ByB.start (a:=a) hA.len hb)
 clear hA hb
 go_enter Tryz.func105,Tryz.ntmps105
 go_wp2_with fail
 generalize hW : (w.alloc (.cells #[.slice A n c] 29)).alloc (.cells #[.slice none 0 0] 29) = W0
 obtain ⟨b1,b2,b3,b5⟩:=zbD w 29 29 #[.slice A n c] #[.slice none 0 0]
 rw [hW] at b1 b2 b3 b5
 clear hW b2
 refine (HWS.out _ b1).mono ?_
 rintro e w1 ⟨v,rfl,hown,hb⟩
 obtain ⟨A1,c1,rfl,hc1,hc2,_⟩:=zas.of_grown_own hown
 have hB:=zac b1 hb
 have hk:=zae hb b3
 have hs3 : w.heap.size + 2 ≤ W0.heap.size:=b5
 obtain ⟨gs,hgs⟩ : ∃ g,W0.heap.size = g:=⟨_,rfl⟩
 have hgw : gs ≤ w1.heap.size:=by rw [← hgs]; exact hb.size
 rw [hgs] at hown hs3
 clear hb b1 b3 b5 hgs
 go_wp2_with fail
 go_loopg [8,16] (n + 1) (fun g cy ix wr => ∃ (k cc : Nat) (L : List Nat),k ≤ n ∧ n < g + k ∧ ix = .int .i64 k ∧ cy = .int .u64 cc ∧ ByB x a b k n L cc ∧ wr.ownsRow gs 81 1 (.slice A1 n c1) n (zaq .u64 L) ∧ Below w.heap.size w wr ∧ Blk wr (w.heap.size + 1) 29 #[.slice none 0 0] ∧ gs ≤ wr.heap.size)
 case atStart => exact ⟨0,b,_,Nat.zero_le _,by omega,rfl,rfl,hI.out,hown,hB,hk,hgw⟩
 case round =>
  clear hB hk hown hI hgw
  obtain ⟨k,cc,L,hkn,hg,rfl,rfl,hI,hown,hB,hk,hgw⟩:=hrel
  by_cases hlt : k < n
  ·obtain ⟨g,cap,e,hgg,hR⟩:=zav.of_own hown (by omega)
   injection e with e1 _ e3
   subst e1 e3
   have h2:=hR.cell k hlt
   rw [hI.get] at h2
   have h3:=hR.frozen k
   have hb2:=zcB x k
   have hc3:=hI.carry
   have hST:=hI.step (s:=wd x k * a + cc + 0) ha hlt rfl
   obtain ⟨p,hpp⟩ : ∃ b,wd x k = b:=⟨_,rfl⟩
   rw [hpp] at h2 hb2 hST
   have HMA:=lh9 (fun w' => ziP p a cc 0 hb2 ha hc3 (by decide) w')
   obtain ⟨s1,e1⟩ : ∃ s1,(p * a + cc + 0) % 18446744073709551616 = s1:=⟨_,rfl⟩
   obtain ⟨s2,e2⟩ : ∃ s2,(p * a + cc + 0) / 18446744073709551616 = s2:=⟨_,rfl⟩
   rw [e1,e2] at HMA hST
   have HST:=lh9 hST
   have HRS:=lh9 ((hR.set_ k s1 hlt).own hgg)
   have i1 : (0 : Int) ≤ (k : Int):=by omega
   have i2 : (k : Int) < (n : Int):=by omega
   have hBS:=fun u => zao (p:=⟨g,k,none⟩) u (by show w.heap.size ≤ g; omega) hB
   have kS:=fun u => hk.far (p:=⟨g,k,none⟩) (by show w.heap.size + 1 ≠ g; omega) u
   clear hST hpp e1 e2 hI hown hR
   go_wp2_with fail
   refine (HMA.out _).mono ?_
   rintro e w' ⟨rfl,rfl⟩
   go_wp2
   go_roundg (n - k)
   case measure => omega
   case rel => exact ⟨k + 1,s2,_,by omega,by omega,by go_num,rfl,HST.out,HRS.out,hBS _,kS _,by simpa using hgw⟩
  ·have hkn2 : k = n:=by omega
   subst hkn2
   have HD:=lh9 (hI.done (by have:=hln.out; omega))
   have hdg : Dgs 18446744073709551616 (L ++ [cc]):=hI.dgs.append (by intro d hd; simp at hd; subst hd; exact hI.carry)
   have HDG:=lh9 hdg
   have hoa:=hown.alloc (.cells #[.int .u64 (cc : Int)] 81)
   have hBa:=zan (.cells #[.int .u64 (cc : Int)] 81) hB
   have hka:=hk.alloc (.cells #[.int .u64 (cc : Int)] 81)
   have hsz:=hB.size
   clear hI hdg
   go_wp2_with (at_builtin; refine zbo _ rfl (.tmp 32) (.tmp 34) 22 rfl gs 81 i0 (.int .u64 0) 1 8 Tryz.underlying22 hi0 hz0 hz1 hz2 rfl (by decide) (.slice A1 k c1) k (zaq .u64 L) rfl hoa (wr.heap.size + 1) (some ⟨wr.heap.size,0,none⟩) 1 1 [.int .u64 (cc : Int)] rfl ⟨rfl,fun _ => ⟨_,rfl,by simp,zbS _ _ _⟩⟩ (zcJ _ _) (by unfold maxLen; omega) (by omega) (by simp; omega) ?_; intro v' w1 hown' hgrow hat)
   obtain ⟨A2,c2,rfl,hc3,hc4,hr2⟩:=zas.of_grown_own hown'
   have hB2 : Below w.heap.size w w1:=hBa.grown hgrow (by simp; omega) (fun g hg => by have:=hoa.lt g hg; omega)
   have hk2 : Blk w1 (w.heap.size + 1) 29 #[.slice none 0 0]:=hka.grown hgrow (fun h => by have:=hoa.lt _ h.symm; omega)
   have O:=zcP A2 (k + 1) c2 (L ++ [cc]) w1 (by rw [zfO]; exact hr2) HDG.out hc3 (by unfold maxLen at hc4; omega) (by omega)
   rw [HD.out] at O
   have HO:=lh9 O
   clear O hown' hgrow hat hr2 hB hk hoa hBa hka
   go_wp2_with fail
   refine HO.out.mono ?_
   rintro e w' ⟨A3,n2,c3,rfl,hw,hb,hf⟩
   have hk3:=zae hb hk2
   have hc1 : w'.cell? ⟨w.heap.size + 1,0,none⟩ = some (.slice none 0 0):=hk3.cell 0
   have hf1:=hk3.frozen 0
   have hlt1:=hk2.lt
   have HG : Hid (zaR w (x * a + b) (.returned (.agg #[.slice A3 n2 c3])) (w'.setCell ⟨w.heap.size + 1,0,none⟩ (.slice A3 n2 c3))) :=
    zgz hw (zac hB2 hb) (by show _ ≤ _; simp) (fun ad e => by have:=hf ad e; show ad.block ≠ _; simp; omega) (fun ad e => by have:=hf ad e; omega) _
   clear hb hw hf hk2 hk3 hB2
   go_wp2
   refine bodyPost_ret (v:=.agg #[.slice A3 n2 c3]) (by simp [results,Tryz.results105,go_sem,hc1]) rfl ?_
   exact HG.out
theorem lt_bits (x : Nat) : x < 2 ^ bitLen x:=by
 unfold bitLen
 split
 ·rename_i h; subst h; decide
 ·exact Nat.lt_log2_self
theorem shr_step (k j : Nat) : k / 2 ^ j = k / 2 ^ (j + 1) + k / 2 ^ (j + 1) + k / 2 ^ j % 2:=by
 rw [Nat.pow_succ,← Nat.div_div_eq_div_mul]; omega
theorem p256 (k : Nat) : (256 : Nat) ^ k = 2 ^ (8 * k):=by rw [show (256 : Nat) = 2 ^ 8 from rfl,← Nat.pow_mul]
theorem p64 (k : Nat) : (18446744073709551616 : Nat) ^ k = 2 ^ (64 * k):=by rw [show (18446744073709551616 : Nat) = 2 ^ 64 from rfl,← Nat.pow_mul]
theorem byte_of (x k : Nat) : (dg 256 x).getD k 0 = wd x (k / 8) / 2 ^ (8 * (k % 8)) % 256:=by
 rw [zda (by decide) (zbE (by decide) x),zbZ (by decide)]
 unfold wd
 rw [p256,p64,show (18446744073709551616 : Nat) = 2 ^ (8 * (k % 8)) * 2 ^ (64 - 8 * (k % 8)) by rw [← Nat.pow_add,show 8 * (k % 8) + (64 - 8 * (k % 8)) = 64 by omega],
  Nat.mod_mul_right_div_self,Nat.div_div_eq_div_mul,← Nat.pow_add,show 64 * (k / 8) + 8 * (k % 8) = 8 * k by omega]
 have e : 2 ^ (64 - 8 * (k % 8)) = 256 * 2 ^ (56 - 8 * (k % 8)):=by rw [show (256 : Nat) = 2 ^ 8 from rfl,← Nat.pow_add]; congr 1; omega
 rw [e,Nat.mod_mul_right_mod]
theorem wd_byte {v d k : Nat} (hv : v < 256 ^ k) (hd : d < 256) (j : Nat) :
  wd (v + 256 ^ k * d) j = if j = k / 8 then 2 ^ (8 * (k % 8)) * d + wd v j else wd v j:=by
 unfold wd
 rw [p256] at hv ⊢
 rw [p64]
 rcases Nat.lt_trichotomy j (k / 8) with h | h | h
 ·rw [if_neg (by omega)]
  have e : 2 ^ (8 * k) * d = 2 ^ (64 * j) * (18446744073709551616 * (2 ^ (8 * k - 64 * j - 64) * d)):=by
   rw [show (18446744073709551616 : Nat) = 2 ^ 64 from rfl,← Nat.mul_assoc,← Nat.mul_assoc,← Nat.pow_add,← Nat.pow_add]
   congr 2; omega
  rw [e,Nat.add_mul_div_left _ _ (Nat.two_pow_pos _),Nat.add_mul_mod_self_left]
 ·rw [if_pos h]
  have e : 2 ^ (8 * k) * d = 2 ^ (64 * j) * (2 ^ (8 * (k % 8)) * d):=by
   rw [← Nat.mul_assoc,← Nat.pow_add]
   congr 2; omega
  have h1 : v / 2 ^ (64 * j) < 2 ^ (8 * (k % 8)):=(Nat.div_lt_iff_lt_mul (Nat.two_pow_pos _)).2 (by rw [← Nat.pow_add,show 8 * (k % 8) + 64 * j = 8 * k by omega]; exact hv)
  have h2 : 2 ^ (8 * (k % 8)) * (d + 1) ≤ 2 ^ (8 * (k % 8)) * 256:=Nat.mul_le_mul_left _ hd
  have h3 : 2 ^ (8 * (k % 8)) * 256 ≤ 18446744073709551616:=by
   rw [show (256 : Nat) = 2 ^ 8 from rfl,← Nat.pow_add]
   exact Nat.le_trans (Nat.pow_le_pow_right (by decide) (show 8 * (k % 8) + 8 ≤ 64 by omega)) (by decide)
  rw [e,Nat.add_mul_div_left _ _ (Nat.two_pow_pos _)]
  rw [Nat.mul_add] at h2
  rw [Nat.mod_eq_of_lt (by omega),Nat.mod_eq_of_lt (show v / 2 ^ (64 * j) < 18446744073709551616 by omega)]
  omega
 ·rw [if_neg (by omega)]
  have h1 : v < 2 ^ (64 * j):=Nat.lt_of_lt_of_le hv (Nat.pow_le_pow_right (by decide) (by omega))
  have h2 : v + 2 ^ (8 * k) * d < 2 ^ (64 * j):=by
   have h3 : 2 ^ (8 * k) * (d + 1) ≤ 2 ^ (8 * k) * 256:=Nat.mul_le_mul_left _ hd
   rw [Nat.mul_add] at h3
   have h4 : 2 ^ (8 * k) * 256 ≤ 2 ^ (64 * j):=by
    rw [show (256 : Nat) = 2 ^ 8 from rfl,← Nat.pow_add]
    exact Nat.pow_le_pow_right (by decide) (by omega)
   omega
  rw [Nat.div_eq_of_lt h1,Nat.div_eq_of_lt h2]
theorem wd_room {v k : Nat} (hv : v < 256 ^ k) : wd v (k / 8) < 2 ^ (8 * (k % 8)):=by
 unfold wd
 rw [p256] at hv
 rw [p64]
 refine Nat.lt_of_le_of_lt (Nat.mod_le _ _) ((Nat.div_lt_iff_lt_mul (Nat.two_pow_pos _)).2 ?_)
 rw [← Nat.pow_add,show 8 * (k % 8) + 64 * (k / 8) = 8 * k by omega]; exact hv
def zdt (M : List Nat) (n x : Nat) : Prop:=M.length = n ∧ ∀ j,j < n → M.getD j 0 = wd x j
theorem zdt.start (n : Nat) : zdt (List.replicate n 0) n 0:=⟨by simp,fun j hj => by simp [List.getD_eq_getElem?_getD,hj,wd]⟩
theorem zdt.dv_ {M : List Nat} {n x : Nat} (h : zdt M n x) (hx : x < 18446744073709551616 ^ n) : dv 18446744073709551616 M = x:=by
 have e : M = zbR x n:=by
  refine List.ext_getElem (by rw [h.1,zca]) fun k h1 h2 => ?_
  have h3:=h.2 k (by rw [← h.1]; exact h1)
  rw [List.getD_eq_getElem?_getD,List.getElem?_eq_getElem h1] at h3
  refine Eq.trans h3 ?_
  simp [zbR]
 rw [e,zhb,Nat.mod_eq_of_lt hx]
theorem zdt.dgs {M : List Nat} {n x : Nat} (h : zdt M n x) : Dgs 18446744073709551616 M:=by
 intro d hd
 obtain ⟨k,hk,rfl⟩:=List.getElem_of_mem hd
 have h3:=h.2 k (by rw [← h.1]; exact hk)
 rw [List.getD_eq_getElem?_getD,List.getElem?_eq_getElem hk] at h3
 have h4 : M[k] = wd x k:=h3
 rw [h4]; exact zcB x k
theorem zjX (l : List Nat) (i k a : Nat) : (l.set i a).getD k 0 = if i = k ∧ k < l.length then a else l.getD k 0:=by
 simp only [List.getD_eq_getElem?_getD,List.getElem?_set]
 by_cases h : i = k
 ·subst h
  by_cases h2 : i < l.length
  ·simp [h2]
  ·simp [h2]
 ·simp [h]
theorem zdt.step {M : List Nat} {n v d k : Nat} (h : zdt M n v) (hv : v < 256 ^ k) (hd : d < 256) (hk : k / 8 < n) : zdt (M.set (k / 8) (2 ^ (8 * (k % 8)) * d + M.getD (k / 8) 0)) n (v + 256 ^ k * d):=by
 refine ⟨by simpa using h.1,fun j hj => ?_⟩
 rw [zjX,wd_byte hv hd j,h.1]
 by_cases hjk : k / 8 = j
 ·subst hjk
  rw [if_pos ⟨rfl,hj⟩,if_pos rfl,h.2 _ hk]
 ·rw [if_neg (by omega),if_neg (by omega),h.2 j hj]
def zgU (l : List Nat) (k : Nat) : Nat:=dv 256 (l.reverse.take k)
theorem znl {l : List Nat} (hd : Dgs 256 l) (k : Nat) : zgU l k < 256 ^ k:=by
 have h1:=zbQ (b:=256) (l:=l.reverse.take k) (fun d hd' => hd d (by have:=List.mem_of_mem_take hd'; simpa using this))
 exact Nat.lt_of_lt_of_le h1 (Nat.pow_le_pow_right (by decide) (List.length_take_le _ _))
theorem zow {l : List Nat} {k : Nat} (h : k < l.length) : zgU l (k + 1) = zgU l k + 256 ^ k * l.getD (l.length - 1 - k) 0:=by
 unfold zgU
 rw [zaL,List.getD_eq_getElem?_getD,List.getD_eq_getElem?_getD,List.getElem?_reverse h]
theorem zpY (l : List Nat) : zgU l l.length = zcE l:=by
 unfold zgU zcE
 rw [List.take_of_length_le (by simp)]
def zcV (x n k : Nat) (M : List Nat) : Prop:=M.length = n ∧ ∀ j,j < k → M.getD (n - 1 - j) 0 = (dg 256 x).getD j 0
theorem zcV.start (x n : Nat) : zcV x n 0 (List.replicate n 0):=⟨by simp,fun j hj => by omega⟩
theorem zcV.step {x n k : Nat} {M : List Nat} (h : zcV x n k M) (hk : k < n) : zcV x n (k + 1) (M.set (n - 1 - k) ((dg 256 x).getD k 0)):=by
 refine ⟨by simpa using h.1,fun j hj => ?_⟩
 rw [zjX,h.1]
 by_cases hjk : j = k
 ·subst hjk; rw [if_pos ⟨rfl,by omega⟩]
 ·rw [if_neg (by omega),h.2 j (by omega)]
theorem zcV.done {x n : Nat} {M : List Nat} (h : zcV x n n M) (hn : n = (dg 256 x).length) : M = zcq x:=by
 unfold zcq
 refine List.ext_getElem (by rw [h.1,hn]; simp) fun k h1 h2 => ?_
 have hk : k < n:=by rw [← h.1]; exact h1
 have h3:=h.2 (n - 1 - k) (by omega)
 rw [show n - 1 - (n - 1 - k) = k by omega,List.getD_eq_getElem?_getD,List.getElem?_eq_getElem h1] at h3
 rw [List.getElem_reverse]
 refine Eq.trans h3 ?_
 rw [List.getD_eq_getElem?_getD,List.getElem?_eq_getElem (by omega)]
 show (dg 256 x)[n - 1 - k] = _
 congr 1; omega
def zam (w : World) : Prop:=∀ j,j < Lib.deBruijn64tab.length → w.cell? ⟨4,j,none⟩ = some (.int .u8 (Lib.deBruijn64tab.getD j 0 : Nat))
theorem zam.below {B : Nat} {w w' : World} (h : zam w) (hb : Below B w w') (hB : 4 < B) : zam w':=fun j hj => (hb.cell (p:=⟨4,j,none⟩) hB).trans (h j hj)
theorem zam.drewN {w : World} (h : zam w) (n : Nat) : zam (w.drewN n):=h
theorem zam.on {w w' : World} (h : zam w) (hb : Below w.heap.size w w') : zam w':=h.below hb (by
 have:=h 0 (by decide)
 exact World.block_lt_of_cell? w _ this)
theorem tz_key (x a : Nat) (hx : x < 18446744073709551616) (hx0 : x ≠ 0) (hlow : x &&& (18446744073709551616 - x) = a) :
  IntKind.u64.wrap (bits BinOp.and IntKind.u64 (x : Int) (IntKind.u64.wrap (-(x : Int))) * 285870213051353865) / 288230376151711744 = ((a * 285870213051353865 % 18446744073709551616 / 288230376151711744 : Nat) : Int):=by
 have e1 : IntKind.u64.wrap (-(x : Int)) = ((18446744073709551616 - x : Nat) : Int):=by rw [IntKind.wrap_u64]; omega
 rw [e1,bits_and_u64_nat x _ hx (by omega),hlow,IntKind.wrap_u64]
 omega
theorem zlF (x k idx : Nat) (w : World) (hx0 : ((x : Int) == 0) = false)
  (key : IntKind.u64.wrap (bits BinOp.and IntKind.u64 (x : Int) (IntKind.u64.wrap (-(x : Int))) * 285870213051353865) / 288230376151711744 = (idx : Int))
  (hi : idx < 64) (hk : k < 64) (hcell : w.cell? ⟨4,idx,none⟩ = some (.int .u8 k)) :
  Calls Tryz.prog 165 #[.int .u64 x] w fun e w' => e = .returned (.int .i64 k) ∧ w = w':=by
 go_enter Tryz.func165,Tryz.ntmps165
 go_wp2_with (simp only [key])
 go_ret
 exact ⟨rfl,rfl⟩
theorem zlG (w : World) :
  Calls Tryz.prog 165 #[.int .u64 0] w fun e w' => e = .returned (.int .i64 64) ∧ w = w':=by
 go_enter Tryz.func165,Tryz.ntmps165
 go_wp2
 go_ret
 exact ⟨rfl,rfl⟩
theorem zpc (x : Int) (hx : Wd x) (w : World) (hT : zam w) :
  Calls Tryz.prog 165 #[.int .u64 x] w fun e w' => e = .returned (.int .i64 (zgk x)) ∧ w = w':=by
 obtain ⟨h0,h1⟩:=hx
 obtain ⟨x,rfl⟩:=Int.eq_ofNat_of_zero_le h0
 have hN : x < 18446744073709551616:=by omega
 unfold zgk
 rw [Int.toNat_natCast]
 by_cases hx0 : x = 0
 ·subst hx0
  exact zlG w
 ·obtain ⟨hlow,hk⟩:=Lib.lowest_bit 64 x hx0 hN
  obtain ⟨hi,htab⟩:=Lib.deBruijn64_at _ hk
  have hcell:=hT _ hi
  rw [htab] at hcell
  exact zlF x _ _ w (by simp; omega) (tz_key x _ hN hx0 hlow) hi hk hcell
theorem zoB (x : Int) (hx : Wd x) (w : World) (hT : zam w) :
  Calls Tryz.prog 156 #[.int .u64 x] w fun e w' => e = .returned (.int .i64 (zgk x)) ∧ w = w':=by
 have H:=lh9 (zpc x hx w hT)
 clear hT
 go_enter Tryz.func156,Tryz.ntmps156
 go_wp2_with (go_at_call 165; refine H.out.mono ?_; rintro e w' ⟨rfl,rfl⟩)
 go_ret
 exact ⟨rfl,rfl⟩
set_option linter.unusedSimpArgs false
def zbC (w : World) (z : Int) (b : Bool) (A : oA9) (n c : Nat) : Prop:=b = decide (z < 0) ∧ zai w z.natAbs A n c
theorem zbC.below {w w' : World} {z : Int} {b : Bool} {A : oA9} {n c : Nat} (h : zbC w z b A n c) (hb : Below w.heap.size w w') : zbC w' z b A n c:=⟨h.1,h.2.below hb⟩
theorem zbC.to {w : World} {z z' : Int} {b : Bool} {A : oA9} {n c : Nat} (e : z = z') (h : zbC w z b A n c) : zbC w z' b A n c:=e ▸ h
def zkM (w : World) (z : Int) (e : Ending) (w' : World) : Prop:=∃ (b : Bool) (A : oA9) (n c : Nat),e = .returned (.agg #[.bool b,.slice A n c]) ∧ zbC w' z b A n c ∧ Below w.heap.size w w'
theorem zkq {w : World} {A : oA9} {n g : Nat} {k : IntKind} {l : List Nat} {t : TypeId} {cs : Array Value} (h : zas w w.heap.size 1 A n (zaq k l)) (hk : Blk w g t cs) (hcs : ∀ v ∈ cs.toList,∀ z,v ≠ .int k z) : 0 < n → ∀ ad,A = some ad → ad.block ≠ g:=fun hn ad e hg => by
 have hl:=h.len_
 obtain ⟨ad',e',_,hc⟩:=h.2 hn
 rw [e] at e'
 injection e' with e'
 subst e'
 have h0:=hc 0 (.int k (l.getD 0 0 : Nat)) (zcU k _ 0 (by omega))
 have e0 : ad.add 0 = ad:=by unfold Addr.add; rw [if_pos rfl]
 rw [e0] at h0
 obtain ⟨bk,off,pr⟩:=ad
 simp only at hg
 subst hg
 unfold Blk at hk
 cases pr with
 | none =>
   rw [show w.cell? ⟨bk,off,none⟩ = cs[off]? from cell_of_row w bk off _ t (0,0) hk,← Array.getElem?_toList] at h0
   exact hcs _ (List.mem_of_getElem? h0) _ rfl
 | some q => simp [World.cell?,hk] at h0
theorem ziI {w : World} {A : oA9} {n c x : Nat} (h : zai w x A n c) {p : Addr} (hp : 0 < n → ∀ ad,A = some ad → ad.block ≠ p.block) (u : Value) : zai (w.setCell p u) x A n c:=by
 obtain ⟨hr,h1,h2⟩:=h
 refine ⟨⟨hr.1,fun hn => ?_⟩,h1,h2⟩
 obtain ⟨ad,e,hb,hc⟩:=hr.2 hn
 refine ⟨ad,e,by simpa using hb,fun j v hv => ?_⟩
 refine (World.cell?_setCell_other w p _ u (fun e2 => hp hn ad e ?_)).trans (hc j v hv)
 have:=congrArg Addr.block e2
 rw [zaK] at this
 first | exact this | exact this.symm
theorem ziJ {w : World} {x : Nat} {p : Bool} {A q : oA9} {n c r s g : Nat} {t : TypeId} (h : zai w x A n c) (hk : Blk w g t #[.bool p,.slice q r s]) (p' : Bool) (q' : oA9) (r' s' : Nat) :
  zai ((w.setCell ⟨g,0,none⟩ (.bool p')).setCell ⟨g,1,none⟩ (.slice q' r' s')) x A n c:=by
 have h1:=ziI (p:=⟨g,0,none⟩) h (zkq h.1 hk (by intro v hv; simp at hv; rcases hv with rfl | rfl <;> intro z e <;> cases e)) (.bool p')
 exact ziI (p:=⟨g,1,none⟩) h1 (zkq h1.1 (hk.set_ 0 (.bool p')) (by intro v hv; simp at hv; rcases hv with rfl | rfl <;> intro z e <;> cases e)) _
def sgI (s : Bool) (x : Nat) : Int:=if s then -(x : Int) else (x : Int)
theorem zfM (s : Bool) (x : Nat) : (sgI s x).natAbs = x:=by unfold sgI; split <;> omega
theorem sgI_neg (s : Bool) (x : Nat) : decide (sgI s x < 0) = (s && decide (0 < x)):=by unfold sgI; cases s <;> simp
theorem len16_ne {w : World} {x : Nat} {A : oA9} {n c : Nat} (h : zai w x A n c) : decide (0 < n) = decide (0 < x):=by
 rw [h.len]
 by_cases hx : x = 0
 ·subst hx; rfl
 ·have:=(zeR (b:=65536) (by decide) x hx).1
  rw [decide_eq_true (by omega : 0 < x),decide_eq_true (by omega)]
theorem zdS (s : Bool) (x : Nat) (A : oA9) (n c : Nat) (w : World) (h : zai w x A n c) (hn : n ≤ 1099511627776) :
  Calls Tryz.prog 42 #[.bool s,.slice A n c] w (zkM w (sgI s x)):=by
 obtain ⟨hB,b2,b5⟩:=zaz w 38 #[.bool false,.slice none 0 0]
 have hh:=h.below hB
 have hsx:=sgI_neg s x
 rw [← len16_ne h] at hsx
 have HSX:=lh9 hsx
 have HSA:=lh9 (zfM s x)
 clear h hsx
 cases s
 ·go_enter Tryz.func42,Tryz.ntmps42
  generalize hW : w.alloc (.cells #[.bool false,.slice none 0 0] 38) = W0 at *
  have hk9:=(b2.set_ 0 (.bool false)).set_ 1 (.slice A n c)
  have r0:=hk9.cell 0
  have r1:=hk9.cell 1
  have c0:=b2.cell 0
  have f0:=b2.frozen 0
  have c1 : (W0.setCell ⟨w.heap.size,0,none⟩ (.bool false)).cell? ⟨w.heap.size,1,none⟩ = some (.slice none 0 0):=(b2.set_ 0 (.bool false)).cell 1
  have f1:=(b2.set_ 0 (.bool false)).frozen 1
  have HG : Hid (zkM w (sgI false x) (.returned (.agg #[.bool false,.slice A n c])) ((W0.setCell ⟨w.heap.size,0,none⟩ (.bool false)).setCell ⟨w.heap.size,1,none⟩ (.slice A n c))) :=
   ⟨false,A,n,c,rfl,⟨by rw [HSX.out]; rfl,by rw [HSA.out]; exact ziJ hh b2 _ _ _ _⟩,zao _ (Nat.le_refl _) (zao _ (Nat.le_refl _) hB)⟩
  clear hk9 b2 hh hB
  go_wp2
  refine bodyPost_ret (v:=.agg #[.bool false,.slice A n c]) (by simp [results,Tryz.results42,go_sem,r0,r1]) rfl ?_
  exact HG.out
 ·have hd : decide ((0 : Int) < (n : Int)) = decide (0 < n):=by by_cases h : 0 < n <;> simp [h]
  obtain ⟨d,hd2⟩ : ∃ d,decide (0 < n) = d:=⟨_,rfl⟩
  rw [hd2] at hd HSX
  have hd3 : decide ((n : Int) > 0) = d:=hd
  go_enter Tryz.func42,Tryz.ntmps42
  generalize hW : w.alloc (.cells #[.bool false,.slice none 0 0] 38) = W0 at *
  have hk9:=(b2.set_ 0 (.bool d)).set_ 1 (.slice A n c)
  have r0:=hk9.cell 0
  have r1:=hk9.cell 1
  have c0:=b2.cell 0
  have f0:=b2.frozen 0
  have c1 : (W0.setCell ⟨w.heap.size,0,none⟩ (.bool d)).cell? ⟨w.heap.size,1,none⟩ = some (.slice none 0 0):=(b2.set_ 0 (.bool d)).cell 1
  have f1:=(b2.set_ 0 (.bool d)).frozen 1
  have HG : Hid (zkM w (sgI true x) (.returned (.agg #[.bool d,.slice A n c])) ((W0.setCell ⟨w.heap.size,0,none⟩ (.bool d)).setCell ⟨w.heap.size,1,none⟩ (.slice A n c))) :=
   ⟨d,A,n,c,rfl,⟨by rw [HSX.out]; rfl,by rw [HSA.out]; exact ziJ hh b2 _ _ _ _⟩,zao _ (Nat.le_refl _) (zao _ (Nat.le_refl _) hB)⟩
  clear hk9 b2 hh hB
  go_wp2
  refine bodyPost_ret (v:=.agg #[.bool d,.slice A n c]) (by simp [results,Tryz.results42,go_sem,r0,r1]) rfl ?_
  exact HG.out
end Go.Proofs.YtfieheffipfahaaGreatDoor
