/- What this claim leans on. -/
import Derived.Test.YtfieheffipfahaaGreatDoorXE9Api
namespace Go.Proofs.YtfieheffipfahaaGreatDoor
open Go Go.RowKit
set_option maxHeartbeats 16000000
set_option linter.unusedVariables false
def zcv (w : World) (q r : Nat) (b : Bool) (e : Ending) (w' : World) : Prop := ∃ (A : oA9) (n c : Nat) (B : oA9) (m d : Nat),e = .returned (.tuple #[.agg #[.slice A n c],.agg #[.slice B m d],.bool b]) ∧ zaf w' q A n c ∧ zaf w' r B m d ∧ Below w.heap.size w w'
def zbA (w : World) (x : Nat) (b : Bool) (e : Ending) (w' : World) : Prop := ∃ (A : oA9) (n c : Nat),e = .returned (.tuple #[.agg #[.slice A n c],.bool b]) ∧ zaf w' x A n c ∧ Below w.heap.size w w'
def zfE (w : World) (q x : Nat) (b : Bool) (e : Ending) (w' : World) : Prop := ∃ (A : oA9) (n c : Nat),e = .returned (.tuple #[.agg #[.slice A n c],.int .u64 (x : Int),.bool b]) ∧ zaf w' q A n c ∧ Below w.heap.size w w'
structure QuotC : Prop where
 divMod : ∀ (x y : Nat) (A D : oA9) (n m c d : Nat) (w : World),zaf w x A n c → zaf w y D m d → n ≤ 1073741824 → m ≤ 1073741824 → y ≠ 0 → Calls Tryz.prog 141 #[.agg #[.slice A n c],.agg #[.slice D m d]] w (zcv w (x / y) (x % y) true)
 divModNo : ∀ (x y : Nat) (A D : oA9) (n m c d : Nat) (w : World),zaf w x A n c → zaf w y D m d → n ≤ 1073741824 → m ≤ 1073741824 → y = 0 → Calls Tryz.prog 141 #[.agg #[.slice A n c],.agg #[.slice D m d]] w (zcv w 0 0 false)
 div : ∀ (x y : Nat) (A D : oA9) (n m c d : Nat) (w : World),zaf w x A n c → zaf w y D m d → n ≤ 1073741824 → m ≤ 1073741824 → y ≠ 0 → Calls Tryz.prog 118 #[.agg #[.slice A n c],.agg #[.slice D m d]] w (zbA w (x / y) true)
 mod : ∀ (x y : Nat) (A D : oA9) (n m c d : Nat) (w : World),zaf w x A n c → zaf w y D m d → n ≤ 1073741824 → m ≤ 1073741824 → y ≠ 0 → Calls Tryz.prog 153 #[.agg #[.slice A n c],.agg #[.slice D m d]] w (zbA w (x % y) true)
 byWord : ∀ (x a : Nat) (A : oA9) (n c : Nat) (w : World),zaf w x A n c → n ≤ 1073741824 → a < 18446744073709551616 → a ≠ 0 → Calls Tryz.prog 90 #[.agg #[.slice A n c],.int .u64 a] w (zfE w (x / a) (x % a) true)
 byWordNo : ∀ (x : Nat) (A : oA9) (n c : Nat) (w : World),zaf w x A n c → n ≤ 1073741824 → Calls Tryz.prog 90 #[.agg #[.slice A n c],.int .u64 0] w (zfE w 0 0 false)
def zgl (w : World) (l : List Nat) (e : Ending) (w' : World) : Prop := ∃ v,e = .returned v ∧ w'.ownsRow w.heap.size 5 1 v l.length (zar .u8 l) ∧ Below w.heap.size w w'

set_option maxRecDepth 100000
set_option linter.unusedSimpArgs false
theorem shl_byte {d p : Nat} (hd : d < 256) (hp : p < 8) : IntKind.u64.wrap ((d : Int) * 2 ^ (p * 8)) = ((2 ^ (8 * p) * d : Nat) : Int) := by
 have h3 : 2 ^ (8 * p) * 256 ≤ 18446744073709551616 := by
  rw [show (256 : Nat) = 2 ^ 8 from rfl,← Nat.pow_add]
  exact Nat.le_trans (Nat.pow_le_pow_right (by decide) (show 8 * p + 8 ≤ 64 by omega)) (by decide)
 have h2 : 2 ^ (8 * p) * (d + 1) ≤ 2 ^ (8 * p) * 256 := Nat.mul_le_mul_left _ hd
 have h4 := Nat.two_pow_pos (8 * p)
 rw [Nat.mul_add] at h2
 have e : (d : Int) * 2 ^ (p * 8) = ((2 ^ (8 * p) * d : Nat) : Int) := by rw [Nat.mul_comm p 8,Nat.mul_comm (2 ^ (8 * p)) d]; simp
 rw [e,zgC,Nat.mod_eq_of_lt (by omega)]
theorem or_byte {a d p : Nat} (ha : a < 2 ^ (8 * p)) (hd : d < 256) (hp : p < 8) : bits .or .u64 (a : Int) ((2 ^ (8 * p) * d : Nat) : Int) = ((2 ^ (8 * p) * d + a : Nat) : Int) := by
 have h3 : 2 ^ (8 * p) * 256 ≤ 18446744073709551616 := by
  rw [show (256 : Nat) = 2 ^ 8 from rfl,← Nat.pow_add]
  exact Nat.le_trans (Nat.pow_le_pow_right (by decide) (show 8 * p + 8 ≤ 64 by omega)) (by decide)
 have h2 : 2 ^ (8 * p) * (d + 1) ≤ 2 ^ (8 * p) * 256 := Nat.mul_le_mul_left _ hd
 rw [Nat.mul_add] at h2
 exact zke ha (by omega)
theorem parse_no (l : List Nat) (A : oA9) (n c : Nat) (w : World) (hr : zan w w.heap.size 1 A n (zar .u8 l)) (hd : Dgs 256 l) (hp : zbE l = false) :
  Calls Tryz.prog 126 #[.slice A n c] w (zbA w 0 false) := by
 obtain ⟨hB,b2,b5⟩ := zav w 29 #[.slice none 0 0]
 have HP := lh9 (zfO l A n c _ (((hr.below hB).more (by simp)) : zan (w.alloc (.cells #[.slice none 0 0] 29)) _ 1 A n (zar .u8 l)) hd)
 rw [hp] at HP
 clear hr hd hp
 go_enter Tryz.func126,Tryz.ntmps126
 go_wp2_with fail
 refine HP.out.mono ?_
 rintro e w1 ⟨rfl,rfl⟩
 clear HP b5
 generalize w.alloc (.cells #[.slice none 0 0] 29) = W at *
 have c1 := b2.cell 0
 have f1 := b2.frozen 0
 have p4 : zbG W w.heap.size (.slice none 0 0) := ⟨_,b2⟩
 have r4 := (p4.set_ (.slice none 0 0)).cell
 have HG : Hid (Below w.heap.size w (W.setCell ⟨w.heap.size,0,none⟩ (.slice none 0 0))) := hB.setCell (Nat.le_refl _) _
 clear b2 p4 hB
 go_wp2
 refine bodyPost_ret (v := .tuple #[.agg #[.slice none 0 0],.bool false]) (by simp [results,Tryz.results126,go_sem,r4]) rfl ?_
 exact ⟨none,0,0,rfl,zdr _,HG.out⟩
theorem zom (l : List Nat) (A : oA9) (n c : Nat) (w : World) (hr : zan w w.heap.size 1 A n (zar .u8 l)) (hd : Dgs 256 l) (hp : zbE l = true) (hn : n ≤ 274877906944) :
  Calls Tryz.prog 126 #[.slice A n c] w (zbA w (zdu l) true) := by
 obtain ⟨i0,hi0,hz0,hz1,hz2⟩ := info_parts zfT
 obtain ⟨hB,b2,b5⟩ := zav w 29 #[.slice none 0 0]
 have HP := lh9 (zfO l A n c _ (((hr.below hB).more (by simp)) : zan (w.alloc (.cells #[.slice none 0 0] 29)) _ 1 A n (zar .u8 l)) hd)
 rw [hp] at HP
 have HR := lh9 (fun (k : Nat) (hk : k < n) w' (h : Below w.heap.size w w') => zcq (hr.below h) hk)
 have HL := lh9 hr.len_
 have HD := lh9 (fun k => hd.getD (by decide) k)
 have HTL := lh9 (zlU hd)
 have HTS := lh9 (fun k (hk : k < l.length) => zmZ hk)
 have HTA : Hid (zgj l n = zdu l) := by show _ = _; rw [← hr.len_]; exact zoy l
 obtain ⟨K,hK⟩ : ∃ K,(n + 7) / 8 = K := ⟨_,rfl⟩
 have HVW : Hid (zdu l < 18446744073709551616 ^ K) := by
  show _ < _
  rw [← HTA.out]
  refine Nat.lt_of_lt_of_le (zlU hd n) ?_
  rw [p256,p64]
  exact Nat.pow_le_pow_right (by decide) (by omega)
 obtain ⟨Z,hZ⟩ : ∃ Z,madeCells (Value.cells (.int .u64 0)) (K * i0.size) = Z := ⟨_,rfl⟩
 have hmk : ∀ W : World,(Instr.makeSlice 22 (.int .i64 (K : Int)) (.int .i64 (K : Int))).run Tryz.prog W = .ok (.slice (some ⟨W.heap.size,0,none⟩) K K) (W.alloc (.cells Z 81)) := fun W => by
  rw [← hZ]; exact zbL _ _ i0 _ Tryz.underlying22 hi0 hz0 _ _ K K (Nat.le_refl _) (by rw [hz2]; omega) (by omega) W
 have HM : Hid (∀ W : World,zao (W.alloc (.cells Z 81)) 81 W.heap.size K K (List.replicate K 0)) := fun W => by
  have h := zao.made W 81 K (by unfold maxLen; omega)
  rw [← hZ,hz1,Nat.mul_one]
  exact h
 have e0 : ((n : Int) + 8 - 1) / 8 = (K : Int) := by omega
 have HK : Hid (∀ k,k < n → k / 8 < K) := fun k hk => by omega
 have hKn : K ≤ n + 7 := by omega
 clear hr hd hp hZ hK
 go_enter Tryz.func126,Tryz.ntmps126
 go_wp2_with fail
 refine HP.out.mono ?_
 rintro e w1 ⟨rfl,rfl⟩
 clear HP b5
 generalize w.alloc (.cells #[.slice none 0 0] 29) = W at *
 go_wp2
 clear hmk e0
 have hR := HM.out W
 have hB2 := hB.alloc hB.size (.cells Z 81)
 have hk2 := b2.alloc (.cells Z 81)
 have hsz := hB.size
 have hlt1 := b2.lt
 generalize W.alloc (.cells Z 81) = W2 at *
 obtain ⟨r,hr⟩ : ∃ r,W.heap.size = r := ⟨_,rfl⟩
 rw [hr] at hR hsz hlt1 ⊢
 have HF : Hid (zcY (List.replicate K 0) K (zgj l 0)) := zcY.start K
 clear HM hr b2 hB
 go_loopg [18] (n + 1) (fun g i wr => ∃ (k : Nat) (L : List Nat),k ≤ n ∧ n < g + k ∧ i = .int .i64 k ∧ Hid (zcY L K (zgj l k)) ∧ zao wr 81 r K K L ∧ Below w.heap.size w wr ∧ Blk wr w.heap.size 29 #[.slice none 0 0])
 case atStart => exact ⟨0,_,Nat.zero_le _,by omega,rfl,HF,hR,hB2,hk2⟩
 case round =>
  clear HF hR hB2 hk2
  obtain ⟨k,L,hkN,hg,rfl,HF,hR,hB,hk⟩ := hrel
  have i1 : (0 : Int) ≤ (k : Int) := by omega
  by_cases hlt : k < n
  ·have i2 : (k : Int) < (n : Int) := by omega
   have HST0 := HF.out.step (HTL.out k) (HD.out (n - 1 - k)) (HK.out k hlt)
   have hts := HTS.out k (by rw [HL.out]; exact hlt)
   rw [HL.out] at hts
   rw [← hts] at HST0
   have HST := lh9 HST0
   have hrm := wd_room (HTL.out k)
   rw [← HF.out.2 _ (HK.out k hlt)] at hrm
   have hqK := HK.out k hlt
   obtain ⟨ad,rfl,hadb,c2⟩ := HR.out (n - 1 - k) (by omega) wr hB
   have hdl := HD.out (n - 1 - k)
   have hix : (n : Int) - 1 - (k : Int) = ((n - 1 - k : Nat) : Int) := by omega
   obtain ⟨j,hj⟩ : ∃ j,n - 1 - k = j := ⟨_,rfl⟩
   rw [hj] at HST hix c2 hdl
   have hjn : j < n := by omega
   obtain ⟨d,hd⟩ : ∃ d,l.getD j 0 = d := ⟨_,rfl⟩
   rw [hd] at HST c2 hdl
   obtain ⟨q,hq⟩ : ∃ q,k / 8 = q := ⟨_,rfl⟩
   obtain ⟨p,hp⟩ : ∃ q,k % 8 = q := ⟨_,rfl⟩
   have hp8 : p < 8 := by omega
   rw [hq] at HST hrm hqK
   rw [hp] at HST hrm
   have c1 := hR.cell q hqK
   have f1 := hR.frozen q
   obtain ⟨a,ha⟩ : ∃ a,L.getD q 0 = a := ⟨_,rfl⟩
   rw [ha] at HST hrm c1
   have or1 := or_byte hrm hdl hp8
   have sh1 := shl_byte hdl hp8
   obtain ⟨Y,hY⟩ : ∃ y,2 ^ (8 * p) * d = y := ⟨_,rfl⟩
   rw [hY] at HST or1 sh1
   obtain ⟨V,hV⟩ : ∃ y,Y + a = y := ⟨_,rfl⟩
   rw [hV] at HST or1
   have e1 : (k : Int) / 8 = (q : Int) := by omega
   have e2 : (k : Int) % 8 = (p : Int) := by omega
   have e3 : (k : Int).tdiv 8 = (q : Int) := by rw [Int.tdiv_eq_ediv_of_nonneg (by omega)]; exact e1
   have e4 : (k : Int).tmod 8 = (p : Int) := by rw [Int.tmod_eq_emod_of_nonneg (by omega)]; exact e2
   have e5 : IntKind.i64.wrap ((n : Int) - 1) = (n : Int) - 1 := IntWalk.i64_in _ (by omega)
   have e6 : IntKind.i64.wrap (j : Int) = (j : Int) := IntWalk.i64_in _ (by omega)
   have e7 : IntKind.i64.wrap ((p : Int) * 8) = (p : Int) * 8 := IntWalk.i64_in _ (by omega)
   have e8 : ((p : Int) * 8).toNat = p * 8 := by omega
   have e9 : IntKind.u64.wrap (d : Int) = (d : Int) := by simp [IntKind.wrap,IntKind.bits,IntKind.signed]; omega
   have e10 : IntKind.i64.wrap (q : Int) = (q : Int) := IntWalk.i64_in _ (by omega)
   have e11 : IntKind.i64.wrap (p : Int) = (p : Int) := IntWalk.i64_in _ (by omega)
   have j1 : (0 : Int) ≤ (q : Int) := by omega
   have j2 : (q : Int) < (K : Int) := by omega
   have j3 : (0 : Int) ≤ (j : Int) := by omega
   have j4 : (j : Int) < (n : Int) := by omega
   have j5 : (0 : Int) ≤ (p : Int) * 8 := by omega
   have j6 : p * 8 < 64 := by omega
   have HR2 := lh9 (hR.set_ q V hqK)
   have HB2 := lh9 (hB.setCell (p := ⟨r,q,none⟩) hsz (.int .u64 (V : Int)))
   have HK2 := lh9 (hk.far (p := ⟨r,q,none⟩) (by show w.heap.size ≠ r; omega) (.int .u64 (V : Int)))
   clear hR hk hB HF hts hdl hrm hd hq hp ha hY hV hj HST0
   go_wp2_with fail
   go_region
   go_wp2
   go_roundg (n - k)
   case measure => omega
   case rel => exact ⟨k + 1,_,by omega,by omega,by go_num,HST,HR2.out.drew,HB2.out.drew,HK2.out.drew⟩
  ·have hkn : k = n := by omega
   subst hkn
   have hdv := HF.out.dv_ (by rw [HTA.out]; exact HVW.out)
   have hof := zco (some ⟨r,0,none⟩) K K L wr hR.reads HF.out.dgs (Nat.le_refl _) (by omega) (by omega)
   rw [hdv,HTA.out] at hof
   have HOF := lh9 hof
   obtain ⟨x,hx⟩ : ∃ x,zdu l = x := ⟨_,rfl⟩
   rw [hx] at HOF
   have HX := lh9 hx
   clear hdv hof hR HF hx HTA HVW
   go_wp2_with fail
   refine HOF.out.mono ?_
   rintro e w3 ⟨A3,n3,c3,rfl,hw3,hb,hf3⟩
   have hk3 := zac hb hk
   have hB3 := zaa hB hb
   have hf := hk3.frozen 0
   have hc1 := hk3.cell 0
   have p4 : zbG w3 w.heap.size (.slice none 0 0) := ⟨_,hk3⟩
   have r4 := (p4.set_ (.slice A3 n3 c3)).cell
   have hkl := hk.lt
   have HG : Hid (zbA w (zdu l) true (.returned (.tuple #[.agg #[.slice A3 n3 c3],.bool true])) (w3.setCell ⟨w.heap.size,0,none⟩ (.slice A3 n3 c3))) := by
    show zbA _ _ _ _ _
    rw [HX.out]
    exact ⟨A3,n3,c3,rfl,zbT hw3 (fun ad e => by have := hf3 ad e; show ad.block ≠ _; simp; omega) _,hB3.setCell (Nat.le_refl _) _⟩
   clear hw3 hf3 hk3 p4 hB3 hb hk hB
   go_wp2
   refine bodyPost_ret (v := .tuple #[.agg #[.slice A3 n3 c3],.bool true]) (by simp [results,Tryz.results126,go_sem,r4]) rfl ?_
   exact HG.out
theorem zjX (l : List Nat) (A : oA9) (n c : Nat) (w : World) (hr : zan w w.heap.size 1 A n (zar .u8 l)) (hd : Dgs 256 l) (hn : n ≤ 274877906944) :
  Calls Tryz.prog 126 #[.slice A n c] w (zbA w (if zbE l then zdu l else 0) (zbE l)) := by
 cases hp : zbE l
 ·exact parse_no l A n c w hr hd hp
 ·exact zom l A n c w hr hd hp hn
def zcC (w : World) (x : Nat) (e : Ending) (w' : World) : Prop := ∃ (A : oA9) (n c : Nat),e = .returned (.agg #[.slice A n c]) ∧ zaf w' x A n c ∧ Below w.heap.size w w'
def zjH (w : World) (x y : Nat) (e : Ending) (w' : World) : Prop := ∃ (A : oA9) (n c : Nat) (B : oA9) (m d : Nat),e = .returned (.tuple #[.agg #[.slice A n c],.agg #[.slice B m d]]) ∧ zaf w' x A n c ∧ zaf w' y B m d ∧ Below w.heap.size w w'
theorem Sz.gcd {K K' x y : Nat} (h : Sz K x) (h' : Sz K' y) : Sz (K + K') (Nat.gcd x y) := by
 rcases Nat.eq_zero_or_pos x with e | e
 ·rw [e,Nat.gcd_zero_left]; exact h'.up (by omega)
 ·exact (h.of_le (Nat.gcd_le_left y e)).up (by omega)
structure GcdC : Prop where
 of : ∀ (x y : Nat) (A D : oA9) (n m c d : Nat) (w : World),zaf w x A n c → zaf w y D m d → n ≤ 1073741824 → m ≤ 1073741824 → zaj w → Calls Tryz.prog 117 #[.agg #[.slice A n c],.agg #[.slice D m d]] w (zcC w (Nat.gcd x y))
 reduce : ∀ (x y : Nat) (A D : oA9) (n m c d : Nat) (w : World),zaf w x A n c → zaf w y D m d → n ≤ 1073741824 → m ≤ 1073741824 → zaj w → Calls Tryz.prog 81 #[.agg #[.slice A n c],.agg #[.slice D m d]] w (zjH w (x / Nat.gcd x y) (y / Nat.gcd x y))
theorem zbB {P : Program} {f : FuncId} {args : Array Value} {w : World} {z v : Int} (e : z = v) (h : Calls P f args w (zdL w z)) : Calls P f args w fun e w' => e = .returned (.int .i64 v) ∧ Below w.heap.size w w' := by
 subst e; exact h
theorem zbc {P : Program} {f : FuncId} {args : Array Value} {w : World} {b t : Bool} (e : b = t) (h : Calls P f args w fun e w' => e = .returned (.bool b) ∧ Below w.heap.size w w') : Calls P f args w fun e w' => e = .returned (.bool t) ∧ Below w.heap.size w w' := by
 subst e; exact h
theorem zfS {T : World → Prop} (IC : IntC T) (x : Nat) (A : oA9) (n c : Nat) (w : World) (hT : T w) (h : zaf w x A n c) (hn : n ≤ 268435456) : Calls Tryz.prog 38 #[.bool false,.agg #[.slice A n c]] w (zbY w (x : Int)) :=
 IC.new false x A n c w hT h hn
def dOf (l : List Nat) : Nat := if dv 18446744073709551616 l = 0 then 1 else dv 18446744073709551616 l
theorem dOf_sz {K : Nat} {l : List Nat} (h : Sz K (dv 18446744073709551616 l)) (hK : 0 < K) : Sz K (dOf l) := by
 unfold dOf
 split
 ·exact zcx hK
 ·exact h
def fOf (s : Bool) (l e : List Nat) : Rat := Rat.divInt (zOf s l) (dOf e : Int)
theorem zhQ {w : World} {s : Bool} {A E : oA9} {n c u v : Nat} {l e : List Nat} (h : zaK w A n c l) (k : zaK w E u v e) : SzQ 1048576 (fOf s l e) :=
 SzQ.made (by rw [zkD]; exact zfq h) (by rw [Int.natAbs_natCast]; exact dOf_sz (zfq k) (by decide)) (by decide)
theorem cop2 {q : Nat} (h : q % 2 ≠ 0) : Nat.gcd 2 q = 1 := by
 have h1 : Nat.gcd 2 q ∣ 2 := Nat.gcd_dvd_left 2 q
 have h2 := Nat.le_of_dvd (by decide) h1
 have h3 : Nat.gcd 2 q ≠ 0 := fun e => by rw [e] at h1; exact absurd (Nat.eq_zero_of_zero_dvd h1) (by decide)
 have h4 : Nat.gcd 2 q ≠ 2 := fun e => h (Nat.mod_eq_zero_of_dvd (by rw [← e]; exact Nat.gcd_dvd_right 2 q))
 omega
theorem zfu {p q : Nat} (hp : p % 2 = 0) (hq : q % 2 ≠ 0) : Nat.gcd (p / 2) q = Nat.gcd p q := by
 have e : p = 2 * (p / 2) := by omega
 have h : Nat.Coprime 2 q := cop2 hq
 rw [show Nat.gcd p q = Nat.gcd (2 * (p / 2)) q from by rw [← e]]
 exact (h.gcd_mul_left_cancel (p / 2)).symm
theorem gcd_take {p q : Nat} (h : q ≤ p) : Nat.gcd (p - q) q = Nat.gcd p q := by
 obtain ⟨s,rfl⟩ : ∃ s,p = q + s := ⟨p - q,by omega⟩
 rw [Nat.add_sub_cancel_left,Nat.gcd_self_add_left]
theorem zgr (er : Er) (v : Value) (w : World) (hE : zbO w er v) (hg : zdg w) (hn : er.named) :
  Calls Tryz.prog 33 #[v,.int .i64 er.n,.string er.s,.int .i64 er.k] w fun e w' => e = .returned (.bool true) ∧ Below w.heap.size w w' := by
 have HP := lh9 (zgo er v w hE hg)
 have HN := lh9 (fun w' (hb : Below w.heap.size w w') => zmk er v w' (hE.below hb) (hg.below hb))
 have HX := lh9 hn
 clear hE hg hn
 cases er with
 | no =>
   clear HX
   go_enter Tryz.func33,Tryz.ntmps33
   go_wp2_with fail
   refine HP.out.mono ?_
   rintro e w1 ⟨rfl,hb1⟩
   have HN1 := lh9 (HN.out w1 hb1)
   have HB := lh9 hb1
   clear HP HN hb1
   go_wp2_with fail
   refine HN1.out.mono ?_
   rintro e w2 ⟨rfl,hb2⟩
   have hB := zaa HB.out hb2
   clear HN1 HB hb2
   simp only [Er.n,Er.s,Er.k,Er.is]
   go_wp2
   go_ret
   exact ⟨rfl,hB⟩
 | bare n =>
   clear HX
   go_enter Tryz.func33,Tryz.ntmps33
   go_wp2_with fail
   refine HP.out.mono ?_
   rintro e w1 ⟨rfl,hb1⟩
   have HN1 := lh9 (HN.out w1 hb1)
   have HB := lh9 hb1
   clear HP HN hb1
   go_wp2_with fail
   refine HN1.out.mono ?_
   rintro e w2 ⟨rfl,hb2⟩
   have hB := zaa HB.out hb2
   clear HN1 HB hb2
   simp only [Er.n,Er.s,Er.k,Er.is]
   go_wp2
   go_ret
   exact ⟨rfl,hB⟩
 | spot n s k =>
   have hs := HX.out
   rcases hs with rfl | rfl
   all_goals
    clear HX
    go_enter Tryz.func33,Tryz.ntmps33
    go_wp2_with fail
    refine HP.out.mono ?_
    rintro e w1 ⟨rfl,hb1⟩
    have HN1 := lh9 (HN.out w1 hb1)
    have HB := lh9 hb1
    clear HP HN hb1
    go_wp2_with fail
    refine HN1.out.mono ?_
    rintro e w2 ⟨rfl,hb2⟩
    have hB := zaa HB.out hb2
    clear HN1 HB hb2
    simp only [Er.n,Er.s,Er.k,Er.is,zdq,zeh]
    go_wp2
    go_ret
    exact ⟨rfl,hB⟩
end Go.Proofs.YtfieheffipfahaaGreatDoor
