/- What this claim leans on. -/
import Derived.Test.YtfieheffipfahaaGreatDoorTMeet3
import Derived.Test.YtfieheffipfahaaGreatDoorTBunR
import Derived.Laws.Slices
namespace Go.Proofs.YtfieheffipfahaaGreatDoor
open Go Go.RowKit
set_option maxHeartbeats 16000000
set_option maxRecDepth 100000
set_option linter.unusedVariables false
set_option linter.unusedSimpArgs false
def zaH (w : World) (l : List Nat) (A : oA9) (n c : Nat) : Prop := zan w w.heap.size 1 A n (zam .u8 l) ∧ Dgs 256 l ∧ n ≤ c ∧ c ≤ 9223372036854775807
theorem zaH.below {w w' : World} {l : List Nat} {A : oA9} {n c : Nat} (h : zaH w l A n c) (hb : Below w.heap.size w w') : zaH w' l A n c := ⟨(h.1.below hb).more hb.size,h.2⟩
theorem zaH.len {w : World} {l : List Nat} {A : oA9} {n c : Nat} (h : zaH w l A n c) : l.length = n := h.1.len_
theorem znq (w : World) : (sizeOf (Tryz.prog.elem 42)).run Tryz.prog w = .ok 1 w := by kernel_rfl
theorem ziE (k : Nat) (l : List Nat) : (zam .u8 l).drop k = zam .u8 (l.drop k) := by unfold zam; rw [List.map_drop]
theorem zou (k : Nat) (l : List Nat) : (zam .u8 l).take k = zam .u8 (l.take k) := by unfold zam; rw [List.map_take]
theorem zmF {w : World} {B n k : Nat} {A : oA9} {xs : List Value} (h : zan w B 1 A n xs) (hk : k ≤ n) : zan w B 1 A k (xs.take k) := by
 refine ⟨by rw [List.length_take,h.1]; omega,fun h0 => ?_⟩
 obtain ⟨ad,e,hb,hc⟩ := h.2 (by omega)
 refine ⟨ad,e,hb,fun j u hu => hc j u ?_⟩
 rw [List.getElem?_take] at hu
 split at hu
 ·exact hu
 ·cases hu
theorem zhs {n c k : Nat} (A : oA9) (hk : k ≤ n) : ∃ A',(∀ w,(Instr.slice 42 (.slice A n c) (some (.int .i64 (k : Int))) none none).run Tryz.prog w = .ok (.slice A' (n - k) (c - k)) w) ∧ ∀ w l,zaH w l A n c → zaH w (l.drop k) A' (n - k) (c - k) := by
 refine ⟨if c = k then A else A.map (·.add (k * 1)),fun w => ?_,fun w l h => ⟨?_,fun d hd => h.2.1 d (List.mem_of_mem_drop hd),by have := h.2.2; omega,by have := h.2.2; omega⟩⟩
 ·rw [run_slice_l w 42 A n c Tryz.underlying42 .i64 (k : Int) (by omega) (by omega),znq]
  simp [sliced,Result.andThen]
 ·have h1 := h.1.cut (k := k) (cap := c) hk h.2.2.1
  rw [Nat.mul_one,ziE] at h1
  rw [Nat.mul_one]
  exact h1
theorem znH {n c k m : Nat} (A : oA9) (hk : k ≤ m) (hm : m ≤ n) (hc : n ≤ c) : ∃ A',(∀ w,(Instr.slice 42 (.slice A n c) (some (.int .i64 (k : Int))) (some (.int .i64 (m : Int))) none).run Tryz.prog w = .ok (.slice A' (m - k) (c - k)) w) ∧ ∀ w l,zaH w l A n c → zaH w ((l.drop k).take (m - k)) A' (m - k) (c - k) := by
 refine ⟨if c = k then A else A.map (·.add (k * 1)),fun w => ?_,fun w l h => ⟨?_,fun d hd => h.2.1 d (List.mem_of_mem_drop (List.mem_of_mem_take hd)),by omega,by have := h.2.2; omega⟩⟩
 ·rw [run_slice_lh w 42 A n c Tryz.underlying42 .i64 .i64 (k : Int) (m : Int) (by omega) (by omega) (by omega),znq]
  simp [sliced,Result.andThen]
 ·have h1 := h.1.cut (k := k) (cap := c) (by omega) h.2.2.1
  rw [Nat.mul_one,ziE] at h1
  have h2 := zmF h1 (show m - k ≤ n - k by omega)
  rw [zou] at h2
  rw [Nat.mul_one]
  exact h2
theorem zaH.first {w : World} {l : List Nat} {A : oA9} {n c : Nat} (h : zaH w l A n c) (hn : 0 < n) : ∃ (gb ob : Nat) (ib : Option Nat),A = some ⟨gb,ob,ib⟩ ∧ gb < w.heap.size ∧ l.getD 0 0 < 256 ∧ w.cell? ⟨gb,ob,ib⟩ = some (.int .u8 (l.getD 0 0 : Nat)) := by
 obtain ⟨ad,e,hb,hc⟩ := zaP h.1 (k := 0) hn
 rw [zeO] at hc
 exact ⟨ad.block,ad.off,ad.spot,e,hb,h.2.1.getD (by decide) 0,hc⟩
def zgd (w : World) (x : Nat) (k : Nat) (e : Ending) (w' : World) : Prop := ∃ (A : oA9) (n c : Nat),e = .returned (.tuple #[.agg #[.slice A n c],.int .i64 (k : Int),.nilIface]) ∧ zaf w' x A n c ∧ Below w.heap.size w w'
def zel (w : World) (er : Er) (e : Ending) (w' : World) : Prop := ∃ (et : TypeId) (ex : Value),e = .returned (.tuple #[.agg #[.slice none 0 0],.int .i64 0,.iface et ex]) ∧ zbL w' er (.iface et ex) ∧ Below w.heap.size w w'
def zde (w : World) (t : Er × Rat × Nat) (e : Ending) (w' : World) : Prop := ∃ (b : Bool) (A : oA9) (n c : Nat) (E : oA9) (k f : Nat) (ev : Value),e = .returned (.tuple #[.agg #[.bool b,.slice A n c,.slice E k f],.int .i64 (t.2.2 : Nat),ev]) ∧ zau w' t.2.1 b A n c E k f ∧ zbL w' t.1 ev ∧ Below w.heap.size w w'
def zjl (w : World) (t : Er × Rat) (e : Ending) (w' : World) : Prop := ∃ (b : Bool) (A : oA9) (n c : Nat) (E : oA9) (k f : Nat) (ev : Value),e = .returned (.tuple #[.agg #[.bool b,.slice A n c,.slice E k f],ev]) ∧ zau w' t.2 b A n c E k f ∧ zbL w' t.1 ev ∧ Below w.heap.size w w'
theorem gp1 {w W : World} {x k g : Nat} {t : TypeId} {A : oA9} {n c : Nat} {q : oA9} {r s : Nat} {kz : Int} (h : zaf W x A n c) (hz : kz = (k : Int)) (kd : Blk W g t #[.slice q r s]) (hB : Below w.heap.size w W) (hg : w.heap.size ≤ g) : zgd w x k (.returned (.tuple #[.agg #[.slice A n c],.int .i64 kz,.nilIface])) (W.setCell ⟨g,0,none⟩ (.slice A n c)) :=
 ⟨_,_,_,by rw [hz],zar h kd (NoU.s1 _ _ _) (zbF _ _ _),bl1 _ hg hB⟩
theorem gp0 {w W : World} {er : Er} {g : Nat} {t : TypeId} {et : TypeId} {ex : Value} {q : oA9} {r s : Nat} (h : zbL W er (.iface et ex)) (kd : Blk W g t #[.slice q r s]) (hB : Below w.heap.size w W) (hg : w.heap.size ≤ g) : zel w er (.returned (.tuple #[.agg #[.slice none 0 0],.int .i64 0,.iface et ex])) (W.setCell ⟨g,0,none⟩ (.slice none 0 0)) :=
 ⟨_,_,rfl,zgX h kd (NoU.s1 _ _ _) (zbF _ _ _),bl1 _ hg hB⟩
theorem gd3 {w W : World} {er : Er} {R : Rat} {N : Nat} {g : Nat} {t : TypeId} {b : Bool} {A E : oA9} {n c k f : Nat} {p : Bool} {q q2 : oA9} {r1 s r2 s2 : Nat} {ev : Value} {nz : Int} (h : zau W R b A n c E k f) (he : zbL W er ev) (hn : nz = (N : Int)) (kd : Blk W g t #[.bool p,.slice q r1 s,.slice q2 r2 s2]) (hB : Below w.heap.size w W) (hg : w.heap.size ≤ g) : zde w (er,R,N) (.returned (.tuple #[.agg #[.bool b,.slice A n c,.slice E k f],.int .i64 nz,ev])) (((W.setCell ⟨g,0,none⟩ (.bool b)).setCell ⟨g,1,none⟩ (.slice A n c)).setCell ⟨g,2,none⟩ (.slice E k f)) :=
 ⟨_,_,_,_,_,_,_,_,by rw [hn],zbC h kd (NoU.s3 _ _ _ _ _ _ _) (zcL _ _ _ _ _),zgX he kd (NoU.s3 _ _ _ _ _ _ _) (zcL _ _ _ _ _),bl3 _ _ _ hg hB⟩
theorem gr9 {w W : World} {er : Er} {R : Rat} {g : Nat} {t : TypeId} {b : Bool} {A E : oA9} {n c k f : Nat} {p : Bool} {q q2 : oA9} {r1 s r2 s2 : Nat} {ev : Value} (h : zau W R b A n c E k f) (he : zbL W er ev) (kd : Blk W g t #[.bool p,.slice q r1 s,.slice q2 r2 s2]) (hB : Below w.heap.size w W) (hg : w.heap.size ≤ g) : zjl w (er,R) (.returned (.tuple #[.agg #[.bool b,.slice A n c,.slice E k f],ev])) (((W.setCell ⟨g,0,none⟩ (.bool b)).setCell ⟨g,1,none⟩ (.slice A n c)).setCell ⟨g,2,none⟩ (.slice E k f)) :=
 ⟨_,_,_,_,_,_,_,_,rfl,zbC h kd (NoU.s3 _ _ _ _ _ _ _) (zcL _ _ _ _ _),zgX he kd (NoU.s3 _ _ _ _ _ _ _) (zcL _ _ _ _ _),bl3 _ _ _ hg hB⟩
theorem zbm (t : TypeId) (x : Value) (w : World) : (binOp .neq 44 (.iface t x) .nilIface).run Tryz.prog w = .ok (.bool true) w := run_neq_iface_nil w 44 (by kernel_rfl) t x
theorem zbn (w : World) : (binOp .neq 44 .nilIface .nilIface).run Tryz.prog w = .ok (.bool false) w := run_neq_nil_nil_at w 44 (by kernel_rfl)
theorem inew9 {T : World → Prop} (IC : IntC T) (s : Bool) (x : Nat) (A : oA9) (n c : Nat) (w : World) (hT : T w) (h : zaf w x A n c) (hn : n ≤ 268435456) : Calls Tryz.prog 38 #[.bool s,.agg #[.slice A n c]] w (zbA w (sg9 s x)) := IC.new s x A n c w hT h hn
theorem err_bare (n : Int) (w : World) : zbL w (.bare n) (.iface 47 (.int .i64 n)) := rfl
theorem zmf (w : World) : zbL w .no .nilIface := rfl
theorem ziI (w : World) : zaj w 0 none 0 0 := ⟨zan.none_,Nat.le_refl _,by omega⟩
def GivesH (w : World) (x : Nat) (e : Ending) (w' : World) : Prop := ∃ (A : oA9) (n c : Nat),e = .returned (.slice A n c) ∧ zaj w' x A n c ∧ Below w.heap.size w w'
theorem znW (w : World) (g : Nat) (h : Blk w g 3 #[.int .i64 1]) : zaj w 1 (some ⟨g,0,none⟩) 1 1 := by
 have e : dg 65536 1 = [1] := by
  rw [zds (by decide) (by decide)]
  rfl
 refine ⟨?_,Nat.le_refl _,by omega⟩
 rw [e]
 refine ⟨rfl,fun _ => ⟨_,rfl,h.lt,fun j u hu => ?_⟩⟩
 match j,hu with
 | 0,hu => simp [zam] at hu; subst hu; exact h.cell 0
def ziu (w : World) (q r : Nat) (e : Ending) (w' : World) : Prop := ∃ (A : oA9) (n c : Nat) (B : oA9) (m d : Nat),e = .returned (.tuple #[.slice A n c,.slice B m d]) ∧ zaj w' q A n c ∧ zaj w' r B m d ∧ Below w.heap.size w w'
theorem div_no {m y b : Nat} (hb : b < 2) (h : m % y * 2 + b < y) : (m + m + b) / y = m / y * 2 + 0 ∧ (m + m + b) % y = m % y * 2 + b := by
 have h1 := Nat.div_add_mod m y
 have e : m + m + b = y * (m / y * 2) + (m % y * 2 + b) := by rw [Nat.mul_comm (m / y) 2,Nat.mul_left_comm]; omega
 rw [e,Nat.mul_add_div (by omega),Nat.mul_add_mod,Nat.div_eq_of_lt h,Nat.mod_eq_of_lt h]
 exact ⟨rfl,rfl⟩
theorem div_yes {m y b : Nat} (hy : y ≠ 0) (hb : b < 2) (h : y ≤ m % y * 2 + b) : (m + m + b) / y = m / y * 2 + 0 + 1 ∧ (m + m + b) % y = m % y * 2 + b - y := by
 have h1 := Nat.div_add_mod m y
 have h2 := Nat.mod_lt m (y := y) (by omega)
 have h3 : m % y * 2 + b - y < y := by omega
 have e : m + m + b = y * (m / y * 2 + 1) + (m % y * 2 + b - y) := by rw [Nat.mul_add,Nat.mul_comm (m / y) 2,Nat.mul_left_comm]; omega
 rw [e,Nat.mul_add_div (by omega),Nat.mul_add_mod,Nat.div_eq_of_lt h3,Nat.mod_eq_of_lt h3]
 exact ⟨rfl,rfl⟩
theorem zky (x y : Nat) : decide (0 ≤ zaY x y) = decide (y ≤ x) := by
 rw [Bool.eq_iff_iff]
 simp only [decide_eq_true_eq]
 unfold zaY
 split
 ·omega
 ·split <;> omega
theorem zgO (x y : Nat) (A D : oA9) (n m c d : Nat) (w : World) (hA : zaj w x A n c) (hD : zaj w y D m d) (hn : n ≤ 17179869184) (hm : m ≤ 17179869184) (hy : y ≠ 0) :
  Calls Tryz.prog 86 #[.slice A n c,.slice D m d] w (ziu w (x / y) (x % y)) := by
 have hlx := lh9 hA.len
 have hly := lh9 hD.len
 have HA := lh9 (fun w' (hb : Below w.heap.size w w') => hA.below hb)
 have HD := lh9 (fun w' (hb : Below w.heap.size w w') => hD.below hb)
 have RB := zol x A n c w hA (by omega)
 have hbl : bitLen x ≤ 16 * n := by
  have h1 := zaD (b := 65536) (by decide) x
  rw [← hA.len,show (65536 : Nat) = 2 ^ 16 from rfl,← Nat.pow_mul] at h1
  exact zcC _ _ h1
 have h0 : x / 2 ^ bitLen x = 0 := Nat.div_eq_of_lt (lt_bits x)
 obtain ⟨l,hl⟩ : ∃ l,bitLen x = l := ⟨_,rfl⟩
 rw [hl] at RB hbl h0
 have HRB := lh9 RB
 have H0 := lh9 h0
 clear hA hD RB hl h0
 go_enter Tryz.func86,Tryz.ntmps86
 go_wp2_with fail
 refine HRB.out.mono ?_
 rintro e w' ⟨rfl,rfl⟩
 go_wp2_with fail
 go_loopg [6,7,8] (l + 1) (fun g qs rs ix wr => ∃ (j : Nat) (A1 : oA9) (n1 c1 : Nat) (A2 : oA9) (n2 c2 : Nat),j ≤ l ∧ j < g ∧ ix = .int .i64 ((j : Int) - 1) ∧ qs = .slice A1 n1 c1 ∧ rs = .slice A2 n2 c2 ∧ Hid (zaj wr (x / 2 ^ j / y) A1 n1 c1) ∧ Hid (zaj wr (x / 2 ^ j % y) A2 n2 c2) ∧ Below w.heap.size w wr)
 case atStart =>
  refine ⟨l,none,0,0,none,0,0,Nat.le_refl _,by omega,rfl,rfl,rfl,?_,?_,Below.refl _ _⟩
  ·show zaj _ _ _ _ _; rw [H0.out,Nat.zero_div]; exact ziI _
  ·show zaj _ _ _ _ _; rw [H0.out,Nat.zero_mod]; exact ziI _
 case round =>
  obtain ⟨j,A1,n1,c1,A2,n2,c2,hjl,hg,rfl,rfl,rfl,hq,hr,hB⟩ := hrel
  by_cases hj : j = 0
  ·subst hj
   have e1 := hq.out
   have e2 := hr.out
   rw [Nat.pow_zero,Nat.div_one] at e1 e2
   have HG : Hid (ziu w (x / y) (x % y) (.returned (.tuple #[.slice A1 n1 c1,.slice A2 n2 c2])) wr) := ⟨_,_,_,_,_,_,rfl,e1,e2,hB⟩
   clear hq hr e1 e2
   go_wp2
   go_ret2
   exact HG.out
  ·obtain ⟨i,rfl⟩ : ∃ i,j = i + 1 := ⟨j - 1,by omega⟩
   have hqn : n1 ≤ n := by
    rw [hq.out.len,hlx.out]
    exact zaL (by decide) (Nat.le_trans (Nat.div_le_self _ _) (Nat.div_le_self _ _))
   have hrn : n2 ≤ m := by
    rw [hr.out.len,hly.out]
    exact zaL (by decide) (Nat.le_of_lt (Nat.mod_lt _ (by omega)))
   have hbit : x / 2 ^ i % 2 < 2 := Nat.mod_lt _ (by decide)
   have hst := shr_step x i
   have WB := ref2_bit x i A n c wr (HA.out _ hB) (by omega) (by omega)
   obtain ⟨M,hM⟩ : ∃ M,x / 2 ^ (i + 1) = M := ⟨_,rfl⟩
   obtain ⟨b,hb⟩ : ∃ b,x / 2 ^ i % 2 = b := ⟨_,rfl⟩
   rw [hM] at hq hr hst
   rw [hb] at hst hbit WB
   have S1 := zfp (M % y) 2 b A2 n2 c2 wr hr.out (by omega) (by decide) (by omega)
   have HWB := lh9 WB
   have HS1 := lh9 S1
   have HST := lh9 hst
   have hr1 : (dg 65536 (M % y * 2 + b)).length ≤ n2 + 1 := by
    refine zaF (by decide) _ _ ?_
    have h1 := zaD (b := 65536) (by decide) (M % y)
    rw [← hr.out.len] at h1
    rw [Nat.pow_succ]; omega
   have hq1 : (dg 65536 (M / y * 2 + 0)).length ≤ n1 + 1 := by
    refine zaF (by decide) _ _ ?_
    have h1 := zaD (b := 65536) (by decide) (M / y)
    rw [← hq.out.len] at h1
    rw [Nat.pow_succ]; omega
   clear WB S1 hM hb hr hst
   go_wp2_with fail
   refine HWB.out.mono ?_
   rintro e w' ⟨rfl,rfl⟩
   go_wp2_with fail
   refine HS1.out.mono ?_
   intro e w1 hg1
   obtain ⟨A3,n3,c3,rfl,hh3,hb1⟩ := hg1.elim
   have hB1 := zac hB hb1
   have hn3 : n3 ≤ m + 1 := by rw [hh3.len]; omega
   have HS2 := lh9 (zfp (M / y) 2 0 A1 n1 c1 w1 (hq.out.below hb1) (by omega) (by decide) (by decide))
   have H3 := lh9 hh3
   clear hg1 hh3 hb1 hq HS1
   go_wp2_with fail
   refine HS2.out.mono ?_
   intro e w2 hg2
   obtain ⟨A4,n4,c4,rfl,hh4,hb2⟩ := hg2.elim
   have hB2 := zac hB1 hb2
   have hn4 : n4 ≤ n + 1 := by rw [hh4.len]; omega
   have H3 := lh9 (H3.out.below hb2)
   have H4 := lh9 hh4
   have HCM := lh9 (zhZ (M % y * 2 + b) y A3 D n3 m c3 d w2 H3.out (HD.out _ hB2) (by omega) (by omega))
   clear hg2 hh4 hb2 HS2
   go_wp2_with fail
   refine HCM.out.mono ?_
   rintro e w3 ⟨rfl,q,rfl⟩
   clear HCM
   by_cases hlt : M % y * 2 + b < y
   ·have hd : decide (zaY (M % y * 2 + b) y ≥ 0) = false := by
     show decide (0 ≤ zaY _ _) = false
     rw [zky]; simp; omega
    have hd2 : decide (0 ≤ zaY (M % y * 2 + b) y) = false := hd
    obtain ⟨e1,e2⟩ := div_no hbit hlt
    rw [← HST.out] at e1 e2
    have HQ : Hid (zaj (w2.drewN q) (x / 2 ^ i / y) A4 n4 c4) := by show zaj _ _ _ _ _; rw [e1]; exact H4.out
    have HR : Hid (zaj (w2.drewN q) (x / 2 ^ i % y) A3 n3 c3) := by show zaj _ _ _ _ _; rw [e2]; exact H3.out
    have hB3 := zaQ hB2 q
    obtain ⟨z,hz⟩ : ∃ z,zaY (M % y * 2 + b) y = z := ⟨_,rfl⟩
    rw [hz] at hd hd2 ⊢
    clear e1 e2 hz hlt
    go_wp2
    go_roundg (i + 1)
    case measure => omega
    case rel => exact ⟨i,_,_,_,_,_,_,by omega,by omega,by go_num,rfl,rfl,HQ,HR,hB3⟩
   ·have hd : decide (zaY (M % y * 2 + b) y ≥ 0) = true := by
     show decide (0 ≤ zaY _ _) = true
     rw [zky]; simp; omega
    have hd2 : decide (0 ≤ zaY (M % y * 2 + b) y) = true := hd
    obtain ⟨e1,e2⟩ := div_yes hy hbit (by omega : y ≤ M % y * 2 + b)
    rw [← HST.out] at e1 e2
    have HS3 := lh9 (zeE (M % y * 2 + b) y (by omega) A3 D n3 m c3 d (w2.drewN q) H3.out (HD.out _ (zaQ hB2 q)) (by omega) (by omega))
    have E1 := lh9 e1
    have E2 := lh9 e2
    have hB3 := zaQ hB2 q
    obtain ⟨z,hz⟩ : ∃ z,zaY (M % y * 2 + b) y = z := ⟨_,rfl⟩
    rw [hz] at hd hd2 ⊢
    clear e1 e2 hz hlt
    go_wp2_with fail
    refine HS3.out.mono ?_
    intro e w4 hg3
    obtain ⟨A5,n5,c5,rfl,hh5,hb3⟩ := hg3.elim
    have hB4 := zac hB3 hb3
    have H4b : zaj (w2.drewN q) (M / y * 2 + 0) A4 n4 c4 := H4.out
    have st := zbH w4 (.cells #[.int .i64 1] 3)
    have h1 := znW _ _ (Blk.new w4 3 #[.int .i64 1])
    have HS4 := lh9 (ref2_add (M / y * 2 + 0) 1 A4 (some ⟨w4.heap.size,0,none⟩) n4 1 c4 1 _ ((H4b.below hb3).below st) h1 (by omega) (by omega))
    have H5 := lh9 (hh5.below st)
    have hB5 := zac hB4 st
    clear hg3 hh5 hb3 HS3 H4b h1 st
    go_wp2_with fail
    refine HS4.out.mono ?_
    intro e w5 hg4
    obtain ⟨A6,n6,c6,rfl,hh6,hb4⟩ := hg4.elim
    have hB6 := zac hB5 hb4
    have HQ : Hid (zaj w5 (x / 2 ^ i / y) A6 n6 c6) := by show zaj _ _ _ _ _; rw [E1.out]; exact hh6
    have HR : Hid (zaj w5 (x / 2 ^ i % y) A5 n5 c5) := by show zaj _ _ _ _ _; rw [E2.out]; exact H5.out.below hb4
    clear hg4 hh6 hb4 HS4
    go_wp2
    go_roundg (i + 1)
    case measure => omega
    case rel => exact ⟨i,_,_,_,_,_,_,by omega,by omega,by go_num,rfl,rfl,HQ,HR,hB6⟩
end Go.Proofs.YtfieheffipfahaaGreatDoor
