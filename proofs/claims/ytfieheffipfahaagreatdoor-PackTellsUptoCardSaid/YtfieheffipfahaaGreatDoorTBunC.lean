/- What this claim leans on. -/
import Derived.Test.YtfieheffipfahaaGreatDoorTBunN
import Derived.Laws.BytesArg
namespace Go.Proofs.YtfieheffipfahaaGreatDoor
open Go Go.RowKit
set_option maxHeartbeats 16000000
set_option maxRecDepth 100000
set_option linter.unusedVariables false
theorem znf (x : Int) (w : World) : Calls Tryz.prog 132 #[.int .i64 x] w fun e w' => e = .returned (.bool false) ∧ w = w' := by
 go_enter Tryz.func132,Tryz.ntmps132
 go_wp2
 go_ret
 exact ⟨by simp,rfl⟩
theorem zng (x : Int) (w : World) : Calls Tryz.prog 133 #[.int .u64 x] w fun e w' => e = .returned (.bool false) ∧ w = w' := by
 go_enter Tryz.func133,Tryz.ntmps133
 go_wp2
 go_ret
 exact ⟨by simp,rfl⟩
theorem zkz (x y : Nat) (w : World) : Calls Tryz.prog 110 #[.int .i64 x,.int .i64 y] w fun e w' => e = .returned (.int .i64 (zaY x y)) ∧ w = w' := by
 have C : x < y ∧ Hid (zaY x y = -1) ∨ y < x ∧ Hid (zaY x y = 1) ∨ ¬ x < y ∧ ¬ y < x ∧ Hid (zaY x y = 0) := by
  rcases Nat.lt_trichotomy x y with h | h | h
  ·exact .inl ⟨h,zcj h⟩
  ·exact .inr (.inr ⟨by omega,by omega,zcY h⟩)
  ·exact .inr (.inl ⟨h,zci h⟩)
 rcases C with ⟨h,H⟩ | ⟨h,H⟩ | ⟨h,h',H⟩
 all_goals
  go_enter Tryz.func110,Tryz.ntmps110
  go_wp2_with fail
  refine (znf _ _).mono ?_
  rintro e w' ⟨rfl,rfl⟩
  go_wp2_with fail
  refine (znf _ _).mono ?_
  rintro e w' ⟨rfl,rfl⟩
  go_wp2
  go_ret
  exact ⟨by rw [H.out]; rfl,rfl⟩
theorem zkA (x y : Nat) (w : World) : Calls Tryz.prog 111 #[.int .u64 x,.int .u64 y] w fun e w' => e = .returned (.int .i64 (zaY x y)) ∧ w = w' := by
 have C : x < y ∧ Hid (zaY x y = -1) ∨ y < x ∧ Hid (zaY x y = 1) ∨ ¬ x < y ∧ ¬ y < x ∧ Hid (zaY x y = 0) := by
  rcases Nat.lt_trichotomy x y with h | h | h
  ·exact .inl ⟨h,zcj h⟩
  ·exact .inr (.inr ⟨by omega,by omega,zcY h⟩)
  ·exact .inr (.inl ⟨h,zci h⟩)
 rcases C with ⟨h,H⟩ | ⟨h,H⟩ | ⟨h,h',H⟩
 all_goals
  go_enter Tryz.func111,Tryz.ntmps111
  go_wp2_with fail
  refine (zng _ _).mono ?_
  rintro e w' ⟨rfl,rfl⟩
  go_wp2_with fail
  refine (zng _ _).mono ?_
  rintro e w' ⟨rfl,rfl⟩
  go_wp2
  go_ret
  exact ⟨by rw [H.out]; rfl,rfl⟩
def zdF (w : World) (z : Int) (e : Ending) (w' : World) : Prop := e = .returned (.int .i64 z) ∧ Below w.heap.size w w'
theorem zmp (x y : Nat) (A D : oA9) (m c d : Nat) (w : World) (hA : zaf w x A m c) (hD : zaf w y D m d) (hm : m ≤ 1099511627776) :
  Calls Tryz.prog 66 #[.agg #[.slice A m c],.agg #[.slice D m d]] w (zdF w (zaY x y)) := by
 have hln := hA.len
 have hlm := hD.len
 have H0 : Hid (x / 18446744073709551616 ^ m = y / 18446744073709551616 ^ m) := by
  show _ = _
  rw [Nat.div_eq_of_lt (by rw [← hln]; exact zaD (by decide) x),Nat.div_eq_of_lt (by rw [← hlm]; exact zaD (by decide) y)]
 have hrA := hA.1
 have hrD := hD.1
 clear hln hlm hA hD
 go_enter Tryz.func66,Tryz.ntmps66
 go_wp2_with fail
 have hb0 : Below w.heap.size w ((w.alloc (.cells #[.slice A m c] 29)).alloc (.cells #[.slice D m d] 29)).drew := (((Below.refl _ w).alloc (Nat.le_refl _) _).alloc (by simp) _).drew
 go_region_held3 (fun w' => Below w.heap.size w w' ∧ w'.cell? ⟨w.heap.size,0,none⟩ = some (.slice A m c) ∧ w'.cell? ⟨w.heap.size + 1,0,none⟩ = some (.slice D m d))
  (first | go_keep | (go_split_ands; exact ⟨zac (by assumption) hb,zad hb (by first | assumption | simp),zad hb (by first | assumption | simp)⟩))
  (first
    | (go_at_call 108; refine (zbP x _ _ _ _).mono ?_; rintro e w' ⟨rfl,hb⟩))
 rename_i hH
 obtain ⟨hB,h1,h2⟩ := hH
 clear hb
 go_wp2_with fail
 refine (zbP x _ _ _ _).mono ?_
 rintro e w2 ⟨rfl,hb2⟩
 have hB2 := zac hB hb2
 have g1 := zad hb2 h1
 have g2 := zad hb2 h2
 clear hB hb2 h1 h2 hb0
 go_wp2_with fail
 go_loopg [5,6] (m + 1) (fun g i _ wr => ∃ (k : Nat),k ≤ m ∧ i = .int .i64 ((k : Int) - 1) ∧ Hid (x / 18446744073709551616 ^ k = y / 18446744073709551616 ^ k) ∧ k < g ∧ Below w.heap.size w wr ∧ wr.cell? ⟨w.heap.size,0,none⟩ = some (.slice A m c) ∧ wr.cell? ⟨w.heap.size + 1,0,none⟩ = some (.slice D m d))
 case atStart => exact ⟨m,Nat.le_refl _,rfl,H0,Nat.lt_succ_self _,hB2,g1,g2⟩
 case round =>
  obtain ⟨k,hk,rfl,H,hg,hB,g1,g2⟩ := hrel
  have rA := hrA.below hB
  have rD := hrD.below hB
  by_cases hk0 : k = 0
  ·subst hk0
   have C := lh9 (zcY (x := x) (y := y) (by have := H.out; simpa using this))
   go_wp2
   go_ret
   exact ⟨by rw [C.out]; rfl,hB⟩
  ·obtain ⟨j,rfl⟩ : ∃ j,k = j + 1 := ⟨k - 1,by omega⟩
   obtain ⟨ad,rfl,hadb,h1⟩ := zaP rA (k := j) (by omega)
   obtain ⟨ae,rfl,haeb,h2⟩ := zaP rD (k := j) (by omega)
   rw [zeM] at h1 h2
   have L1 := lh9 (fun h => zhu (b := 18446744073709551616) H.out h)
   have L2 := lh9 (fun h => zhu (b := 18446744073709551616) H.out.symm h)
   have L3 := lh9 (fun h => cmp_eq (b := 18446744073709551616) H.out h)
   obtain ⟨p,hp⟩ : ∃ p,wd x j = p := ⟨_,rfl⟩
   obtain ⟨r,hr⟩ : ∃ p,wd y j = p := ⟨_,rfl⟩
   unfold wd at hp hr
   rw [hp,hr] at L1 L2 L3
   rw [show wd x j = p from hp] at h1
   rw [show wd y j = r from hr] at h2
   clear hp hr
   have CC := lh9 (fun w => zkA p r w)
   have K : (zaY p r = -1 ∧ Hid (zaY x y = -1)) ∨ (zaY p r = 0 ∧ Hid (x / 18446744073709551616 ^ j = y / 18446744073709551616 ^ j)) ∨ (zaY p r = 1 ∧ Hid (zaY x y = 1)) := by
    rcases Nat.lt_trichotomy p r with h | h | h
    ·exact .inl ⟨zcj h,zcj (L1.out h)⟩
    ·exact .inr (.inl ⟨zcY h,L3.out h⟩)
    ·exact .inr (.inr ⟨zci h,zci (L2.out h)⟩)
   clear L1 L2 L3
   rcases K with ⟨e,C⟩ | ⟨e,M⟩ | ⟨e,C⟩
   ·rw [e] at CC
    clear e
    go_wp2_with fail
    have s1 : (0 : Int) ≤ (j : Int) := by omega
    have s2 : (j : Int) < (m : Int) := by omega
    go_quiet ((go_at_call 111; exact zbT (CC.out _)))
    go_wp2
    go_ret
    exact ⟨by rw [C.out]; rfl,zaQ hB _⟩
   ·rw [e] at CC
    clear e
    go_wp2_with fail
    have s1 : (0 : Int) ≤ (j : Int) := by omega
    have s2 : (j : Int) < (m : Int) := by omega
    go_quiet ((go_at_call 111; exact zbT (CC.out _)))
    go_wp2
    go_roundg (j + 1)
    case measure => omega
    case rel => exact ⟨j,by omega,by go_num,M,by omega,zaQ hB _,g1,g2⟩
   ·rw [e] at CC
    clear e
    go_wp2_with fail
    have s1 : (0 : Int) ≤ (j : Int) := by omega
    have s2 : (j : Int) < (m : Int) := by omega
    go_quiet ((go_at_call 111; exact zbT (CC.out _)))
    go_wp2
    go_ret
    exact ⟨by rw [C.out]; rfl,zaQ hB _⟩
theorem zeU (x y : Nat) (A D : oA9) (n m c d : Nat) (w : World) (hA : zaf w x A n c) (hD : zaf w y D m d) (hn : n ≤ 1099511627776) (hm : m ≤ 1099511627776) :
  Calls Tryz.prog 66 #[.agg #[.slice A n c],.agg #[.slice D m d]] w (zdF w (zaY x y)) := by
 have hln := hA.len
 have hlm := hD.len
 by_cases hne : n = m
 ·subst hne
  exact zmp x y A D n c d w hA hD hn
 ·have C : zaY n m = zaY x y := by
   rcases Nat.lt_trichotomy n m with h | h | h
   ·rw [zcj h,zcj (zfm (b := 18446744073709551616) (by decide) (by omega))]
   ·exact absurd h hne
   ·rw [zci h,zci (zfm (b := 18446744073709551616) (by decide) (by omega))]
  have hne' : ((n : Int) == (m : Int)) = false := by simp; omega
  have HN := lh9 hne
  have CC : ∀ w,Calls Tryz.prog 110 #[.int .i64 n,.int .i64 m] w fun e w' => e = .returned (.int .i64 (zaY x y)) ∧ w = w' := fun w => by rw [← C]; exact zkz n m w
  have HC := lh9 CC
  obtain ⟨z,hz⟩ : ∃ z,zaY x y = z := ⟨_,rfl⟩
  rw [hz] at HC ⊢
  clear hln hlm hne C CC hz
  go_enter Tryz.func66,Tryz.ntmps66
  go_wp2_with fail
  have hb0 : Below w.heap.size w ((w.alloc (.cells #[.slice A n c] 29)).alloc (.cells #[.slice D m d] 29)).drew := (((Below.refl _ w).alloc (Nat.le_refl _) _).alloc (by simp) _).drew
  go_region_held3 (fun w' => Below w.heap.size w w' ∧ w'.cell? ⟨w.heap.size,0,none⟩ = some (.slice A n c) ∧ w'.cell? ⟨w.heap.size + 1,0,none⟩ = some (.slice D m d))
   (first | go_keep | (go_split_ands; exact ⟨zac (by assumption) hb,zad hb (by first | assumption | simp),zad hb (by first | assumption | simp)⟩))
   (first
     | (go_at_call 108; refine (zbP x _ _ _ _).mono ?_; rintro e w' ⟨rfl,hb⟩))
  rename_i hH
  obtain ⟨hB,h1,h2⟩ := hH
  clear hb hb0
  go_wp2_with fail
  have hb0 : Below w.heap.size w w'.drew := hB.drew
  go_region_held3 (fun w' => Below w.heap.size w w' ∧ w'.cell? ⟨w.heap.size,0,none⟩ = some (.slice A n c) ∧ w'.cell? ⟨w.heap.size + 1,0,none⟩ = some (.slice D m d))
   (first | go_keep | (go_split_ands; exact ⟨zac (by assumption) hb,zad hb (by first | assumption | simp),zad hb (by first | assumption | simp)⟩))
   (first
     | (go_at_call 108; refine (zbP x _ _ _ _).mono ?_; rintro e w' ⟨rfl,hb⟩)
     | (go_at_call 110; refine (HC.out _).mono ?_; rintro e w' ⟨rfl,rfl⟩))
  obtain ⟨hB,h1,h2⟩ := ‹Below w.heap.size w _ ∧ _›
  go_wp2
  go_ret
  exact ⟨rfl,hB⟩
def chB (o : Nat) (l : List Nat) : List UInt8 := l.reverse.map fun d => UInt8.ofNat (o + d)
theorem chB_len (o : Nat) (l : List Nat) : (chB o l).length = l.length := by simp [chB]
def zbi (x : Nat) : List Nat := (dg 256 x).reverse
def zca (l : List Nat) : Bool := l.head? != some 0
def zeL (l : List Nat) : Nat := dv 256 l.reverse
theorem zdU (x : Nat) : (zbi x).length = (dg 256 x).length := by simp [zbi]
def tdg (x : Nat) : List Nat := if x = 0 then [0] else dg 10 x
def zbr (x : Nat) : List UInt8 := chB 48 (tdg x)
theorem text_len (x : Nat) : (zbr x).length = (tdg x).length := chB_len _ _
def zbE (c : UInt8) : Bool := decide (48 ≤ c.toNat) && decide (c.toNat ≤ 57)
def okR (s : List UInt8) : Bool := decide (s ≠ []) && (s.head? != some 48 || decide (s = [48])) && s.all zbE
def digB (s : List UInt8) : List Nat := (s.map fun c => c.toNat - 48).reverse
def zby (s : List UInt8) : Nat := dv 10 (digB s)
theorem digB_dgs {s : List UInt8} (h : s.all zbE = true) : Dgs 10 (digB s) := fun d hd => by
 unfold digB at hd
 simp only [List.mem_reverse,List.mem_map] at hd
 obtain ⟨c,hc,rfl⟩ := hd
 have := List.all_eq_true.1 h c hc
 unfold zbE at this
 simp at this
 omega
def strL (l : List Nat) : ByteArray := ⟨(l.map UInt8.ofNat).toArray⟩
theorem zcw {P : Program} (src dst e : TypeId) (hs : P.underlying src = some (.slice e)) (he : P.underlying e = some (.int .u8)) (hd : P.underlying dst = some .string) {w : World} {B n c : Nat} {A : oA9} {l : List Nat} (h : zan w B 1 A n (zam .u8 l)) :
  (convert src dst (.slice A n c)).run P w = .ok (.string (strL l)) w := by
 have hl := h.len_
 rcases A with _ | ad
 ·have hn : n = 0 := by
   rcases Nat.eq_zero_or_pos n with h0 | h0
   ·exact h0
   ·obtain ⟨ad,e1,_⟩ := h.2 h0
    cases e1
  rw [hn] at hl
  rw [List.eq_nil_of_length_eq_zero hl]
  exact run_convert_bytes_nil w src e hs he n c dst hd
 ·rw [run_convert_bytes_string w src dst e _ n c hs he hd]
  have hc : ∀ j v,(zam .u8 l)[j]? = some v → w.cell? (ad.add j) = some v := by
   intro j v hv
   rcases Nat.eq_zero_or_pos n with h0 | h0
   ·rw [h0] at hl
    rw [List.eq_nil_of_length_eq_zero hl] at hv
    simp [zam] at hv
   ·obtain ⟨ad',e1,_,hc⟩ := h.2 h0
    injection e1 with e1
    subst e1
    exact hc j v hv
  have hld := run_loadCells_list (P := P) w ad (zam .u8 l) hc
  rw [zat,hl] at hld
  have e1 : (zam .u8 l).toArray = ((l.map fun d => ((d : Nat) : Int)).map (Value.int .u8)).toArray := by
   unfold zam
   rw [List.map_map]
   rfl
  rw [e1] at hld
  rw [run_bytesToString w ad n c _ hld,foldl_push_bytes]
  refine congrArg (fun s => Result.ok (Value.string s) w) ?_
  unfold strL
  rw [List.map_map]
  simp [ByteArray.empty,ByteArray.emptyWithCapacity]
  rfl
def zas (s : List UInt8) : ByteArray := ⟨s.toArray⟩
theorem zbk (s : List UInt8) : (zas s).data.toList = s := rfl
theorem zaI (s : List UInt8) : (zas s).size = s.length := by simp [zas,ByteArray.size]
theorem znr (s : ByteArray) : zas s.data.toList = s := rfl
theorem zcZ (s : ByteArray) (l : List UInt8) (b : Bool) (h : decide (s.data.toList = l) = b) : (s.toList == l) = b := by
 rw [ByteArray.toList_eq,← h]
 by_cases e : s.data.toList = l
 ·rw [e,beq_self_eq_true]; simp
 ·rw [beq_eq_false_iff_ne.2 e]; simp [e]
theorem zeO (ad : Addr) : ad.add 0 = ad := by
 obtain ⟨b,o,s⟩ := ad
 cases s <;> simp [Addr.add]
theorem pow64 (K : Nat) : (18446744073709551616 : Nat) ^ K = 2 ^ (64 * K) := by rw [show (18446744073709551616 : Nat) = 2 ^ 64 from rfl,← Nat.pow_mul]
theorem zkx {K x : Nat} (h : Sz K x) : (zbi x).length ≤ 8 * K := by
 rw [zdU]
 refine zaF (by decide) _ _ (Nat.lt_of_lt_of_le h ?_)
 rw [pow64,show (256 : Nat) = 2 ^ 8 from rfl,← Nat.pow_mul,← Nat.mul_assoc]
 exact Nat.le_refl _
theorem zdo {K x : Nat} (h : Sz K x) : (zbr x).length ≤ 64 * K + 1 := by
 rw [text_len]
 unfold tdg
 split
 ·simp
 ·refine Nat.le_succ_of_le (zaF (by decide) _ _ (Nat.lt_of_lt_of_le h ?_))
  rw [pow64]
  exact Nat.pow_le_pow_left (by decide) _
theorem valP_sz {l : List Nat} {n : Nat} (hd : Dgs 256 l) (h : l.length ≤ n) : Sz n (zeL l) := by
 have h1 := zbu (b := 256) (l := l.reverse) (fun d hd' => hd d (by simpa using hd'))
 rw [List.length_reverse] at h1
 exact Nat.lt_of_lt_of_le h1 (Nat.le_trans (Nat.pow_le_pow_left (by decide) _) (Nat.pow_le_pow_right (by decide) h))
theorem zhf (n : Nat) : Sz n 0 := Nat.pow_pos (by decide)
theorem zjY (s : ByteArray) : s.data.toList.length = s.size := by rw [Array.length_toList]; rfl
def headOk (s : List UInt8) : Bool := decide (s ≠ []) && (s.head? != some 48 || decide (s = [48]))
theorem zns {P : Program} {t : TypeId} (ht : P.underlying t = some .string) (s : ByteArray) (k : Nat) (h : k < s.size) (w : World) : (Instr.index t (.string s) (.int .i64 (k : Int))).run P w = .ok (.int .u8 (((s.data.toList.getD k 0).toNat : Nat) : Int)) w := by
 rw [run_index_string w t s .i64 k ht,dif_pos ⟨by omega,by omega⟩]
 have e : (s[(k : Int).toNat]'(by omega)) = s.data.toList.getD k 0 := by
  have hk : k < s.data.toList.length := by rw [zjY]; exact h
  rw [List.getD_eq_getElem?_getD,List.getElem?_eq_getElem hk]
  rfl
 rw [e]
theorem zma (x : Nat) : (dg 256 x).length = (bitLen x + 7) / 8 := by
 by_cases hx : x = 0
 ·subst hx; rfl
 ·obtain ⟨h1,h2⟩ := zfb (b := 256) (by decide) x hx
  have h3 := zaD (b := 256) (by decide) x
  have h4 := Nat.log2_self_le hx
  have h5 := Nat.lt_log2_self (n := x)
  have e : ∀ k,(256 : Nat) ^ k = 2 ^ (8 * k) := fun k => by rw [show (256 : Nat) = 2 ^ 8 from rfl,← Nat.pow_mul]
  rw [e] at h2 h3
  have h6 := (Nat.pow_lt_pow_iff_right (a := 2) (by decide)).1 (Nat.lt_of_le_of_lt h2 h5)
  have h7 := (Nat.pow_lt_pow_iff_right (a := 2) (by decide)).1 (Nat.lt_of_le_of_lt h4 h3)
  unfold bitLen
  rw [if_neg hx]
  omega
theorem zox (l : List UInt8) {k : Nat} (h : k < l.length) : zby (l.take (k + 1)) = zby (l.take k) * 10 + ((l.getD k 0).toNat - 48) := by
 unfold zby digB
 rw [List.take_succ_eq_append_getElem h,List.map_append,List.reverse_append,List.map_singleton,List.reverse_singleton,List.singleton_append]
 show (l[k].toNat - 48) + 10 * _ = _
 rw [List.getD_eq_getElem?_getD,List.getElem?_eq_getElem h,Nat.add_comm,Nat.mul_comm]
 rfl
theorem okR_head (l : List UInt8) : okR l = (headOk l && l.all zbE) := rfl
theorem all_bad {l : List UInt8} {k : Nat} (h : k < l.length) (hb : zbE (l.getD k 0) = false) : l.all zbE = false := by
 cases ha : l.all zbE
 ·rfl
 ·have := List.all_eq_true.1 ha (l[k]) (List.getElem_mem h)
  rw [List.getD_eq_getElem?_getD,List.getElem?_eq_getElem h] at hb
  have hb' : zbE l[k] = false := hb
  rw [this] at hb'
  cases hb'
theorem all_step {l : List UInt8} {k : Nat} (h : k < l.length) (ha : (l.take k).all zbE = true) (hb : zbE (l.getD k 0) = true) : (l.take (k + 1)).all zbE = true := by
 rw [List.take_succ_eq_append_getElem h,List.all_append,ha]
 rw [List.getD_eq_getElem?_getD,List.getElem?_eq_getElem h] at hb
 have hb' : zbE l[k] = true := hb
 simp [hb']
def zcx (z : Int) : List UInt8 := if z < 0 then 45 :: zbr z.natAbs else zbr z.natAbs
def zbN (s : List UInt8) : List UInt8 := if s.head? = some 45 then s.drop 1 else s
def zeZ (s : List UInt8) : Bool := decide (s.head? = some 45)
def okI (s : List UInt8) : Bool := okR (zbN s) && !(zeZ s && decide (zby (zbN s) = 0))
def valI (s : List UInt8) : Int := if zeZ s then -(zby (zbN s) : Int) else (zby (zbN s) : Int)
def cmpZ (x y : Int) : Int := if x < y then -1 else if x = y then 0 else 1
theorem zju (x y : Int) : cmpZ x y = 0 ↔ x = y := by unfold cmpZ; split <;> (try split) <;> omega
def zgn (x : Int) : Int := if x < 0 then -1 else if x = 0 then 0 else 1
end Go.Proofs.YtfieheffipfahaaGreatDoor
