/- What this claim leans on. -/
import Derived.Test.YtfieheffipfahaaGreatDoorXBunN
import Derived.Laws.BytesArg
namespace Go.Proofs.YtfieheffipfahaaGreatDoor
open Go Go.RowKit
set_option maxHeartbeats 16000000
set_option linter.unusedVariables false
def chB (o : Nat) (l : List Nat) : List UInt8 := l.reverse.map fun d => UInt8.ofNat (o + d)
theorem chB_len (o : Nat) (l : List Nat) : (chB o l).length = l.length := by simp [chB]
theorem zjQ {o b d : Nat} (ho : o + b ≤ 256) (hd : d < b) : (UInt8.ofNat (o + d)).toNat = o + d := by
 rw [UInt8.toNat_ofNat']
 exact Nat.mod_eq_of_lt (by omega)
theorem ch_eq {o b d e : Nat} (ho : o + b ≤ 256) (hd : d < b) (he : e < b) : (UInt8.ofNat (o + d) = UInt8.ofNat (o + e)) ↔ d = e := by
 rw [← UInt8.toNat_inj,zjQ ho hd,zjQ ho he]; omega
def zbe (x : Nat) : List Nat := (dg 256 x).reverse
def zbE (l : List Nat) : Bool := l.head? != some 0
def zdu (l : List Nat) : Nat := dv 256 l.reverse
theorem zhE (x : Nat) : zdu (zbe x) = x := by unfold zdu zbe; rw [List.reverse_reverse,zcz (by decide)]
theorem zmu (x : Nat) : Dgs 256 (zbe x) := fun d hd => zbQ (by decide) x d (by unfold zbe at hd; simpa using hd)
theorem zic {l : List Nat} : Nrm l ↔ zbE l.reverse = true := by
 unfold Nrm zbE
 rw [List.head?_reverse,bne_iff_ne]
 constructor
 ·intro h e
  have hne : l ≠ [] := fun hh => by rw [hh] at e; cases e
  have h2 := h hne
  rw [List.getLast?_eq_getElem?] at e
  rw [List.getD_eq_getElem?_getD,e] at h2
  exact h2 rfl
 ·intro h hne e
  refine h ?_
  rw [List.getLast?_eq_getElem?]
  have hl : l.length - 1 < l.length := by have := List.length_pos_iff.2 hne; omega
  rw [List.getD_eq_getElem?_getD,List.getElem?_eq_getElem hl] at e
  rw [List.getElem?_eq_getElem hl]
  simpa using e
theorem zjP (x : Nat) : zbE (zbe x) = true := zic.1 (zmJ (by decide) x)
theorem zkR {l : List Nat} (hd : Dgs 256 l) (h : zbE l = true) : zbe (zdu l) = l := by
 unfold zbe zdu
 rw [← zkV (b := 256) (by decide) (fun d hd' => hd d (by simpa using hd')) (zic.2 (by rw [List.reverse_reverse]; exact h)),List.reverse_reverse]
theorem zec (x : Nat) : (zbe x).length = (dg 256 x).length := by simp [zbe]
def tdg (x : Nat) : List Nat := if x = 0 then [0] else dg 10 x
def zbq (x : Nat) : List UInt8 := chB 48 (tdg x)
theorem tdg_val (x : Nat) : dv 10 (tdg x) = x := by
 unfold tdg
 split
 ·rename_i h; rw [h]; rfl
 ·exact zcz (by decide) x
theorem znH (x : Nat) : Dgs 10 (tdg x) := by
 unfold tdg
 split
 ·intro d hd; simp at hd; omega
 ·exact zbQ (by decide) x
theorem tdg_pos (x : Nat) : 1 ≤ (tdg x).length := by
 unfold tdg
 split
 ·exact Nat.le_refl _
 ·rename_i h; exact (zhJ (b := 10) (by decide) x h).1
theorem zlW (x : Nat) : (zbq x).length = (tdg x).length := chB_len _ _
def zbt (c : UInt8) : Bool := decide (48 ≤ c.toNat) && decide (c.toNat ≤ 57)
def okR (s : List UInt8) : Bool := decide (s ≠ []) && (s.head? != some 48 || decide (s = [48])) && s.all zbt
def zfi (s : List UInt8) : List Nat := (s.map fun c => c.toNat - 48).reverse
def zaT (s : List UInt8) : Nat := dv 10 (zfi s)
theorem zkW {s : List UInt8} (h : s.all zbt = true) : Dgs 10 (zfi s) := fun d hd => by
 unfold zfi at hd
 simp only [List.mem_reverse,List.mem_map] at hd
 obtain ⟨c,hc,rfl⟩ := hd
 have := List.all_eq_true.1 h c hc
 unfold zbt at this
 simp at this
 omega
theorem ch_digB {s : List UInt8} (h : s.all zbt = true) : chB 48 (zfi s) = s := by
 unfold chB zfi
 rw [List.reverse_reverse,List.map_map]
 refine (List.map_congr_left (g := id) fun c hc => ?_).trans (List.map_id _)
 have := List.all_eq_true.1 h c hc
 unfold zbt at this
 simp at this
 show UInt8.ofNat (48 + (c.toNat - 48)) = c
 rw [show 48 + (c.toNat - 48) = c.toNat by omega]
 exact UInt8.ofNat_toNat
theorem digB_ch {l : List Nat} (h : Dgs 10 l) : zfi (chB 48 l) = l := by
 unfold chB zfi
 rw [List.map_map,← List.map_reverse,List.reverse_reverse]
 refine (List.map_congr_left (g := id) fun d hd => ?_).trans (List.map_id _)
 show (UInt8.ofNat (48 + d)).toNat - 48 = d
 rw [zjQ (b := 10) (by decide) (h d hd)]
 omega
theorem ch_all {l : List Nat} (h : Dgs 10 l) : (chB 48 l).all zbt = true := by
 refine List.all_eq_true.2 fun c hc => ?_
 unfold chB at hc
 simp only [List.mem_map,List.mem_reverse] at hc
 obtain ⟨d,hd,rfl⟩ := hc
 have := h d hd
 unfold zbt
 rw [zjQ (b := 10) (by decide) this]
 simp; omega
theorem tdg_digB {s : List UInt8} (h : okR s = true) : tdg (zaT s) = zfi s := by
 unfold okR at h
 simp only [Bool.and_eq_true,Bool.or_eq_true,decide_eq_true_eq,bne_iff_ne,ne_eq] at h
 obtain ⟨⟨hne,hh⟩,ha⟩ := h
 rcases hh with hh | rfl
 ·match s,hne,hh,ha with
  | c :: t,_,hh,ha =>
    have hc : c.toNat ≠ 48 := fun e => hh (by
     show some c = some 48
     rw [← UInt8.ofNat_toNat (x := c),e]; rfl)
    have hd := zkW ha
    have hcd := List.all_eq_true.1 ha c (by simp)
    unfold zbt at hcd
    simp at hcd
    have hn : Nrm (zfi (c :: t)) := fun _ => by
     unfold zfi
     rw [List.map_cons,List.reverse_cons,List.length_append,List.length_reverse,List.getD_eq_getElem?_getD]
     rw [List.getElem?_append_right (by simp)]
     simp; omega
    have e := zkV (b := 10) (by decide) hd hn
    unfold zaT
    unfold tdg
    rw [if_neg,← e]
    intro h0
    rw [h0] at e
    have : (zfi (c :: t)).length = 0 := by rw [e]; rfl
    simp [zfi] at this
 ·rfl
theorem zgA {s : List UInt8} (h : okR s = true) : zbq (zaT s) = s := by
 have ha : s.all zbt = true := by
  unfold okR at h
  simp only [Bool.and_eq_true] at h
  exact h.2
 unfold zbq
 rw [tdg_digB h,ch_digB ha]
theorem zeP (x : Nat) : zaT (zbq x) = x := by unfold zaT zbq; rw [digB_ch (znH x),tdg_val]
theorem zff (x : Nat) : okR (zbq x) = true := by
 unfold okR
 have hp := tdg_pos x
 rw [← zlW] at hp
 have hne : zbq x ≠ [] := fun e => by rw [e] at hp; simp at hp
 have ha : (zbq x).all zbt = true := ch_all (znH x)
 simp only [Bool.and_eq_true,Bool.or_eq_true,decide_eq_true_eq,bne_iff_ne,ne_eq]
 refine ⟨⟨hne,?_⟩,ha⟩
 by_cases hx : x = 0
 ·right; subst hx; rfl
 ·left
  have hn := zic.1 (zmJ (b := 10) (by decide) x)
  unfold zbE at hn
  rw [bne_iff_ne] at hn
  intro e
  refine hn ?_
  unfold zbq tdg chB at e
  rw [if_neg hx,List.head?_map] at e
  cases hq : (dg 10 x).reverse.head? with
  | none => rw [hq] at e; cases e
  | some d =>
    rw [hq] at e
    have hd : d < 10 := zbQ (by decide) x d (by have := List.mem_of_mem_head? hq; simpa using this)
    have e2 : UInt8.ofNat (48 + d) = UInt8.ofNat (48 + 0) := Option.some.inj e
    have := (ch_eq (o := 48) (b := 10) (by decide) hd (by decide)).1 e2
    rw [this]
def zgz (l : List Nat) : ByteArray := ⟨(l.map UInt8.ofNat).toArray⟩
theorem zjw (l : List Nat) : (zgz l).data.toList = l.map UInt8.ofNat := rfl
theorem zcF {P : Program} (src dst e : TypeId) (hs : P.underlying src = some (.slice e)) (he : P.underlying e = some (.int .u8)) (hd : P.underlying dst = some .string) {w : World} {B n c : Nat} {A : oA9} {l : List Nat} (h : zan w B 1 A n (zar .u8 l)) :
  (convert src dst (.slice A n c)).run P w = .ok (.string (zgz l)) w := by
 have hl := h.len_
 rcases A with _ | ad
 ·have hn : n = 0 := by
   rcases Nat.eq_zero_or_pos n with h0 | h0
   ·exact h0
   ·obtain ⟨ad,e1,_⟩ := h.2 h0
    cases e1
  rw [hn] at hl
  rw [List.eq_nil_of_length_eq_zero hl]
  exact run_convert_bytes_nil w src e hs he n c dst hd
 ·rw [run_convert_bytes_string w src dst e _ n c hs he hd]
  have hc : ∀ j v,(zar .u8 l)[j]? = some v → w.cell? (ad.add j) = some v := by
   intro j v hv
   rcases Nat.eq_zero_or_pos n with h0 | h0
   ·rw [h0] at hl
    rw [List.eq_nil_of_length_eq_zero hl] at hv
    simp [zar] at hv
   ·obtain ⟨ad',e1,_,hc⟩ := h.2 h0
    injection e1 with e1
    subst e1
    exact hc j v hv
  have hld := run_loadCells_list (P := P) w ad (zar .u8 l) hc
  rw [zaA,hl] at hld
  have e1 : (zar .u8 l).toArray = ((l.map fun d => ((d : Nat) : Int)).map (Value.int .u8)).toArray := by
   unfold zar
   rw [List.map_map]
   rfl
  rw [e1] at hld
  rw [run_bytesToString w ad n c _ hld,foldl_push_bytes]
  refine congrArg (fun s => Result.ok (Value.string s) w) ?_
  unfold zgz
  rw [List.map_map]
  simp [ByteArray.empty,ByteArray.emptyWithCapacity]
  rfl
def zaw (s : List UInt8) : ByteArray := ⟨s.toArray⟩
theorem zaP (s : List UInt8) : (zaw s).data.toList = s := rfl
theorem zaE (s : List UInt8) : (zaw s).size = s.length := by simp [zaw,ByteArray.size]
theorem zhk (s : ByteArray) : zaw s.data.toList = s := rfl
theorem znD (s t : ByteArray) (b : Bool) (h : decide (s.data.toList = t.data.toList) = b) : (s.toList == t.toList) = b := by
 rw [ByteArray.toList_eq,ByteArray.toList_eq,← h]
 by_cases e : s.data.toList = t.data.toList
 ·rw [e,beq_self_eq_true]; simp
 ·rw [beq_eq_false_iff_ne.2 e]; simp [e]
theorem zde (s : ByteArray) (l : List UInt8) (b : Bool) (h : decide (s.data.toList = l) = b) : (s.toList == l) = b := by
 rw [ByteArray.toList_eq,← h]
 by_cases e : s.data.toList = l
 ·rw [e,beq_self_eq_true]; simp
 ·rw [beq_eq_false_iff_ne.2 e]; simp [e]
theorem zgn (ad : Addr) : ad.add 0 = ad := by
 obtain ⟨b,o,s⟩ := ad
 cases s <;> simp [Addr.add]
theorem zjt (K : Nat) : (18446744073709551616 : Nat) ^ K = 2 ^ (64 * K) := by rw [show (18446744073709551616 : Nat) = 2 ^ 64 from rfl,← Nat.pow_mul]
theorem zkS {K x : Nat} (h : Sz K x) : (zbe x).length ≤ 8 * K := by
 rw [zec]
 refine zbn (by decide) _ _ (Nat.lt_of_lt_of_le h ?_)
 rw [zjt,show (256 : Nat) = 2 ^ 8 from rfl,← Nat.pow_mul,← Nat.mul_assoc]
 exact Nat.le_refl _
theorem zei {K x : Nat} (h : Sz K x) : (zbq x).length ≤ 64 * K + 1 := by
 rw [zlW]
 unfold tdg
 split
 ·simp
 ·refine Nat.le_succ_of_le (zbn (by decide) _ _ (Nat.lt_of_lt_of_le h ?_))
  rw [zjt]
  exact Nat.pow_le_pow_left (by decide) _
theorem valP_sz {l : List Nat} {n : Nat} (hd : Dgs 256 l) (h : l.length ≤ n) : Sz n (zdu l) := by
 have h1 := zbR (b := 256) (l := l.reverse) (fun d hd' => hd d (by simpa using hd'))
 rw [List.length_reverse] at h1
 exact Nat.lt_of_lt_of_le h1 (Nat.le_trans (Nat.pow_le_pow_left (by decide) _) (Nat.pow_le_pow_right (by decide) h))
theorem zbC (n : Nat) : Sz n 0 := Nat.pow_pos (by decide)
theorem zfe (s : ByteArray) : s.data.toList.length = s.size := by rw [Array.length_toList]; rfl
def headOk (s : List UInt8) : Bool := decide (s ≠ []) && (s.head? != some 48 || decide (s = [48]))
theorem znE {P : Program} {t : TypeId} (ht : P.underlying t = some .string) (s : ByteArray) (k : Nat) (h : k < s.size) (w : World) : (Instr.index t (.string s) (.int .i64 (k : Int))).run P w = .ok (.int .u8 (((s.data.toList.getD k 0).toNat : Nat) : Int)) w := by
 rw [run_index_string w t s .i64 k ht,dif_pos ⟨by omega,by omega⟩]
 have e : (s[(k : Int).toNat]'(by omega)) = s.data.toList.getD k 0 := by
  have hk : k < s.data.toList.length := by rw [zfe]; exact h
  rw [List.getD_eq_getElem?_getD,List.getElem?_eq_getElem hk]
  rfl
 rw [e]
theorem zfr (x : Nat) : (dg 256 x).length = (bitLen x + 7) / 8 := by
 by_cases hx : x = 0
 ·subst hx; rfl
 ·obtain ⟨h1,h2⟩ := zhJ (b := 256) (by decide) x hx
  have h3 := zbd (b := 256) (by decide) x
  have h4 := Nat.log2_self_le hx
  have h5 := Nat.lt_log2_self (n := x)
  have e : ∀ k,(256 : Nat) ^ k = 2 ^ (8 * k) := fun k => by rw [show (256 : Nat) = 2 ^ 8 from rfl,← Nat.pow_mul]
  rw [e] at h2 h3
  have h6 := (Nat.pow_lt_pow_iff_right (a := 2) (by decide)).1 (Nat.lt_of_le_of_lt h2 h5)
  have h7 := (Nat.pow_lt_pow_iff_right (a := 2) (by decide)).1 (Nat.lt_of_le_of_lt h4 h3)
  unfold bitLen
  rw [if_neg hx]
  omega
theorem zoH (l : List UInt8) {k : Nat} (h : k < l.length) : zaT (l.take (k + 1)) = zaT (l.take k) * 10 + ((l.getD k 0).toNat - 48) := by
 unfold zaT zfi
 rw [List.take_succ_eq_append_getElem h,List.map_append,List.reverse_append,List.map_singleton,List.reverse_singleton,List.singleton_append]
 show (l[k].toNat - 48) + 10 * _ = _
 rw [List.getD_eq_getElem?_getD,List.getElem?_eq_getElem h,Nat.add_comm,Nat.mul_comm]
 rfl
theorem zie (l : List UInt8) : okR l = (headOk l && l.all zbt) := rfl
theorem all_bad {l : List UInt8} {k : Nat} (h : k < l.length) (hb : zbt (l.getD k 0) = false) : l.all zbt = false := by
 cases ha : l.all zbt
 ·rfl
 ·have := List.all_eq_true.1 ha (l[k]) (List.getElem_mem h)
  rw [List.getD_eq_getElem?_getD,List.getElem?_eq_getElem h] at hb
  have hb' : zbt l[k] = false := hb
  rw [this] at hb'
  cases hb'
theorem all_step {l : List UInt8} {k : Nat} (h : k < l.length) (ha : (l.take k).all zbt = true) (hb : zbt (l.getD k 0) = true) : (l.take (k + 1)).all zbt = true := by
 rw [List.take_succ_eq_append_getElem h,List.all_append,ha]
 rw [List.getD_eq_getElem?_getD,List.getElem?_eq_getElem h] at hb
 have hb' : zbt l[k] = true := hb
 simp [hb']
def zbp (z : Int) : List UInt8 := if z < 0 then 45 :: zbq z.natAbs else zbq z.natAbs
def zbm (s : List UInt8) : List UInt8 := if s.head? = some 45 then s.drop 1 else s
def zdH (s : List UInt8) : Bool := decide (s.head? = some 45)
def okI (s : List UInt8) : Bool := okR (zbm s) && !(zdH s && decide (zaT (zbm s) = 0))
def zcc (s : List UInt8) : Int := if zdH s then -(zaT (zbm s) : Int) else (zaT (zbm s) : Int)
theorem zjA (x : Nat) : (zbq x).head? ≠ some 45 := by
 have h := zff x
 unfold okR at h
 simp only [Bool.and_eq_true] at h
 intro e
 cases hs : zbq x with
 | nil => rw [hs] at e; cases e
 | cons c t =>
   rw [hs] at e
   have hc : c = 45 := Option.some.inj e
   have h2 := List.all_eq_true.1 h.2 c (by rw [hs]; simp)
   rw [hc] at h2
   exact absurd h2 (by decide)
theorem zhD (z : Int) : zbm (zbp z) = zbq z.natAbs := by
 unfold zbm zbp
 by_cases h : z < 0
 ·rw [if_pos h]; rfl
 ·rw [if_neg h,if_neg (zjA _)]
theorem zjp (z : Int) : zdH (zbp z) = decide (z < 0) := by
 unfold zdH zbp
 by_cases h : z < 0
 ·rw [if_pos h]; simp [h]
 ·rw [if_neg h]; simp [h,zjA]
theorem zlw (z : Int) : okI (zbp z) = true := by
 unfold okI
 rw [zhD,zjp,zff,zeP]
 simp; omega
theorem zjE (z : Int) : zcc (zbp z) = z := by
 unfold zcc
 rw [zjp,zhD,zeP]
 by_cases h : z < 0
 ·simp [h]; omega
 ·simp [h]; omega
theorem znc {s : List UInt8} (h : okI s = true) : zbp (zcc s) = s := by
 unfold okI at h
 simp only [Bool.and_eq_true] at h
 obtain ⟨h1,h2⟩ := h
 unfold zcc
 cases hn : zdH s
 ·have hb : zbm s = s := by
   unfold zbm; unfold zdH at hn
   rw [if_neg (of_decide_eq_false hn)]
  rw [hb] at h1
  unfold zbp
  simp only [Bool.false_eq_true,if_false]
  rw [if_neg (by omega),hb,Int.natAbs_natCast]
  exact zgA h1
 ·have hs : s = 45 :: zbm s := by
   unfold zdH at hn
   have hn' := of_decide_eq_true hn
   unfold zbm
   rw [if_pos hn']
   cases s with
   | nil => cases hn'
   | cons c t => rw [Option.some.inj hn']; rfl
  rw [hn] at h2
  simp at h2
  unfold zbp
  simp only [if_true]
  rw [if_pos (by omega),Int.natAbs_neg,Int.natAbs_natCast,zgA h1]
  exact hs.symm
theorem valI_abs (s : List UInt8) : (zcc s).natAbs = zaT (zbm s) := by
 unfold zcc; split <;> omega
def cmpZ (x y : Int) : Int := if x < y then -1 else if x = y then 0 else 1
theorem zjR (x y : Int) : cmpZ x y = 0 ↔ x = y := by unfold cmpZ; split <;> (try split) <;> omega
def zgy (x : Int) : Int := if x < 0 then -1 else if x = 0 then 0 else 1
end Go.Proofs.YtfieheffipfahaaGreatDoor
