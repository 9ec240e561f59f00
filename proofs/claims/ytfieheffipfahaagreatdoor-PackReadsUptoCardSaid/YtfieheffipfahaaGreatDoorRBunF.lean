/- What this claim leans on. -/
import Derived.Test.YtfieheffipfahaaGreatDoorRBunN
import Derived.Laws.BytesArg
namespace Go.Proofs.YtfieheffipfahaaGreatDoor
open Go Go.RowKit
set_option maxHeartbeats 16000000
set_option linter.unusedVariables false
def chB (o : Nat) (l : List Nat) : List UInt8:=l.reverse.map fun d => UInt8.ofNat (o + d)
theorem chB_len (o : Nat) (l : List Nat) : (chB o l).length = l.length:=by simp [chB]
theorem zkW {o b d : Nat} (ho : o + b ≤ 256) (hd : d < b) : (UInt8.ofNat (o + d)).toNat = o + d:=by
 rw [UInt8.toNat_ofNat']
 exact Nat.mod_eq_of_lt (by omega)
theorem ch_eq {o b d e : Nat} (ho : o + b ≤ 256) (hd : d < b) (he : e < b) : (UInt8.ofNat (o + d) = UInt8.ofNat (o + e)) ↔ d = e:=by
 rw [← UInt8.toNat_inj,zkW ho hd,zkW ho he]; omega
def zcq (x : Nat) : List Nat:=(dg 256 x).reverse
def zbi (l : List Nat) : Bool:=l.head? != some 0
def zcE (l : List Nat) : Nat:=dv 256 l.reverse
theorem zmF {l : List Nat} : Nrm l ↔ zbi l.reverse = true:=by
 unfold Nrm zbi
 rw [List.head?_reverse,bne_iff_ne]
 constructor
 ·intro h e
  have hne : l ≠ []:=fun hh => by rw [hh] at e; cases e
  have h2:=h hne
  rw [List.getLast?_eq_getElem?] at e
  rw [List.getD_eq_getElem?_getD,e] at h2
  exact h2 rfl
 ·intro h hne e
  refine h ?_
  rw [List.getLast?_eq_getElem?]
  have hl : l.length - 1 < l.length:=by have:=List.length_pos_iff.2 hne; omega
  rw [List.getD_eq_getElem?_getD,List.getElem?_eq_getElem hl] at e
  rw [List.getElem?_eq_getElem hl]
  simpa using e
theorem zmb {l : List Nat} (hd : Dgs 256 l) (h : zbi l = true) : zcq (zcE l) = l:=by
 unfold zcq zcE
 rw [← zmg (b:=256) (by decide) (fun d hd' => hd d (by simpa using hd')) (zmF.2 (by rw [List.reverse_reverse]; exact h)),List.reverse_reverse]
theorem zeF (x : Nat) : (zcq x).length = (dg 256 x).length:=by simp [zcq]
def tdg (x : Nat) : List Nat:=if x = 0 then [0] else dg 10 x
def zbf (x : Nat) : List UInt8:=chB 48 (tdg x)
theorem tdg_val (x : Nat) : dv 10 (tdg x) = x:=by
 unfold tdg
 split
 ·rename_i h; rw [h]; rfl
 ·exact zbZ (by decide) x
theorem zpa (x : Nat) : Dgs 10 (tdg x):=by
 unfold tdg
 split
 ·intro d hd; simp at hd; omega
 ·exact zbE (by decide) x
theorem tdg_pos (x : Nat) : 1 ≤ (tdg x).length:=by
 unfold tdg
 split
 ·exact Nat.le_refl _
 ·rename_i h; exact (zeR (b:=10) (by decide) x h).1
theorem zno (x : Nat) : (zbf x).length = (tdg x).length:=chB_len _ _
def zbm (c : UInt8) : Bool:=decide (48 ≤ c.toNat) && decide (c.toNat ≤ 57)
def okR (s : List UInt8) : Bool:=decide (s ≠ []) && (s.head? != some 48 || decide (s = [48])) && s.all zbm
def zeW (s : List UInt8) : List Nat:=(s.map fun c => c.toNat - 48).reverse
def zaG (s : List UInt8) : Nat:=dv 10 (zeW s)
theorem zix {s : List UInt8} (h : s.all zbm = true) : Dgs 10 (zeW s):=fun d hd => by
 unfold zeW at hd
 simp only [List.mem_reverse,List.mem_map] at hd
 obtain ⟨c,hc,rfl⟩:=hd
 have:=List.all_eq_true.1 h c hc
 unfold zbm at this
 simp at this
 omega
theorem ch_digB {s : List UInt8} (h : s.all zbm = true) : chB 48 (zeW s) = s:=by
 unfold chB zeW
 rw [List.reverse_reverse,List.map_map]
 refine (List.map_congr_left (g:=id) fun c hc => ?_).trans (List.map_id _)
 have:=List.all_eq_true.1 h c hc
 unfold zbm at this
 simp at this
 show UInt8.ofNat (48 + (c.toNat - 48)) = c
 rw [show 48 + (c.toNat - 48) = c.toNat by omega]
 exact UInt8.ofNat_toNat
theorem digB_ch {l : List Nat} (h : Dgs 10 l) : zeW (chB 48 l) = l:=by
 unfold chB zeW
 rw [List.map_map,← List.map_reverse,List.reverse_reverse]
 refine (List.map_congr_left (g:=id) fun d hd => ?_).trans (List.map_id _)
 show (UInt8.ofNat (48 + d)).toNat - 48 = d
 rw [zkW (b:=10) (by decide) (h d hd)]
 omega
theorem ch_all {l : List Nat} (h : Dgs 10 l) : (chB 48 l).all zbm = true:=by
 refine List.all_eq_true.2 fun c hc => ?_
 unfold chB at hc
 simp only [List.mem_map,List.mem_reverse] at hc
 obtain ⟨d,hd,rfl⟩:=hc
 have:=h d hd
 unfold zbm
 rw [zkW (b:=10) (by decide) this]
 simp; omega
theorem tdg_digB {s : List UInt8} (h : okR s = true) : tdg (zaG s) = zeW s:=by
 unfold okR at h
 simp only [Bool.and_eq_true,Bool.or_eq_true,decide_eq_true_eq,bne_iff_ne,ne_eq] at h
 obtain ⟨⟨hne,hh⟩,ha⟩:=h
 rcases hh with hh | rfl
 ·match s,hne,hh,ha with
  | c :: t,_,hh,ha =>
    have hc : c.toNat ≠ 48:=fun e => hh (by
     show some c = some 48
     rw [← UInt8.ofNat_toNat (x:=c),e]; rfl)
    have hd:=zix ha
    have hcd:=List.all_eq_true.1 ha c (by simp)
    unfold zbm at hcd
    simp at hcd
    have hn : Nrm (zeW (c :: t)):=fun _ => by
     unfold zeW
     rw [List.map_cons,List.reverse_cons,List.length_append,List.length_reverse,List.getD_eq_getElem?_getD]
     rw [List.getElem?_append_right (by simp)]
     simp; omega
    have e:=zmg (b:=10) (by decide) hd hn
    unfold zaG
    unfold tdg
    rw [if_neg,← e]
    intro h0
    rw [h0] at e
    have : (zeW (c :: t)).length = 0:=by rw [e]; rfl
    simp [zeW] at this
 ·rfl
theorem zhk {s : List UInt8} (h : okR s = true) : zbf (zaG s) = s:=by
 have ha : s.all zbm = true:=by
  unfold okR at h
  simp only [Bool.and_eq_true] at h
  exact h.2
 unfold zbf
 rw [tdg_digB h,ch_digB ha]
theorem zfA (x : Nat) : zaG (zbf x) = x:=by unfold zaG zbf; rw [digB_ch (zpa x),tdg_val]
theorem zfN (x : Nat) : okR (zbf x) = true:=by
 unfold okR
 have hp:=tdg_pos x
 rw [← zno] at hp
 have hne : zbf x ≠ []:=fun e => by rw [e] at hp; simp at hp
 have ha : (zbf x).all zbm = true:=ch_all (zpa x)
 simp only [Bool.and_eq_true,Bool.or_eq_true,decide_eq_true_eq,bne_iff_ne,ne_eq]
 refine ⟨⟨hne,?_⟩,ha⟩
 by_cases hx : x = 0
 ·right; subst hx; rfl
 ·left
  have hn:=zmF.1 (nrm_dg (b:=10) (by decide) x)
  unfold zbi at hn
  rw [bne_iff_ne] at hn
  intro e
  refine hn ?_
  unfold zbf tdg chB at e
  rw [if_neg hx,List.head?_map] at e
  cases hq : (dg 10 x).reverse.head? with
  | none => rw [hq] at e; cases e
  | some d =>
    rw [hq] at e
    have hd : d < 10:=zbE (by decide) x d (by have:=List.mem_of_mem_head? hq; simpa using this)
    have e2 : UInt8.ofNat (48 + d) = UInt8.ofNat (48 + 0):=Option.some.inj e
    have:=(ch_eq (o:=48) (b:=10) (by decide) hd (by decide)).1 e2
    rw [this]
def strL (l : List Nat) : ByteArray:=⟨(l.map UInt8.ofNat).toArray⟩
theorem zeL {P : Program} (src dst e : TypeId) (hs : P.underlying src = some (.slice e)) (he : P.underlying e = some (.int .u8)) (hd : P.underlying dst = some .string) {w : World} {B n c : Nat} {A : oA9} {l : List Nat} (h : zas w B 1 A n (zaq .u8 l)) :
  (convert src dst (.slice A n c)).run P w = .ok (.string (strL l)) w:=by
 have hl:=h.len_
 rcases A with _ | ad
 ·have hn : n = 0:=by
   rcases Nat.eq_zero_or_pos n with h0 | h0
   ·exact h0
   ·obtain ⟨ad,e1,_⟩:=h.2 h0
    cases e1
  rw [hn] at hl
  rw [List.eq_nil_of_length_eq_zero hl]
  exact run_convert_bytes_nil w src e hs he n c dst hd
 ·rw [run_convert_bytes_string w src dst e _ n c hs he hd]
  have hc : ∀ j v,(zaq .u8 l)[j]? = some v → w.cell? (ad.add j) = some v:=by
   intro j v hv
   rcases Nat.eq_zero_or_pos n with h0 | h0
   ·rw [h0] at hl
    rw [List.eq_nil_of_length_eq_zero hl] at hv
    simp [zaq] at hv
   ·obtain ⟨ad',e1,_,hc⟩:=h.2 h0
    injection e1 with e1
    subst e1
    exact hc j v hv
  have hld:=run_loadCells_list (P:=P) w ad (zaq .u8 l) hc
  rw [zaC,hl] at hld
  have e1 : (zaq .u8 l).toArray = ((l.map fun d => ((d : Nat) : Int)).map (Value.int .u8)).toArray:=by
   unfold zaq
   rw [List.map_map]
   rfl
  rw [e1] at hld
  rw [run_bytesToString w ad n c _ hld,foldl_push_bytes]
  refine congrArg (fun s => Result.ok (Value.string s) w) ?_
  unfold strL
  rw [List.map_map]
  simp [ByteArray.empty,ByteArray.emptyWithCapacity]
  rfl
def zau (s : List UInt8) : ByteArray:=⟨s.toArray⟩
theorem zaI (s : List UInt8) : (zau s).data.toList = s:=rfl
theorem zay (s : List UInt8) : (zau s).size = s.length:=by simp [zau,ByteArray.size]
theorem zlD (s : ByteArray) : zau s.data.toList = s:=rfl
theorem str_eql (s t : ByteArray) (b : Bool) (h : decide (s.data.toList = t.data.toList) = b) : (s.toList == t.toList) = b:=by
 rw [ByteArray.toList_eq,ByteArray.toList_eq,← h]
 by_cases e : s.data.toList = t.data.toList
 ·rw [e,beq_self_eq_true]; simp
 ·rw [beq_eq_false_iff_ne.2 e]; simp [e]
theorem zcN (s : ByteArray) (l : List UInt8) (b : Bool) (h : decide (s.data.toList = l) = b) : (s.toList == l) = b:=by
 rw [ByteArray.toList_eq,← h]
 by_cases e : s.data.toList = l
 ·rw [e,beq_self_eq_true]; simp
 ·rw [beq_eq_false_iff_ne.2 e]; simp [e]
theorem zdG (ad : Addr) : ad.add 0 = ad:=by
 obtain ⟨b,o,s⟩:=ad
 cases s <;> simp [Addr.add]
theorem pow64 (K : Nat) : (18446744073709551616 : Nat) ^ K = 2 ^ (64 * K):=by rw [show (18446744073709551616 : Nat) = 2 ^ 64 from rfl,← Nat.pow_mul]
theorem zmc {K x : Nat} (h : Sz K x) : (zcq x).length ≤ 8 * K:=by
 rw [zeF]
 refine zaT (by decide) _ _ (Nat.lt_of_lt_of_le h ?_)
 rw [pow64,show (256 : Nat) = 2 ^ 8 from rfl,← Nat.pow_mul,← Nat.mul_assoc]
 exact Nat.le_refl _
theorem zdU {K x : Nat} (h : Sz K x) : (zbf x).length ≤ 64 * K + 1:=by
 rw [zno]
 unfold tdg
 split
 ·simp
 ·refine Nat.le_succ_of_le (zaT (by decide) _ _ (Nat.lt_of_lt_of_le h ?_))
  rw [pow64]
  exact Nat.pow_le_pow_left (by decide) _
theorem valP_sz {l : List Nat} {n : Nat} (hd : Dgs 256 l) (h : l.length ≤ n) : Sz n (zcE l):=by
 have h1:=zbQ (b:=256) (l:=l.reverse) (fun d hd' => hd d (by simpa using hd'))
 rw [List.length_reverse] at h1
 exact Nat.lt_of_lt_of_le h1 (Nat.le_trans (Nat.pow_le_pow_left (by decide) _) (Nat.pow_le_pow_right (by decide) h))
theorem zbK (n : Nat) : Sz n 0:=Nat.pow_pos (by decide)
theorem zeN (s : ByteArray) : s.data.toList.length = s.size:=by rw [Array.length_toList]; rfl
def zgd (s : List UInt8) : Bool:=decide (s ≠ []) && (s.head? != some 48 || decide (s = [48]))
theorem zgT {P : Program} {t : TypeId} (ht : P.underlying t = some .string) (s : ByteArray) (k : Nat) (h : k < s.size) (w : World) : (Instr.index t (.string s) (.int .i64 (k : Int))).run P w = .ok (.int .u8 (((s.data.toList.getD k 0).toNat : Nat) : Int)) w:=by
 rw [run_index_string w t s .i64 k ht,dif_pos ⟨by omega,by omega⟩]
 have e : (s[(k : Int).toNat]'(by omega)) = s.data.toList.getD k 0:=by
  have hk : k < s.data.toList.length:=by rw [zeN]; exact h
  rw [List.getD_eq_getElem?_getD,List.getElem?_eq_getElem hk]
  rfl
 rw [e]
theorem znR (x : Nat) : (dg 256 x).length = (bitLen x + 7) / 8:=by
 by_cases hx : x = 0
 ·subst hx; rfl
 ·obtain ⟨h1,h2⟩:=zeR (b:=256) (by decide) x hx
  have h3:=zaU (b:=256) (by decide) x
  have h4:=Nat.log2_self_le hx
  have h5:=Nat.lt_log2_self (n:=x)
  have e : ∀ k,(256 : Nat) ^ k = 2 ^ (8 * k):=fun k => by rw [show (256 : Nat) = 2 ^ 8 from rfl,← Nat.pow_mul]
  rw [e] at h2 h3
  have h6:=(Nat.pow_lt_pow_iff_right (a:=2) (by decide)).1 (Nat.lt_of_le_of_lt h2 h5)
  have h7:=(Nat.pow_lt_pow_iff_right (a:=2) (by decide)).1 (Nat.lt_of_le_of_lt h4 h3)
  unfold bitLen
  rw [if_neg hx]
  omega
theorem zhm (l : List UInt8) {k : Nat} (h : k < l.length) : zaG (l.take (k + 1)) = zaG (l.take k) * 10 + ((l.getD k 0).toNat - 48):=by
 unfold zaG zeW
 rw [List.take_succ_eq_append_getElem h,List.map_append,List.reverse_append,List.map_singleton,List.reverse_singleton,List.singleton_append]
 show (l[k].toNat - 48) + 10 * _ = _
 rw [List.getD_eq_getElem?_getD,List.getElem?_eq_getElem h,Nat.add_comm,Nat.mul_comm]
 rfl
theorem znr {l : List UInt8} (hd : l.all zbm = true) : (dg 65536 (zaG l)).length ≤ l.length:=by
 have h1:=zbQ (zix hd)
 have e : (zeW l).length = l.length:=by simp [zeW]
 rw [e] at h1
 exact zaT (by decide) _ _ (Nat.lt_of_lt_of_le h1 (Nat.pow_le_pow_left (by decide) _))
theorem zfm (l : List UInt8) : okR l = (zgd l && l.all zbm):=rfl
theorem zkO {l : List UInt8} {k : Nat} (h : k < l.length) (hb : zbm (l.getD k 0) = false) : l.all zbm = false:=by
 cases ha : l.all zbm
 ·rfl
 ·have:=List.all_eq_true.1 ha (l[k]) (List.getElem_mem h)
  rw [List.getD_eq_getElem?_getD,List.getElem?_eq_getElem h] at hb
  have hb' : zbm l[k] = false:=hb
  rw [this] at hb'
  cases hb'
theorem zig {l : List UInt8} {k : Nat} (h : k < l.length) (ha : (l.take k).all zbm = true) (hb : zbm (l.getD k 0) = true) : (l.take (k + 1)).all zbm = true:=by
 rw [List.take_succ_eq_append_getElem h,List.all_append,ha]
 rw [List.getD_eq_getElem?_getD,List.getElem?_eq_getElem h] at hb
 have hb' : zbm l[k] = true:=hb
 simp [hb']
def zbn (z : Int) : List UInt8:=if z < 0 then 45 :: zbf z.natAbs else zbf z.natAbs
def zbc (s : List UInt8) : List UInt8:=if s.head? = some 45 then s.drop 1 else s
def zcQ (s : List UInt8) : Bool:=decide (s.head? = some 45)
def okI (s : List UInt8) : Bool:=okR (zbc s) && !(zcQ s && decide (zaG (zbc s) = 0))
def zbB (s : List UInt8) : Int:=if zcQ s then -(zaG (zbc s) : Int) else (zaG (zbc s) : Int)
theorem zkD (x : Nat) : (zbf x).head? ≠ some 45:=by
 have h:=zfN x
 unfold okR at h
 simp only [Bool.and_eq_true] at h
 intro e
 cases hs : zbf x with
 | nil => rw [hs] at e; cases e
 | cons c t =>
   rw [hs] at e
   have hc : c = 45:=Option.some.inj e
   have h2:=List.all_eq_true.1 h.2 c (by rw [hs]; simp)
   rw [hc] at h2
   exact absurd h2 (by decide)
theorem ziq (z : Int) : zbc (zbn z) = zbf z.natAbs:=by
 unfold zbc zbn
 by_cases h : z < 0
 ·rw [if_pos h]; rfl
 ·rw [if_neg h,if_neg (zkD _)]
theorem zkl (z : Int) : zcQ (zbn z) = decide (z < 0):=by
 unfold zcQ zbn
 by_cases h : z < 0
 ·rw [if_pos h]; simp [h]
 ·rw [if_neg h]; simp [h,zkD]
theorem zmI (z : Int) : okI (zbn z) = true:=by
 unfold okI
 rw [ziq,zkl,zfN,zfA]
 simp; omega
theorem zkI (z : Int) : zbB (zbn z) = z:=by
 unfold zbB
 rw [zkl,ziq,zfA]
 by_cases h : z < 0
 ·simp [h]; omega
 ·simp [h]; omega
theorem zoz {s : List UInt8} (h : okI s = true) : zbn (zbB s) = s:=by
 unfold okI at h
 simp only [Bool.and_eq_true] at h
 obtain ⟨h1,h2⟩:=h
 unfold zbB
 cases hn : zcQ s
 ·have hb : zbc s = s:=by
   unfold zbc; unfold zcQ at hn
   rw [if_neg (of_decide_eq_false hn)]
  rw [hb] at h1
  unfold zbn
  simp only [Bool.false_eq_true,if_false]
  rw [if_neg (by omega),hb,Int.natAbs_natCast]
  exact zhk h1
 ·have hs : s = 45 :: zbc s:=by
   unfold zcQ at hn
   have hn':=of_decide_eq_true hn
   unfold zbc
   rw [if_pos hn']
   cases s with
   | nil => cases hn'
   | cons c t => rw [Option.some.inj hn']; rfl
  rw [hn] at h2
  simp at h2
  unfold zbn
  simp only [if_true]
  rw [if_pos (by omega),Int.natAbs_neg,Int.natAbs_natCast,zhk h1]
  exact hs.symm
theorem valI_abs (s : List UInt8) : (zbB s).natAbs = zaG (zbc s):=by
 unfold zbB; split <;> omega
def cmpZ (x y : Int) : Int:=if x < y then -1 else if x = y then 0 else 1
theorem zkX (x y : Int) : cmpZ x y = 0 ↔ x = y:=by unfold cmpZ; split <;> (try split) <;> omega
def zeg (x : Int) : Int:=if x < 0 then -1 else if x = 0 then 0 else 1
theorem sgnZ_eq (x : Int) : zeg x = 0 ↔ x = 0:=by unfold zeg; split <;> (try split) <;> omega
end Go.Proofs.YtfieheffipfahaaGreatDoor
