/- What this claim leans on. -/
import Derived.Test.YtfieheffipfahaaGreatDoorRBunQ
namespace Go.Proofs.YtfieheffipfahaaGreatDoor
open Go Go.RowKit
set_option maxHeartbeats 16000000
set_option linter.unusedVariables false
def zbA (w : World) (t : TypeId) (g cap n : Nat) (L : List Nat) : Prop :=
 ∃ cur,Blk w g t cur ∧ n ≤ cap ∧ cap ≤ maxLen ∧ cur.size = cap ∧ L.length = n ∧ cur.toList.take n = zaq .u8 L
section
variable {w w' : World} {t : TypeId} {g cap n : Nat} {L : List Nat}
theorem zbA.len (h : zbA w t g cap n L) : L.length = n:=by obtain ⟨_,_,_,_,_,h,_⟩:=h; exact h
theorem zbA.room (h : zbA w t g cap n L) : n ≤ cap ∧ cap ≤ maxLen:=by obtain ⟨_,_,h,h2,_⟩:=h; exact ⟨h,h2⟩
theorem zbA.lt (h : zbA w t g cap n L) : g < w.heap.size:=by obtain ⟨_,h,_⟩:=h; exact h.lt
theorem zbA.cell (h : zbA w t g cap n L) (k : Nat) (hk : k < n) : w.cell? ⟨g,k,none⟩ = some (.int .u8 (L.getD k 0 : Nat)):=by
 obtain ⟨cur,hb,h1,h2,h3,h4,h5⟩:=h
 rw [hb.cell k,← Array.getElem?_toList,← zcU .u8 L k (by omega),← h5,List.getElem?_take,if_pos hk]
theorem zbA.frozen (h : zbA w t g cap n L) (k : Nat) : w.frozen? ⟨g,k,none⟩ = false:=by
 obtain ⟨cur,hb,_⟩:=h
 exact hb.frozen k
theorem zbA.set_ (h : zbA w t g cap n L) (k d : Nat) (hk : k < n) : zbA (w.setCell ⟨g,k,none⟩ (.int .u8 (d : Int))) t g cap n (L.set k d):=by
 obtain ⟨cur,hb,h1,h2,h3,h4,h5⟩:=h
 refine ⟨_,hb.set_ k _,h1,h2,by simpa using h3,by simpa using h4,?_⟩
 rw [Array.toList_setIfInBounds,List.take_set,h5]
 unfold zaq
 rw [List.map_set]
theorem zbA.below {B : Nat} (h : zbA w t g cap n L) (hb : Below B w w') (hg : g < B) : zbA w' t g cap n L:=by
 obtain ⟨cur,h0,h1⟩:=h
 exact ⟨cur,h0.below hb hg,h1⟩
theorem zbA.keep (h : zbA w t g cap n L) (hb : Below w.heap.size w w') : zbA w' t g cap n L:=h.below hb h.lt
theorem zbA.drew (h : zbA w t g cap n L) : zbA w.drew t g cap n L:=h
theorem zbA.alloc (h : zbA w t g cap n L) (o : Obj) : zbA (w.alloc o) t g cap n L:=by
 obtain ⟨cur,h0,h1⟩:=h
 exact ⟨cur,h0.alloc o,h1⟩
theorem zbA.far (h : zbA w t g cap n L) {p : Addr} (hp : g ≠ p.block) (u : Value) : zbA (w.setCell p u) t g cap n L:=by
 obtain ⟨cur,h0,h1⟩:=h
 exact ⟨cur,h0.far hp u,h1⟩
theorem zbA.reads (h : zbA w t g cap n L) : zas w w.heap.size 1 (some ⟨g,0,none⟩) n (zaq .u8 L):=by
 have hl:=h.lt
 have hc:=h.cell
 have hn:=h.len
 refine ⟨by rw [zaC]; omega,fun _ => ⟨_,rfl,hl,fun j u hu => ?_⟩⟩
 have hj : j < L.length:=by
  rcases Nat.lt_or_ge j L.length with hj | hj
  ·exact hj
  ·rw [List.getElem?_eq_none (by rw [zaC]; exact hj)] at hu; cases hu
 have e : (⟨g,0,none⟩ : Addr).add j = ⟨g,j,none⟩:=by unfold Addr.add; split <;> simp_all
 rw [e,hc j (by omega),← zcU .u8 L j hj,hu]
theorem zbA.own (h : zbA w t g cap n L) {base : Nat} (hb : base ≤ g) : w.ownsRow base t 1 (.slice (some ⟨g,0,none⟩) n cap) n (zaq .u8 L):=by
 obtain ⟨cur,h0,h1,h2,h3,h4,h5⟩:=h
 exact ⟨by rw [zaC]; omega,.inr ⟨g,cap,cur,rfl,hb,h0,h1,h2,by omega,by rw [Nat.mul_one]; exact h5⟩⟩
theorem zbA.made (w : World) (t : TypeId) (N : Nat) (hN : N ≤ maxLen) : zbA (w.alloc (.cells (madeCells (Value.cells (.int .u8 0)) N) t)) t w.heap.size N N (List.replicate N 0):=by
 refine ⟨_,Blk.new w t _,Nat.le_refl _,hN,size_madeCells _ _,by simp,?_⟩
 show (madeCells #[Value.int .u8 0] N).toList.take N = _
 rw [toList_madeCells_one,List.take_of_length_le (by simp)]
 simp [zaq]
theorem zbA.of_own {base : Nat} {v : Value} {l : List Nat} (h : w.ownsRow base t 1 v n (zaq .u8 l)) (hn : 0 < n) : ∃ g cap,v = .slice (some ⟨g,0,none⟩) n cap ∧ base ≤ g ∧ zbA w t g cap n l:=by
 obtain ⟨h1,h2⟩:=h
 rcases h2 with ⟨_,h⟩ | ⟨g,cap,cur,e,hb,hk,a,b,c,d⟩
 ·omega
 ·refine ⟨g,cap,e,hb,cur,hk,a,b,by omega,by rw [zaC] at h1; omega,?_⟩
  rw [Nat.mul_one] at d
  exact d
end
set_option maxRecDepth 100000
set_option linter.unusedSimpArgs false
theorem zff (x : Nat) (A : oA9) (n c : Nat) (w : World) (hA : zaf w x A n c) (hn : n ≤ 274877906944) :
  Calls Tryz.prog 87 #[.agg #[.slice A n c]] w fun e w' => e = .returned (.int .i64 ((dg 256 x).length : Nat)) ∧ Below w.heap.size w w':=by
 have HBB:=lh9 (znR x)
 have hbl : bitLen x ≤ 64 * n:=zcS _ _ (by rw [← pow64]; have:=zaU (b:=18446744073709551616) (by decide) x; rwa [hA.len] at this)
 have hb1:=zbH w (.cells #[.slice A n c] 29)
 have HC:=lh9 (zgF x A n c _ (hA.below hb1) (by omega))
 obtain ⟨kb,hkb⟩ : ∃ k,bitLen x = k:=⟨_,rfl⟩
 rw [hkb] at HBB hbl HC
 obtain ⟨M,hM⟩ : ∃ m,(dg 256 x).length = m:=⟨_,rfl⟩
 rw [hM] at HBB ⊢
 clear hkb hM hA
 go_enter Tryz.func87,Tryz.ntmps87
 go_wp2_with fail
 refine HC.out.mono ?_
 rintro e w3 ⟨rfl,hb⟩
 have hB:=zac hb1 hb
 clear hb hb1
 go_wp2
 go_ret
 exact ⟨zia (by have:=HBB.out; omega),hB⟩
theorem zgy (l : List Nat) (A : oA9) (n c : Nat) (w : World) (hr : zas w w.heap.size 1 A n (zaq .u8 l)) (hd : Dgs 256 l) :
  Calls Tryz.prog 144 #[.slice A n c] w fun e w' => e = .returned (.bool (zbi l)) ∧ w = w':=by
 have hl:=hr.len_
 have hcase : (n = 0 ∧ zbi l = true) ∨ (0 < n ∧ l.getD 0 0 = 0 ∧ zbi l = false) ∨ (0 < n ∧ l.getD 0 0 ≠ 0 ∧ zbi l = true):=by
  match l,hl with
  | [],hl => exact .inl ⟨by simpa using hl.symm,rfl⟩
  | a :: t,hl =>
    have h0 : 0 < n:=by simp at hl; omega
    by_cases ha : a = 0
    ·exact .inr (.inl ⟨h0,by simpa using ha,by simp [zbi,ha]⟩)
    ·exact .inr (.inr ⟨h0,by simpa using ha,by simp [zbi,ha]⟩)
 rcases hcase with ⟨h0,hp⟩ | ⟨h0,hz,hp⟩ | ⟨h0,hz,hp⟩
 ·rw [hp]
  subst h0
  clear hr hd hl hp
  go_enter Tryz.func144,Tryz.ntmps144
  go_wp2
  go_ret
  exact ⟨rfl,rfl⟩
 ·obtain ⟨ad,rfl,hadb,hc0⟩:=zbg hr (k:=0) h0
  rw [hz] at hc0
  have hc1 : w.cell? ad = some (.int .u8 ((0 : Nat) : Int)):=by rw [← zdG ad]; exact hc0
  rw [hp]
  have i1 : (0 : Int) < (n : Int):=by omega
  have i2 : ((n : Int) == 0) = false:=by rw [beq_eq_false_iff_ne]; omega
  clear hr hd hl hp hz
  go_enter Tryz.func144,Tryz.ntmps144
  go_wp2
  go_ret
  exact ⟨rfl,rfl⟩
 ·obtain ⟨ad,rfl,hadb,hc0⟩:=zbg hr (k:=0) h0
  rw [hp]
  have i0 : (0 : Int) < (n : Int):=by omega
  have i2 : ((n : Int) == 0) = false:=by rw [beq_eq_false_iff_ne]; omega
  obtain ⟨a,ha⟩ : ∃ a,l.getD 0 0 = a:=⟨_,rfl⟩
  rw [ha] at hc0 hz
  have hc1 : w.cell? ad = some (.int .u8 (a : Int)):=by rw [← zdG ad]; exact hc0
  have hz1 : ((a : Int) == 0) = false:=by rw [beq_eq_false_iff_ne]; omega
  have hz2 : ((a : Int) != 0) = true:=by rw [bne_iff_ne]; omega
  clear hr hd hl hp ha
  go_enter Tryz.func144,Tryz.ntmps144
  go_wp2
  go_ret
  exact ⟨rfl,rfl⟩
theorem zib {l : List UInt8} (hd : l.all zbm = true) : zaG l < 10 ^ l.length:=by
 have h1:=zbQ (zix hd)
 have e : (zeW l).length = l.length:=by simp [zeW]
 rwa [e] at h1
theorem zfc {l : List UInt8} (h : l.all zbm = true) (k : Nat) : (l.take k).all zbm = true :=
 List.all_eq_true.2 fun c hc => List.all_eq_true.1 h c (List.mem_of_mem_take hc)
theorem pow10_19 {k : Nat} (h : k ≤ 18) : 10 ^ k ≤ 1000000000000000000:=Nat.le_trans (Nat.pow_le_pow_right (by decide) h) (by decide)
theorem zel (s : ByteArray) (w : World) (hd : s.data.toList.all zbm = true) (hs : s.size ≤ 19) :
  Calls Tryz.prog 104 #[.string s] w fun e w' => e = .returned (.int .u64 (zaG s.data.toList : Nat)) ∧ w = w':=by
 obtain ⟨L,hL⟩ : ∃ L,s.data.toList = L:=⟨_,rfl⟩
 obtain ⟨S,hS⟩ : ∃ S,s.size = S:=⟨_,rfl⟩
 have HLS:=lh9 (show L.length = S by rw [← hL,zeN,hS])
 have HIX : Hid (∀ k,k < S → ∀ w,(Instr.index 9 (.string s) (.int .i64 (k : Int))).run Tryz.prog w = .ok (.int .u8 (((L.getD k 0).toNat : Nat) : Int)) w):=fun k hk w => by
  have:=zgT (P:=Tryz.prog) Tryz.underlying9 s k (by omega) w
  rw [hL] at this
  exact this
 rw [hL] at hd ⊢
 have HD:=lh9 hd
 rw [hS] at hs
 clear hL hd
 go_enter Tryz.func104,Tryz.ntmps104
 go_wp2
 go_loop [3,7] (fun p ix => ∃ k : Nat,k ≤ S ∧ ix = .int .i64 k ∧ p = .int .u64 (zaG (L.take k) : Nat)) (fun _ ix => S - (intOf ix).toNat)
 case atStart => exact ⟨0,Nat.zero_le _,rfl,rfl⟩
 case round =>
  obtain ⟨k,hk,rfl,rfl⟩:=hrel
  have i1 : (0 : Int) ≤ (k : Int):=by omega
  by_cases hlt : k < S
  ·have i2 : (k : Int) < (S : Int):=by omega
   have hkl : k < L.length:=by rw [HLS.out]; exact hlt
   have ix:=HIX.out k hlt
   have HST:=lh9 (zhm L hkl)
   have hdg : zbm (L.getD k 0) = true:=List.all_eq_true.1 HD.out _ (by rw [List.getD_eq_getElem?_getD,List.getElem?_eq_getElem hkl]; exact List.getElem_mem hkl)
   have hv : zaG (L.take k) < 1000000000000000000:=by
    have h1:=zib (zfc HD.out k)
    rw [List.length_take] at h1
    exact Nat.lt_of_lt_of_le h1 (pow10_19 (by omega))
   unfold zbm at hdg
   obtain ⟨c,hc⟩ : ∃ c,(L.getD k 0).toNat = c:=⟨_,rfl⟩
   rw [hc] at ix HST hdg
   simp only [Bool.and_eq_true,decide_eq_true_eq] at hdg
   obtain ⟨d,hd⟩ : ∃ d,c - 48 = d:=⟨_,rfl⟩
   rw [hd] at HST
   have j3 : (c : Int) - 48 = (d : Int):=by omega
   have j4 : IntKind.u8.wrap (d : Int) = (d : Int):=by simp [IntKind.wrap,IntKind.bits,IntKind.signed]; omega
   have j5 : IntKind.u64.wrap (d : Int) = (d : Int):=by simp [IntKind.wrap,IntKind.bits,IntKind.signed]; omega
   have j6 : d ≤ 9:=by omega
   obtain ⟨v,hve⟩ : ∃ v,zaG (L.take k) = v:=⟨_,rfl⟩
   rw [hve] at HST hv ⊢
   clear hc hd hve hdg
   go_wp2
   go_round
   case rel => exact ⟨k + 1,by omega,by go_num,by rw [HST.out]; go_num⟩
   case measure => simp [intOf]; omega
  ·have hkS : k = S:=by omega
   subst hkS
   have HT:=lh9 (List.take_of_length_le (l:=L) (i:=k) (by rw [HLS.out]; exact Nat.le_refl _))
   rw [HT.out]
   clear HT
   go_wp2
   go_ret
   exact ⟨rfl,rfl⟩
theorem zfS (s : ByteArray) (w : World) (hn : s.size ≤ 1099511627776) :
  Calls Tryz.prog 103 #[.string s] w fun e w' => e = .returned (.bool (okR s.data.toList)) ∧ w = w':=by
 obtain ⟨L,hL⟩ : ∃ L,s.data.toList = L:=⟨_,rfl⟩
 obtain ⟨S,hS⟩ : ∃ S,s.size = S:=⟨_,rfl⟩
 have HLS:=lh9 (show L.length = S by rw [← hL,zeN,hS])
 have HIX : Hid (∀ k,k < S → ∀ w,(Instr.index 9 (.string s) (.int .i64 (k : Int))).run Tryz.prog w = .ok (.int .u8 (((L.getD k 0).toNat : Nat) : Int)) w):=fun k hk w => by
  have:=zgT (P:=Tryz.prog) Tryz.underlying9 s k (by omega) w
  rw [hL] at this
  exact this
 have q1 : (s.toList == []) = decide (L = []):=zcN _ _ _ (by rw [hL])
 have q2 : (s.toList == [48]) = decide (L = [48]):=zcN _ _ _ (by rw [hL])
 rw [hL]
 have hS1 : S ≤ 1099511627776:=by omega
 clear hL
 by_cases h0 : L = []
 ·have hok : okR L = false:=by rw [h0]; rfl
  rw [decide_eq_true h0] at q1
  rw [decide_eq_false (by rw [h0]; simp)] at q2
  rw [hok]
  clear HIX hok h0 HLS
  go_enter Tryz.func103,Tryz.ntmps103
  go_wp2
  go_ret
  exact ⟨rfl,rfl⟩
 ·rw [decide_eq_false h0] at q1
  have hpos : 0 < S:=by rw [← HLS.out]; exact List.length_pos_iff.2 h0
  have ix0 : ∀ w,(Instr.index 9 (.string s) (.int .i64 0)).run Tryz.prog w = .ok (.int .u8 (((L.getD 0 0).toNat : Nat) : Int)) w:=fun w => HIX.out 0 hpos w
  by_cases h1 : (L.getD 0 0).toNat = 48
  ·rw [h1] at ix0
   have hc : ∃ t,L = 48 :: t:=by
    match L,h0 with
    | c :: t,_ =>
      have h1 : c.toNat = 48:=h1
      exact ⟨t,by rw [← UInt8.ofNat_toNat (x:=c),h1]; rfl⟩
   by_cases h2 : L = [48]
   ·have hok : okR L = true:=by rw [h2]; rfl
    rw [decide_eq_true h2] at q2
    rw [hok]
    clear HIX hok h0 h1 h2 hc HLS
    go_enter Tryz.func103,Tryz.ntmps103
    go_wp2
    go_ret
    exact ⟨rfl,rfl⟩
   ·have hok : okR L = false:=by
     obtain ⟨t,ht⟩:=hc
     unfold okR
     rw [decide_eq_false h2,ht]
     simp
    rw [decide_eq_false h2] at q2
    rw [hok]
    clear HIX hok h0 h1 h2 hc HLS
    go_enter Tryz.func103,Tryz.ntmps103
    go_wp2
    go_ret
    exact ⟨rfl,rfl⟩
  ·have HOK : Hid (okR L = L.all zbm):=by
    show _ = _
    match L,h0 with
    | c :: t,_ =>
      have hc : ¬ c = 48:=fun e => h1 (by rw [e]; rfl)
      rw [zfm]
      unfold zgd
      simp [hc]
   have HBAD : Hid (∀ k,k < S → zbm (L.getD k 0) = false → okR L = false):=fun k hk h => by
    rw [HOK.out]; exact zkO (by rw [HLS.out]; exact hk) h
   have HGOOD : Hid ((L.take S).all zbm = true → okR L = true):=fun h => by
    rw [HOK.out]; rw [List.take_of_length_le (by rw [HLS.out]; exact Nat.le_refl _)] at h; exact h
   obtain ⟨ob,hob⟩ : ∃ b,okR L = b:=⟨_,rfl⟩
   rw [hob] at HBAD HGOOD ⊢
   obtain ⟨cc,hcc⟩ : ∃ c,(L.getD 0 0).toNat = c:=⟨_,rfl⟩
   rw [hcc] at ix0 h1
   have q5 : ((cc : Int) == 48) = false:=by rw [beq_eq_false_iff_ne]; omega
   clear h0 hob hcc HOK
   go_enter Tryz.func103,Tryz.ntmps103
   go_wp2
   clear q1 q2 ix0 q5 h1
   go_loop [15] (fun ix => ∃ k : Nat,k ≤ S ∧ ix = .int .i64 k ∧ Hid ((L.take k).all zbm = true)) (fun ix => S - (intOf ix).toNat)
   case atStart => exact ⟨0,Nat.zero_le _,rfl,rfl⟩
   case round =>
    obtain ⟨k,hk,rfl,HAL⟩:=hrel
    have i1 : (0 : Int) ≤ (k : Int):=by omega
    by_cases hlt : k < S
    ·have i2 : (k : Int) < (S : Int):=by omega
     have hkl : k < L.length:=by rw [HLS.out]; exact hlt
     have ix:=HIX.out k hlt
     have HBK:=lh9 (HBAD.out k hlt)
     have HAK:=lh9 (fun h => zig hkl HAL.out h)
     have hdg : zbm (L.getD k 0) = (decide (48 ≤ (L.getD k 0).toNat) && decide ((L.getD k 0).toNat ≤ 57)):=rfl
     rw [hdg] at HBK HAK
     obtain ⟨c,hc⟩ : ∃ c,(L.getD k 0).toNat = c:=⟨_,rfl⟩
     rw [hc] at ix HBK HAK
     clear hc hdg HAL
     by_cases h1 : 48 ≤ c
     ·by_cases h2 : c ≤ 57
      ·have HN:=lh9 (HAK.out (by simp [h1,h2]))
       have j1 : decide ((c : Int) < 48) = false:=by simp; omega
       have j2 : decide ((57 : Int) < (c : Int)) = false:=by simp; omega
       clear HBK HAK
       go_wp2
       go_round
       case rel => exact ⟨k + 1,by omega,by go_num,HN⟩
       case measure => simp [intOf]; omega
      ·have HN:=lh9 (HBK.out (by simp [h2]))
       have j1 : decide ((c : Int) < 48) = false:=by simp; omega
       have j2 : decide ((57 : Int) < (c : Int)) = true:=by simp; omega
       clear HBK HAK
       go_wp2
       go_ret
       exact ⟨by rw [HN.out]; rfl,rfl⟩
     ·have HN:=lh9 (HBK.out (by simp [h1]))
      have j1 : decide ((c : Int) < 48) = true:=by simp; omega
      clear HBK HAK
      go_wp2
      go_ret
      exact ⟨by rw [HN.out]; rfl,rfl⟩
    ·have hkS : k = S:=by omega
     subst hkS
     have HN:=lh9 (HGOOD.out HAL.out)
     clear HAL
     go_wp2
     go_ret
     exact ⟨by rw [HN.out]; rfl,rfl⟩
def chN (D : List Nat) : List Nat:=D.map (48 + ·)
theorem chN_len (D : List Nat) : (chN D).length = D.length:=by simp [chN]
theorem chN_getD {D : List Nat} {k : Nat} (h : k < D.length) : (chN D).getD k 0 = 48 + D.getD k 0:=by
 simp [chN,List.getD_eq_getElem?_getD,List.getElem?_eq_getElem h]
theorem zit (D E : List Nat) : chN (D ++ E) = chN D ++ chN E:=by simp [chN]
theorem dg_take {b : Nat} (hb : 2 ≤ b) {l : List Nat} (h : Dgs b l) : (dg b (dv b l)).length ≤ l.length ∧ l.take (dg b (dv b l)).length = dg b (dv b l):=by
 have hle:=zaT hb _ _ (zbQ h)
 refine ⟨hle,List.ext_getElem (by rw [List.length_take]; omega) fun i h1 h2 => ?_⟩
 have e1:=zda (by omega : 0 < b) h i
 have e2:=zda (by omega : 0 < b) (zbE hb (dv b l)) i
 rw [zbZ hb] at e2
 rw [List.getD_eq_getElem?_getD,List.getElem?_eq_getElem (by omega)] at e1
 rw [List.getD_eq_getElem?_getD,List.getElem?_eq_getElem h2] at e2
 rw [List.getElem_take]
 exact e1.trans e2.symm
theorem ziy (ad : Addr) (n c B : Nat) (D : List Nat) (w : World) (hA : zas w B 1 (some ad) n (zaq .u8 (chN D))) (hD : Dgs 10 D) (hc : n ≤ c) (hc' : c ≤ 9223372036854775807) (hn : n ≤ 1099511627776) :
  Calls Tryz.prog 92 #[.slice (some ad) n c] w fun e w' => e = .returned (.slice (some ad) (dg 10 (dv 10 D)).length c) ∧ w = w':=by
 have HL : Hid (D.length = n):=by show _ = _; rw [← chN_len,hA.len_]
 go_enter Tryz.func92,Tryz.ntmps92
 go_wp2
 go_loop [3] (fun s => ∃ m : Nat,m ≤ n ∧ s = .int .i64 m ∧ Hid (dv 10 (D.take m) = dv 10 D)) (fun s => (intOf s).toNat)
 case atStart => exact ⟨n,Nat.le_refl _,rfl,by show _ = _; rw [List.take_of_length_le (by have:=HL.out; omega)]⟩
 case round =>
  obtain ⟨m,hm,rfl,H⟩:=hrel
  by_cases hm0 : m = 0
  ·subst hm0
   have G : Hid ((dg 10 (dv 10 D)).length = 0):=by
    have e:=zhU (by decide) hD (Nat.zero_le _) H.out (.inl rfl)
    show _ = _
    rw [← e]; rfl
   go_wp2
   go_ret
   exact ⟨by rw [G.out]; rfl,rfl⟩
  ·obtain ⟨j,rfl⟩ : ∃ j,m = j + 1:=⟨m - 1,by omega⟩
   obtain ⟨ad',e',hadb,hcell⟩:=zbg hA (k:=j) (by omega)
   cases e'
   rw [chN_getD (by have:=HL.out; omega)] at hcell
   by_cases hz : D.getD j 0 = 0
   ·have HM:=lh9 ((zha 10 (l:=D) (n:=j) (by have:=HL.out; omega) hz).symm.trans H.out)
    rw [hz] at hcell
    clear hz
    go_wp2
    go_round
    case rel => exact ⟨j,by omega,by go_num,HM⟩
    case measure => simp only [intOf]; omega
   ·have G : Hid ((dg 10 (dv 10 D)).length = j + 1):=by
     have e:=zhU (by decide) hD (by have:=HL.out; omega) H.out (.inr hz)
     show _ = _
     rw [← e,List.length_take]; have:=HL.out; omega
    obtain ⟨d,hd⟩ : ∃ d,48 + D.getD j 0 = d:=⟨_,rfl⟩
    rw [hd] at hcell
    have hz' : ((d : Int) == 48) = false:=beq_eq_false_iff_ne.2 (by omega)
    clear hz hd
    go_wp2
    go_ret
    exact ⟨by rw [G.out]; rfl,rfl⟩
theorem infoB : (Tryz.prog.info? 5).map (fun i => (i.zero,i.size,i.bytes)) = some (some (.int .u8 0),1,1):=by kernel_rfl
structure zck (w : World) (v : Value) (w' : World) (v' : Value) : Prop where
 grown : w.grownBy w' v.ownBlock
 at_ : v'.ownBlock = v.ownBlock ∨ ∀ g,v'.ownBlock = some g → w.heap.size ≤ g
theorem zck.refl (w : World) (v : Value) : zck w v w v:=⟨World.grownBy.refl _ _,.inl rfl⟩
theorem zck.alloc (w : World) (v : Value) (o : Obj) : zck w v (w.alloc o) v:=⟨World.grownBy_alloc w o _,.inl rfl⟩
theorem zck.trans {w w1 w2 : World} {v v1 v2 : Value} (h : zck w v w1 v1) (k : zck w1 v1 w2 v2) : zck w v w2 v2:=by
 refine ⟨⟨k.grown.os.trans h.grown.os,k.grown.tape.trans h.grown.tape,k.grown.output.trans h.grown.output,Nat.le_trans h.grown.size k.grown.size,fun i hi hne => ?_⟩,?_⟩
 ·refine (k.grown.block i (Nat.lt_of_lt_of_le hi h.grown.size) (fun e => ?_)).trans (h.grown.block i hi hne)
  rcases h.at_ with h1 | h1
  ·exact hne (by rw [e,h1])
  ·have:=h1 i e.symm; omega
 ·rcases k.at_ with k1 | k1
  ·rw [k1]; exact h.at_
  ·exact .inr fun g hg => Nat.le_trans h.grown.size (k1 g hg)
theorem zck.below {w w' : World} {v : Value} (hb : Below w.heap.size w w') : zck w v w' v:=⟨⟨hb.os,hb.tape,hb.output,hb.size,fun i hi _ => hb.block i hi⟩,.inl rfl⟩
def zfP (n p : Nat) : List Nat:=(List.range n).map fun k => p / 10 ^ k % 10
theorem zgD (n p : Nat) : (zfP n p).length = n:=by simp [zfP]
theorem zkj (n p : Nat) : zfP (n + 1) p = zfP n p ++ [p / 10 ^ n % 10]:=by simp [zfP,List.range_succ]
theorem lowD_dgs (n p : Nat) : Dgs 10 (zfP n p):=by
 intro d hd
 obtain ⟨j,_,rfl⟩:=List.mem_map.1 hd
 exact Nat.mod_lt _ (by decide)
theorem zoM (p : Nat) : ∀ n,dv 10 (zfP n p) = p % 10 ^ n
 | 0 => by simp [zfP,dv,Nat.mod_one]
 | n + 1 => by rw [zkj,zbx,zoM p n,zgD,zbb 10 p n]
def znA (base : Nat) (w : World) (v : Value) (n p : Nat) (xs : List Value) (e : Ending) (w' : World) : Prop :=
 ∃ v',e = .returned v' ∧ w'.ownsRow base 5 1 v' (n + 19) (xs ++ zaq .u8 (chN (zfP 19 p))) ∧ zck w v w' v'
theorem zgc (base n p : Nat) (v : Value) (xs : List Value) (w : World) (hv : w.ownsRow base 5 1 v n xs) (hb : base ≤ w.heap.size) (hn : n ≤ 1099511627776) (hp : p < 18446744073709551616) :
  Calls Tryz.prog 91 #[v,.int .u64 (p : Int)] w (znA base w v n p xs):=by
 obtain ⟨i0,hi0,hz0,hz1,hz2⟩:=info_parts infoB
 have HV:=lh9 hv
 have HG:=zck.refl w v
 go_enter Tryz.func91,Tryz.ntmps91
 go_wp2
 go_loopg [0,1,5] 20 (fun g t q i wr => ∃ (k : Nat) (tv : Value),tv = t ∧ k ≤ 19 ∧ 19 < g + k ∧ i = .int .i64 k ∧ q = .int .u64 ((p / 10 ^ k : Nat) : Int) ∧ wr.ownsRow base 5 1 tv (n + k) (xs ++ zaq .u8 (chN (zfP k p))) ∧ zck w v wr tv)
 case atStart => exact ⟨0,_,rfl,by omega,by omega,rfl,by simp,by simpa [zfP,chN,zaq] using HV.out,HG⟩
 case round =>
  clear hv HG
  obtain ⟨k,tv,rfl,hk,hg,rfl,rfl,hown,hG⟩:=hrel
  have hbw : base ≤ wr.heap.size:=Nat.le_trans hb hG.grown.size
  by_cases hlt : k < 19
  ·have HST:=lh9 (zkj k p)
   have hdv : p / 10 ^ (k + 1) = p / 10 ^ k / 10:=by rw [Nat.pow_succ,Nat.div_div_eq_div_mul]
   have hql : p / 10 ^ k < 18446744073709551616:=Nat.lt_of_le_of_lt (Nat.div_le_self _ _) hp
   obtain ⟨q,hq⟩ : ∃ q,p / 10 ^ k = q:=⟨_,rfl⟩
   rw [hq] at HST hdv hql ⊢
   have HDV:=lh9 hdv
   clear hq hdv
   have j1 : IntKind.u8.wrap ((q : Int) % 10) = ((q % 10 : Nat) : Int):=by simp [IntKind.wrap,IntKind.bits,IntKind.signed]; omega
   have j2 : IntKind.u8.wrap (48 + ((q % 10 : Nat) : Int)) = ((48 + q % 10 : Nat) : Int):=by simp [IntKind.wrap,IntKind.bits,IntKind.signed]; omega
   go_wp2_with (at_builtin; refine zbo _ rfl (.tmp 7) (.tmp 12) 42 rfl base 5 i0 (.int .u8 0) 1 1 Tryz.underlying42 hi0 hz0 hz1 hz2 rfl (by decide) tv (n + k) (xs ++ zaq .u8 (chN (zfP k p))) rfl (hown.alloc _) (wr.heap.size + 1) (some ⟨wr.heap.size,0,none⟩) 1 1 [.int .u8 ((48 + q % 10 : Nat) : Int)] rfl ⟨rfl,fun _ => ⟨_,rfl,by simp,zbS _ _ _⟩⟩ (zcJ _ _) (by unfold maxLen; omega) (by omega) (by simp; omega) ?_; intro v' w1 hown' hgrow hat)
   have hG2 : zck w v w1 v':=hG.trans ((zck.alloc wr tv _).trans ⟨hgrow,hat.imp id fun h g hg => by rw [h] at hg; cases hg; exact Nat.le_refl _⟩)
   have hown2 : w1.ownsRow base 5 1 v' (n + (k + 1)) (xs ++ zaq .u8 (chN (zfP (k + 1) p))):=by
    rw [HST.out,zit,zaY,← List.append_assoc]; exact hown'
   clear hown' hgrow hat hown hG HST
   go_wp2
   go_roundg (19 - k)
   case measure => omega
   case rel => exact ⟨k + 1,v',rfl,by omega,by omega,by go_num,by rw [HDV.out]; go_num,hown2,hG2⟩
  ·have hk19 : k = 19:=by omega
   subst hk19
   go_wp2
   go_ret
   exact ⟨_,rfl,hown,hG⟩
theorem zmn (l : List Nat) (i k a : Nat) : (l.set i a).getD k 0 = if i = k ∧ k < l.length then a else l.getD k 0:=by
 simp only [List.getD_eq_getElem?_getD,List.getElem?_set]
 by_cases h : i = k
 ·subst h
  by_cases h2 : i < l.length
  ·simp [h2]
  ·simp [h2]
 ·simp [h]
def zgr (L : List Nat) (i : Nat) (M : List Nat) : Prop:=M.length = L.length ∧ ∀ j,j < L.length → M.getD j 0 = if j < i ∨ L.length ≤ j + i then L.getD (L.length - 1 - j) 0 else L.getD j 0
theorem zgr.start (L : List Nat) : zgr L 0 L:=⟨rfl,fun j hj => by rw [if_neg (by omega)]⟩
theorem zgr.step {L M : List Nat} {i j : Nat} (h : zgr L i M) (hij : i + j + 1 = L.length) (hlt : i < j) : zgr L (i + 1) ((M.set i (M.getD j 0)).set j (M.getD i 0)):=by
 obtain ⟨h1,h2⟩:=h
 refine ⟨by simpa using h1,fun k hk => ?_⟩
 rw [zmn,zmn,List.length_set,h1]
 by_cases hkj : j = k
 ·subst hkj
  rw [if_pos ⟨rfl,hk⟩,if_pos (by omega),h2 i (by omega),if_neg (by omega)]
  congr 1; omega
 ·rw [if_neg (by omega)]
  by_cases hki : i = k
  ·subst hki
   rw [if_pos ⟨rfl,hk⟩,if_pos (by omega),h2 j (by omega),if_neg (by omega)]
   congr 1; omega
  ·rw [if_neg (by omega),h2 k hk]
   by_cases hc : k < i ∨ L.length ≤ k + i
   ·rw [if_pos hc,if_pos (by omega)]
   ·rw [if_neg hc,if_neg (by omega)]
theorem zgr.done {L M : List Nat} {i j : Nat} (h : zgr L i M) (hij : i + j + 1 = L.length) (hle : j ≤ i) : M = L.reverse:=by
 obtain ⟨h1,h2⟩:=h
 refine List.ext_getElem (by simpa using h1) fun k hk hk2 => ?_
 have h3:=h2 k (by omega)
 rw [List.getD_eq_getElem?_getD,List.getElem?_eq_getElem hk] at h3
 rw [List.getElem_reverse]
 have e1 : L[L.length - 1 - k]'(by omega) = L.getD (L.length - 1 - k) 0:=by rw [List.getD_eq_getElem?_getD,List.getElem?_eq_getElem (by omega)]; rfl
 rw [e1]
 refine Eq.trans h3 ?_
 by_cases hc : k < i ∨ L.length ≤ k + i
 ·rw [if_pos hc]
 ·rw [if_neg hc]
  congr 1; omega
theorem zpV {w : World} {ty : TypeId} {g cap n : Nat} {M : List Nat} (h : zbA w ty g cap n M) (i j a b : Nat) (hi : i < n) (hj : j < n) : zbA ((w.setCell ⟨g,i,none⟩ (.int .u8 (a : Int))).setCell ⟨g,j,none⟩ (.int .u8 (b : Int))) ty g cap n ((M.set i a).set j b):=(h.set_ i a hi).set_ j b hj
theorem Off.drew {g : Nat} {w w' : World} (h : Off g w w') : Off g w w'.drew:=⟨h.os,h.tape,h.output,h.size,h.block⟩
def Turned (w : World) (ty : TypeId) (g cap n : Nat) (L : List Nat) (e : Ending) (w' : World) : Prop:=(∃ v,e = .returned v) ∧ zbA w' ty g cap n L.reverse ∧ Off g w w'
theorem zjo (ty : TypeId) (g cap n c : Nat) (L : List Nat) (w : World) (hR : zbA w ty g cap n L) (h0 : 0 < n) (hn : n ≤ 1099511627776) (hc : n ≤ c) (hc' : c ≤ 9223372036854775807) :
  Calls Tryz.prog 93 #[.slice (some ⟨g,0,none⟩) n c] w (Turned w ty g cap n L):=by
 have hO:=Off.refl g w
 have HL:=lh9 hR.len
 have HS:=lh9 (zgr.start L)
 go_enter Tryz.func93,Tryz.ntmps93
 go_wp2
 go_loopg [2,3] n (fun gg a b wr => ∃ (i j : Nat) (M : List Nat),i + j + 1 = n ∧ n ≤ gg + i ∧ a = .int .i64 i ∧ b = .int .i64 j ∧ Hid (zgr L i M) ∧ zbA wr ty g cap n M ∧ Off g w wr)
 case atStart => exact ⟨0,n - 1,L,by omega,by omega,rfl,by rw [Int.natCast_sub h0]; rfl,HS,hR,hO⟩
 case round =>
  clear hR hO
  obtain ⟨i,j,M,hij,hg,rfl,rfl,HM,hR,hO⟩:=hrel
  by_cases hlt : i < j
  ·have HST:=lh9 (HM.out.step (j:=j) (by rw [HL.out]; exact hij) hlt)
   have k1:=hR.cell i (by omega)
   have k2:=hR.cell j (by omega)
   have f1:=hR.frozen i
   have f2:=hR.frozen j
   obtain ⟨a,ha⟩ : ∃ b,M.getD i 0 = b:=⟨_,rfl⟩
   obtain ⟨b,hb⟩ : ∃ b,M.getD j 0 = b:=⟨_,rfl⟩
   rw [ha] at k1 HST
   rw [hb] at k2 HST
   have k3 : (wr.setCell ⟨g,i,none⟩ (.int .u8 (b : Int))).cell? ⟨g,j,none⟩ = some (.int .u8 (b : Int)):=(World.cell?_setCell_other wr _ _ _ (fun e => by injection e; omega)).trans k2
   have HR2:=lh9 (zpV hR i j b a (by omega) (by omega))
   have HO2:=lh9 ((hO.set_ i (.int .u8 (b : Int))).set_ j (.int .u8 (a : Int)))
   have i1 : (0 : Int) ≤ (i : Int):=by omega
   have i2 : (i : Int) < (n : Int):=by omega
   have i3 : (0 : Int) ≤ (j : Int):=by omega
   have i4 : (j : Int) < (n : Int):=by omega
   have i5 : (1 : Int) ≤ (j : Int):=by omega
   clear ha hb HM hR hO
   go_wp2_with fail
   go_region
   go_wp2
   go_roundg (n - (i + 1))
   case measure => omega
   case rel => exact ⟨i + 1,j - 1,_,by omega,by omega,by go_num,by (try rw [Int.natCast_sub (by omega)]); first | rfl | simp,HST,HR2.out.drew,HO2.out.drew⟩
  ·have HE:=lh9 (HM.out.done (j:=j) (by rw [HL.out]; exact hij) (by omega))
   have i4 : (j : Int) ≤ (i : Int):=by omega
   clear HM
   go_wp2
   go_end0
   exact ⟨⟨_,rfl⟩,by rw [← HE.out]; exact hR,hO⟩
end Go.Proofs.YtfieheffipfahaaGreatDoor
