/- What this claim leans on. -/
import Derived.Test.YtfieheffipfahaaGreatDoorTJ9Lib
namespace Go.Proofs.YtfieheffipfahaaGreatDoor
open Go Go.RowKit
set_option maxHeartbeats 16000000
set_option maxRecDepth 100000
set_option linter.unusedVariables false
set_option linter.unusedSimpArgs false
theorem shl_byte {d p : Nat} (hd : d < 256) (hp : p < 8) : IntKind.u64.wrap ((d : Int) * 2 ^ (p * 8)) = ((2 ^ (8 * p) * d : Nat) : Int) := by
 have h3 : 2 ^ (8 * p) * 256 ≤ 18446744073709551616 := by
  rw [show (256 : Nat) = 2 ^ 8 from rfl,← Nat.pow_add]
  exact Nat.le_trans (Nat.pow_le_pow_right (by decide) (show 8 * p + 8 ≤ 64 by omega)) (by decide)
 have h2 : 2 ^ (8 * p) * (d + 1) ≤ 2 ^ (8 * p) * 256 := Nat.mul_le_mul_left _ hd
 have h4 := Nat.two_pow_pos (8 * p)
 rw [Nat.mul_add] at h2
 have e : (d : Int) * 2 ^ (p * 8) = ((2 ^ (8 * p) * d : Nat) : Int) := by rw [Nat.mul_comm p 8,Nat.mul_comm (2 ^ (8 * p)) d]; simp
 rw [e,zgq,Nat.mod_eq_of_lt (by omega)]
theorem or_byte {a d p : Nat} (ha : a < 2 ^ (8 * p)) (hd : d < 256) (hp : p < 8) : bits .or .u64 (a : Int) ((2 ^ (8 * p) * d : Nat) : Int) = ((2 ^ (8 * p) * d + a : Nat) : Int) := by
 have h3 : 2 ^ (8 * p) * 256 ≤ 18446744073709551616 := by
  rw [show (256 : Nat) = 2 ^ 8 from rfl,← Nat.pow_add]
  exact Nat.le_trans (Nat.pow_le_pow_right (by decide) (show 8 * p + 8 ≤ 64 by omega)) (by decide)
 have h2 : 2 ^ (8 * p) * (d + 1) ≤ 2 ^ (8 * p) * 256 := Nat.mul_le_mul_left _ hd
 rw [Nat.mul_add] at h2
 exact zjF ha (by omega)
theorem parse_no (l : List Nat) (A : oA9) (n c : Nat) (w : World) (hr : zan w w.heap.size 1 A n (zam .u8 l)) (hd : Dgs 256 l) (hp : zca l = false) :
  Calls Tryz.prog 126 #[.slice A n c] w (zbd w 0 false) := by
 obtain ⟨hB,b2,b5⟩ := zaA w 29 #[.slice none 0 0]
 have HP := lh9 (zfH l A n c _ (((hr.below hB).more (by simp)) : zan (w.alloc (.cells #[.slice none 0 0] 29)) _ 1 A n (zam .u8 l)) hd)
 rw [hp] at HP
 clear hr hd hp
 go_enter Tryz.func126,Tryz.ntmps126
 go_wp2_with fail
 refine HP.out.mono ?_
 rintro e w1 ⟨rfl,rfl⟩
 clear HP b5
 generalize w.alloc (.cells #[.slice none 0 0] 29) = W at *
 have c1 := b2.cell 0
 have f1 := b2.frozen 0
 have p4 : zbl W w.heap.size (.slice none 0 0) := ⟨_,b2⟩
 have r4 := (p4.set_ (.slice none 0 0)).cell
 have HG : Hid (Below w.heap.size w (W.setCell ⟨w.heap.size,0,none⟩ (.slice none 0 0))) := hB.setCell (Nat.le_refl _) _
 clear b2 p4 hB
 go_wp2
 refine bodyPost_ret (v := .tuple #[.agg #[.slice none 0 0],.bool false]) (by simp [results,Tryz.results126,go_sem,r4]) rfl ?_
 exact ⟨none,0,0,rfl,zdp _,HG.out⟩
theorem zod (l : List Nat) (A : oA9) (n c : Nat) (w : World) (hr : zan w w.heap.size 1 A n (zam .u8 l)) (hd : Dgs 256 l) (hp : zca l = true) (hn : n ≤ 274877906944) :
  Calls Tryz.prog 126 #[.slice A n c] w (zbd w (zeL l) true) := by
 obtain ⟨i0,hi0,hz0,hz1,hz2⟩ := info_parts zfM
 obtain ⟨hB,b2,b5⟩ := zaA w 29 #[.slice none 0 0]
 have HP := lh9 (zfH l A n c _ (((hr.below hB).more (by simp)) : zan (w.alloc (.cells #[.slice none 0 0] 29)) _ 1 A n (zam .u8 l)) hd)
 rw [hp] at HP
 have HR := lh9 (fun (k : Nat) (hk : k < n) w' (h : Below w.heap.size w w') => zaP (hr.below h) hk)
 have HL := lh9 hr.len_
 have HD := lh9 (fun k => hd.getD (by decide) k)
 have HTL := lh9 (zlx hd)
 have HTS := lh9 (fun k (hk : k < l.length) => zmK hk)
 have HTA : Hid (zga l n = zeL l) := by show _ = _; rw [← hr.len_]; exact zoq l
 obtain ⟨K,hK⟩ : ∃ K,(n + 7) / 8 = K := ⟨_,rfl⟩
 have HVW : Hid (zeL l < 18446744073709551616 ^ K) := by
  show _ < _
  rw [← HTA.out]
  refine Nat.lt_of_lt_of_le (zlx hd n) ?_
  rw [p256,p64]
  exact Nat.pow_le_pow_right (by decide) (by omega)
 obtain ⟨Z,hZ⟩ : ∃ Z,madeCells (Value.cells (.int .u64 0)) (K * i0.size) = Z := ⟨_,rfl⟩
 have hmk : ∀ W : World,(Instr.makeSlice 22 (.int .i64 (K : Int)) (.int .i64 (K : Int))).run Tryz.prog W = .ok (.slice (some ⟨W.heap.size,0,none⟩) K K) (W.alloc (.cells Z 81)) := fun W => by
  rw [← hZ]; exact zaW _ _ i0 _ Tryz.underlying22 hi0 hz0 _ _ K K (Nat.le_refl _) (by rw [hz2]; omega) (by omega) W
 have HM : Hid (∀ W : World,zaq (W.alloc (.cells Z 81)) 81 W.heap.size K K (List.replicate K 0)) := fun W => by
  have h := zaq.made W 81 K (by unfold maxLen; omega)
  rw [← hZ,hz1,Nat.mul_one]
  exact h
 have e0 : ((n : Int) + 8 - 1) / 8 = (K : Int) := by omega
 have HK : Hid (∀ k,k < n → k / 8 < K) := fun k hk => by omega
 have hKn : K ≤ n + 7 := by omega
 clear hr hd hp hZ hK
 go_enter Tryz.func126,Tryz.ntmps126
 go_wp2_with fail
 refine HP.out.mono ?_
 rintro e w1 ⟨rfl,rfl⟩
 clear HP b5
 generalize w.alloc (.cells #[.slice none 0 0] 29) = W at *
 go_wp2
 clear hmk e0
 have hR := HM.out W
 have hB2 := hB.alloc hB.size (.cells Z 81)
 have hk2 := b2.alloc (.cells Z 81)
 have hsz := hB.size
 have hlt1 := b2.lt
 generalize W.alloc (.cells Z 81) = W2 at *
 obtain ⟨r,hr⟩ : ∃ r,W.heap.size = r := ⟨_,rfl⟩
 rw [hr] at hR hsz hlt1 ⊢
 have HF : Hid (zcP (List.replicate K 0) K (zga l 0)) := zcP.start K
 clear HM hr b2 hB
 go_loopg [18] (n + 1) (fun g i wr => ∃ (k : Nat) (L : List Nat),k ≤ n ∧ n < g + k ∧ i = .int .i64 k ∧ Hid (zcP L K (zga l k)) ∧ zaq wr 81 r K K L ∧ Below w.heap.size w wr ∧ Blk wr w.heap.size 29 #[.slice none 0 0])
 case atStart => exact ⟨0,_,Nat.zero_le _,by omega,rfl,HF,hR,hB2,hk2⟩
 case round =>
  clear HF hR hB2 hk2
  obtain ⟨k,L,hkN,hg,rfl,HF,hR,hB,hk⟩ := hrel
  have i1 : (0 : Int) ≤ (k : Int) := by omega
  by_cases hlt : k < n
  ·have i2 : (k : Int) < (n : Int) := by omega
   have HST0 := HF.out.step (HTL.out k) (HD.out (n - 1 - k)) (HK.out k hlt)
   have hts := HTS.out k (by rw [HL.out]; exact hlt)
   rw [HL.out] at hts
   rw [← hts] at HST0
   have HST := lh9 HST0
   have hrm := wd_room (HTL.out k)
   rw [← HF.out.2 _ (HK.out k hlt)] at hrm
   have hqK := HK.out k hlt
   obtain ⟨ad,rfl,hadb,c2⟩ := HR.out (n - 1 - k) (by omega) wr hB
   have hdl := HD.out (n - 1 - k)
   have hix : (n : Int) - 1 - (k : Int) = ((n - 1 - k : Nat) : Int) := by omega
   obtain ⟨j,hj⟩ : ∃ j,n - 1 - k = j := ⟨_,rfl⟩
   rw [hj] at HST hix c2 hdl
   have hjn : j < n := by omega
   obtain ⟨d,hd⟩ : ∃ d,l.getD j 0 = d := ⟨_,rfl⟩
   rw [hd] at HST c2 hdl
   obtain ⟨q,hq⟩ : ∃ q,k / 8 = q := ⟨_,rfl⟩
   obtain ⟨p,hp⟩ : ∃ q,k % 8 = q := ⟨_,rfl⟩
   have hp8 : p < 8 := by omega
   rw [hq] at HST hrm hqK
   rw [hp] at HST hrm
   have c1 := hR.cell q hqK
   have f1 := hR.frozen q
   obtain ⟨a,ha⟩ : ∃ a,L.getD q 0 = a := ⟨_,rfl⟩
   rw [ha] at HST hrm c1
   have or1 := or_byte hrm hdl hp8
   have sh1 := shl_byte hdl hp8
   obtain ⟨Y,hY⟩ : ∃ y,2 ^ (8 * p) * d = y := ⟨_,rfl⟩
   rw [hY] at HST or1 sh1
   obtain ⟨V,hV⟩ : ∃ y,Y + a = y := ⟨_,rfl⟩
   rw [hV] at HST or1
   have e1 : (k : Int) / 8 = (q : Int) := by omega
   have e2 : (k : Int) % 8 = (p : Int) := by omega
   have e3 : (k : Int).tdiv 8 = (q : Int) := by rw [Int.tdiv_eq_ediv_of_nonneg (by omega)]; exact e1
   have e4 : (k : Int).tmod 8 = (p : Int) := by rw [Int.tmod_eq_emod_of_nonneg (by omega)]; exact e2
   have e5 : IntKind.i64.wrap ((n : Int) - 1) = (n : Int) - 1 := IntWalk.i64_in _ (by omega)
   have e6 : IntKind.i64.wrap (j : Int) = (j : Int) := IntWalk.i64_in _ (by omega)
   have e7 : IntKind.i64.wrap ((p : Int) * 8) = (p : Int) * 8 := IntWalk.i64_in _ (by omega)
   have e8 : ((p : Int) * 8).toNat = p * 8 := by omega
   have e9 : IntKind.u64.wrap (d : Int) = (d : Int) := by simp [IntKind.wrap,IntKind.bits,IntKind.signed]; omega
   have e10 : IntKind.i64.wrap (q : Int) = (q : Int) := IntWalk.i64_in _ (by omega)
   have e11 : IntKind.i64.wrap (p : Int) = (p : Int) := IntWalk.i64_in _ (by omega)
   have j1 : (0 : Int) ≤ (q : Int) := by omega
   have j2 : (q : Int) < (K : Int) := by omega
   have j3 : (0 : Int) ≤ (j : Int) := by omega
   have j4 : (j : Int) < (n : Int) := by omega
   have j5 : (0 : Int) ≤ (p : Int) * 8 := by omega
   have j6 : p * 8 < 64 := by omega
   have HR2 := lh9 (hR.set_ q V hqK)
   have HB2 := lh9 (hB.setCell (p := ⟨r,q,none⟩) hsz (.int .u64 (V : Int)))
   have HK2 := lh9 (hk.far (p := ⟨r,q,none⟩) (by show w.heap.size ≠ r; omega) (.int .u64 (V : Int)))
   clear hR hk hB HF hts hdl hrm hd hq hp ha hY hV hj HST0
   go_wp2_with fail
   go_region
   go_wp2
   go_roundg (n - k)
   case measure => omega
   case rel => exact ⟨k + 1,_,by omega,by omega,by go_num,HST,HR2.out.drew,HB2.out.drew,HK2.out.drew⟩
  ·have hkn : k = n := by omega
   subst hkn
   have hdv := HF.out.dv_ (by rw [HTA.out]; exact HVW.out)
   have hof := zbZ (some ⟨r,0,none⟩) K K L wr hR.reads HF.out.dgs (Nat.le_refl _) (by omega) (by omega)
   rw [hdv,HTA.out] at hof
   have HOF := lh9 hof
   obtain ⟨x,hx⟩ : ∃ x,zeL l = x := ⟨_,rfl⟩
   rw [hx] at HOF
   have HX := lh9 hx
   clear hdv hof hR HF hx HTA HVW
   go_wp2_with fail
   refine HOF.out.mono ?_
   rintro e w3 ⟨A3,n3,c3,rfl,hw3,hb,hf3⟩
   have hk3 := zae hb hk
   have hB3 := zac hB hb
   have hf := hk3.frozen 0
   have hc1 := hk3.cell 0
   have p4 : zbl w3 w.heap.size (.slice none 0 0) := ⟨_,hk3⟩
   have r4 := (p4.set_ (.slice A3 n3 c3)).cell
   have hkl := hk.lt
   have HG : Hid (zbd w (zeL l) true (.returned (.tuple #[.agg #[.slice A3 n3 c3],.bool true])) (w3.setCell ⟨w.heap.size,0,none⟩ (.slice A3 n3 c3))) := by
    show zbd _ _ _ _ _
    rw [HX.out]
    exact ⟨A3,n3,c3,rfl,zbw hw3 (fun ad e => by have := hf3 ad e; show ad.block ≠ _; simp; omega) _,hB3.setCell (Nat.le_refl _) _⟩
   clear hw3 hf3 hk3 p4 hB3 hb hk hB
   go_wp2
   refine bodyPost_ret (v := .tuple #[.agg #[.slice A3 n3 c3],.bool true]) (by simp [results,Tryz.results126,go_sem,r4]) rfl ?_
   exact HG.out
theorem zjz (l : List Nat) (A : oA9) (n c : Nat) (w : World) (hr : zan w w.heap.size 1 A n (zam .u8 l)) (hd : Dgs 256 l) (hn : n ≤ 274877906944) :
  Calls Tryz.prog 126 #[.slice A n c] w (zbd w (if zca l then zeL l else 0) (zca l)) := by
 cases hp : zca l
 ·exact parse_no l A n c w hr hd hp
 ·exact zod l A n c w hr hd hp hn
def zdD (w : World) (x k : Nat) (e : Ending) (w' : World) : Prop := ∃ (A : oA9) (n c : Nat),e = .returned (.tuple #[.agg #[.slice A n c],.int .i64 (k : Int),.nilIface]) ∧ zaf w' x A n c ∧ Below w.heap.size w w'
def zbz (w : World) (er : Int) (e : Ending) (w' : World) : Prop := e = .returned (.tuple #[.agg #[.slice none 0 0],.int .i64 0,.iface 47 (.int .i64 er)]) ∧ Below w.heap.size w w'
theorem le1 {w W : World} {x k g : Nat} {t : TypeId} {A : oA9} {n c : Nat} {q : oA9} {r s : Nat} {kz : Int} (h : zaf W x A n c) (hz : kz = (k : Int)) (kd : Blk W g t #[.slice q r s]) (hB : Below w.heap.size w W) (hg : w.heap.size ≤ g) : zdD w x k (.returned (.tuple #[.agg #[.slice A n c],.int .i64 kz,.nilIface])) (W.setCell ⟨g,0,none⟩ (.slice A n c)) :=
 ⟨_,_,_,by rw [hz],zar h kd (NoU.s1 _ _ _) (zbF _ _ _),bl1 _ hg hB⟩
theorem le0 {w W : World} {er : Int} {g : Nat} (hB : Below w.heap.size w W) (hg : w.heap.size ≤ g) : zbz w er (.returned (.tuple #[.agg #[.slice none 0 0],.int .i64 0,.iface 47 (.int .i64 er)])) (W.setCell ⟨g,0,none⟩ (.slice none 0 0)) := ⟨rfl,bl1 _ hg hB⟩
theorem zfo (l : List Nat) (A : oA9) (n c : Nat) (w : World) (h : zaH w l A n c) (he : n ≤ l.getD 0 0) : Calls Tryz.prog 95 #[.slice A n c] w (zbz w 90) := by
 have hlen := h.len
 obtain ⟨b1,b2,b3⟩ := zaA w 29 #[.slice none 0 0]
 have s0 := st1 b2
 have HG : Hid (zbz w 90 (.returned (.tuple #[.agg #[.slice none 0 0],.int .i64 0,.iface 47 (.int .i64 90)])) (w.alloc (.cells #[.slice none 0 0] 29))) := ⟨rfl,b1⟩
 have r0 := b2.c1
 by_cases h0 : n = 0
 ·subst h0
  clear h he hlen b1 b2 b3
  go_enter Tryz.func95,Tryz.ntmps95
  go_wp2
  refine bodyPost_ret (v := .tuple #[.agg #[.slice none 0 0],.int .i64 0,.iface 47 (.int .i64 90)]) (by simp [results,Tryz.results95,go_sem,r0]) rfl ?_
  exact HG.out
 ·obtain ⟨gb,ob,ib,rfl,hgb,hx,hc⟩ := h.first (by omega)
  obtain ⟨x,hxx⟩ : ∃ x,l.getD 0 0 = x := ⟨_,rfl⟩
  rw [hxx] at hc he hx
  have hc1 := zad b1 hc
  have i0 : ((n : Int) == 0) = false := by rw [beq_eq_false_iff_ne]; omega
  have i1 : (0 : Int) < (n : Int) := by omega
  have i2 : decide ((n : Int) ≤ (x : Int)) = true := by simp; omega
  have i5 : decide (n ≤ x) = true := by simp; omega
  have i3 : IntKind.i64.wrap (x : Int) = (x : Int) := IntWalk.i64_in _ (by omega)
  clear h he hlen b1 b2 b3 hc hxx
  go_enter Tryz.func95,Tryz.ntmps95
  go_wp2
  refine bodyPost_ret (v := .tuple #[.agg #[.slice none 0 0],.int .i64 0,.iface 47 (.int .i64 90)]) (by simp [results,Tryz.results95,go_sem,r0]) rfl ?_
  exact HG.out
theorem zef (t z : Bool) (l : List Nat) (A : oA9) (n c : Nat) (w : World) (h : zaH w l A n c) (hn : n ≤ 2147483648) (he : l.getD 0 0 < n) (ht : zca (zdZ l 0) = t) (hz : t = true → decide (zeL (zdZ l 0) = 0) = z) :
  Calls Tryz.prog 95 #[.slice A n c] w (if t = true ∧ z = false then zdD w (zeL (zdZ l 0)) (zaR l 0) else zbz w 91) := by
 have hlen := h.len
 obtain ⟨b1,b2,b3⟩ := zaA w 29 #[.slice none 0 0]
 obtain ⟨gb,ob,ib,rfl,hgb,hx,hc⟩ := h.first (by omega)
 obtain ⟨A1,hs1,hm1⟩ := znH (n := n) (c := c) (k := 1) (m := 1 + l.getD 0 0) (some ⟨gb,ob,ib⟩) (by omega) (by omega) h.2.2.1
 have hme : (l.drop 1).take (1 + l.getD 0 0 - 1) = zdZ l 0 := by unfold zdZ; rw [show 1 + l.getD 0 0 - 1 = l.getD 0 0 by omega]
 have HP := lh9 (fun w' (hb : Below w.heap.size w w') => zjz (zdZ l 0) A1 (1 + l.getD 0 0 - 1) (c - 1) w' (hme ▸ (hm1 w' l (h.below hb)).1) (hme ▸ (hm1 w' l (h.below hb)).2.1) (by omega))
 have hend : Hid ((1 : Int) + ((l.getD 0 0 : Nat) : Int) = ((zaR l 0 : Nat) : Int)) := by show _ = _; unfold zaR; omega
 obtain ⟨x,hxx⟩ : ∃ x,l.getD 0 0 = x := ⟨_,rfl⟩
 obtain ⟨E,hE⟩ : ∃ x,zaR l 0 = x := ⟨_,rfl⟩
 obtain ⟨V,hV⟩ : ∃ x,zeL (zdZ l 0) = x := ⟨_,rfl⟩
 rw [hxx] at hc he hx hs1 HP hend
 rw [hE] at hend
 rw [ht,hV] at HP
 rw [hV] at hz
 rw [hE,hV]
 have e1x : 1 + x - 1 = x := by omega
 rw [e1x] at hs1 HP
 have hs2 : ∀ w,(Instr.slice 42 (.slice (some ⟨gb,ob,ib⟩) n c) (some (.int .i64 1)) (some (.int .i64 (1 + (x : Int)))) none).run Tryz.prog w = .ok (.slice A1 x (c - 1)) w := fun w => by
  have h9 := hs1 w
  rw [show ((1 + x : Nat) : Int) = 1 + (x : Int) by omega] at h9
  exact h9
 clear hs1 e1x
 have hc1 := zad b1 hc
 have hk1 := b2
 have i0 : ((n : Int) == 0) = false := by rw [beq_eq_false_iff_ne]; omega
 have i1 : (0 : Int) < (n : Int) := by omega
 have i2 : decide ((n : Int) ≤ (x : Int)) = false := by simp; omega
 have i5 : decide (n ≤ x) = false := by simp; omega
 have i3 : IntKind.i64.wrap (x : Int) = (x : Int) := IntWalk.i64_in _ (by omega)
 have i4 : IntKind.i64.wrap (1 + (x : Int)) = 1 + (x : Int) := IntWalk.i64_in _ (by omega)
 have HB := lh9 b1
 have hHP : Hid (∀ w',Below w.heap.size w w' → Calls Tryz.prog 126 #[.slice A1 x (c - 1)] w' (zbd w' (if t then V else 0) t)) := HP.out
 clear h he hlen b1 b2 b3 hc hxx hE hV ht hm1 hme HP
 cases t with
 | false =>
   clear hz
   rw [if_neg (by simp)]
   go_enter Tryz.func95,Tryz.ntmps95
   go_wp2_with fail
   refine (hHP.out _ HB.out).mono ?_
   rintro e w1 ⟨A2,n2,c2,rfl,hw2,hb⟩
   have hB1 := zac HB.out hb
   have hk2 := zae hb hk1
   obtain ⟨d1,d2,d3⟩ := zaA w1 29 #[.slice A2 n2 c2]
   have hB2 := zac hB1 d1
   have hk3 := zae d1 hk2
   have s0 := st1 hk3
   have HG : Hid (zbz w 91 (.returned (.tuple #[.agg #[.slice none 0 0],.int .i64 0,.iface 47 (.int .i64 91)])) ((w1.alloc (.cells #[.slice A2 n2 c2] 29)).setCell ⟨w.heap.size,0,none⟩ (.slice none 0 0))) := le0 hB2 (Nat.le_refl _)
   have r0 := (sn1 hk3 (.slice none 0 0)).c1
   clear hk1 hk2 hk3 hB1 hB2 d1 d2 d3 hw2 hb HB hHP
   go_wp2
   refine bodyPost_ret (v := .tuple #[.agg #[.slice none 0 0],.int .i64 0,.iface 47 (.int .i64 91)]) (by simp [results,Tryz.results95,go_sem,r0]) rfl ?_
   exact HG.out
 | true =>
   have hz2 := hz rfl
   clear hz
   rw [if_pos rfl] at hHP
   cases z with
   | true =>
     rw [if_neg (by simp)]
     go_enter Tryz.func95,Tryz.ntmps95
     go_wp2_with fail
     refine (hHP.out _ HB.out).mono ?_
     rintro e w1 ⟨A2,n2,c2,rfl,hw2,hb⟩
     have hB1 := zac HB.out hb
     have hk2 := zae hb hk1
     obtain ⟨d1,d2,d3⟩ := zaA w1 29 #[.slice A2 n2 c2]
     have hB2 := zac hB1 d1
     have hk3 := zae d1 hk2
     have hw3 := hw2.below d1
     have g3 := d2.c1
     have HZ := lh9 (zbI (of_decide_eq_true hz2) hw3)
     clear hk1 hk2 hB1 d1 d2 d3 hw2 hb HB hHP hw3 hz2 hend
     go_wp2_with fail
     generalize w1.alloc (.cells #[.slice A2 n2 c2] 29) = W at *
     refine HZ.out.mono ?_
     rintro e w4 ⟨rfl,hb⟩
     have hB3 := zac hB2 hb
     have hk4 := zae hb hk3
     have s0 := st1 hk4
     have HG : Hid (zbz w 91 (.returned (.tuple #[.agg #[.slice none 0 0],.int .i64 0,.iface 47 (.int .i64 91)])) (w4.setCell ⟨w.heap.size,0,none⟩ (.slice none 0 0))) := le0 hB3 (Nat.le_refl _)
     have r0 := (sn1 hk4 (.slice none 0 0)).c1
     clear hk3 hk4 hB3 hB2 hb HZ g3
     go_wp2
     refine bodyPost_ret (v := .tuple #[.agg #[.slice none 0 0],.int .i64 0,.iface 47 (.int .i64 91)]) (by simp [results,Tryz.results95,go_sem,r0]) rfl ?_
     exact HG.out
   | false =>
     rw [if_pos ⟨rfl,rfl⟩]
     go_enter Tryz.func95,Tryz.ntmps95
     go_wp2_with fail
     refine (hHP.out _ HB.out).mono ?_
     rintro e w1 ⟨A2,n2,c2,rfl,hw2,hb⟩
     have hB1 := zac HB.out hb
     have hk2 := zae hb hk1
     obtain ⟨d1,d2,d3⟩ := zaA w1 29 #[.slice A2 n2 c2]
     have hB2 := zac hB1 d1
     have hk3 := zae d1 hk2
     have hw3 := hw2.below d1
     have g3 := d2.c1
     have HZ := lh9 (zbX (of_decide_eq_false hz2) hw3)
     have HW3 := lh9 hw3
     clear hk1 hk2 hB1 d1 d2 d3 hw2 hb HB hHP hw3 hz2
     go_wp2_with fail
     generalize w1.alloc (.cells #[.slice A2 n2 c2] 29) = W at *
     refine HZ.out.mono ?_
     rintro e w4 ⟨rfl,hb⟩
     have hB3 := zac hB2 hb
     have hk4 := zae hb hk3
     have g4 := zad hb g3
     have s0 := st1 hk4
     have HG : Hid (zdD w V E (.returned (.tuple #[.agg #[.slice A2 n2 c2],.int .i64 (1 + (x : Int)),.nilIface])) (w4.setCell ⟨w.heap.size,0,none⟩ (.slice A2 n2 c2))) := le1 (HW3.out.below hb) hend.out hk4 hB3 (Nat.le_refl _)
     have r0 := (sn1 hk4 (.slice A2 n2 c2)).c1
     clear hk3 hk4 hB3 hB2 hb HZ g3 HW3 hend
     go_wp2
     refine bodyPost_ret (v := .tuple #[.agg #[.slice A2 n2 c2],.int .i64 (1 + (x : Int)),.nilIface]) (by simp [results,Tryz.results95,go_sem,r0]) rfl ?_
     exact HG.out
theorem zgj (l : List Nat) (A : oA9) (n c : Nat) (w : World) (h : zaH w l A n c) (hn : n ≤ 2147483648) (he : zbG l 0 = 0) : Calls Tryz.prog 95 #[.slice A n c] w (zdD w (zaK l 0) (zaR l 0)) := by
 unfold zbG at he
 rw [h.len] at he
 by_cases h1 : n ≤ 0 + l.getD 0 0
 ·rw [if_pos h1] at he; exact absurd he (by decide)
 ·rw [if_neg h1] at he
  by_cases h2 : zca (zdZ l 0) = true ∧ zeL (zdZ l 0) ≠ 0
  ·have k := zef true false l A n c w h hn (by omega) h2.1 (fun _ => decide_eq_false h2.2)
   rw [if_pos ⟨rfl,rfl⟩] at k
   exact k
  ·rw [if_neg h2] at he; exact absurd he (by decide)
theorem zgS (l : List Nat) (A : oA9) (n c : Nat) (w : World) (h : zaH w l A n c) (hn : n ≤ 2147483648) (he : zbG l 0 ≠ 0) : Calls Tryz.prog 95 #[.slice A n c] w (zbz w (zbG l 0)) := by
 unfold zbG at he ⊢
 rw [h.len] at he ⊢
 by_cases h1 : n ≤ 0 + l.getD 0 0
 ·rw [if_pos h1]; exact zfo l A n c w h (by omega)
 ·rw [if_neg h1] at he ⊢
  by_cases h2 : zca (zdZ l 0) = true ∧ zeL (zdZ l 0) ≠ 0
  ·rw [if_pos h2] at he; exact absurd rfl he
  ·rw [if_neg h2]
   have k := zef (zca (zdZ l 0)) (decide (zeL (zdZ l 0) = 0)) l A n c w h hn (by omega) rfl (fun _ => rfl)
   rw [if_neg (by rintro ⟨a,b⟩; exact h2 ⟨a,of_decide_eq_false b⟩)] at k
   exact k
theorem lead_yes (l : List Nat) (k : Nat) (A : oA9) (n c : Nat) (w : World) (h : zaH w (l.drop k) A n c) (hn : n ≤ 2147483648) (hk : k ≤ l.length) (he : zbG l k = 0) (u : Nat) (hu : 1 + l.getD k 0 = u) : Calls Tryz.prog 95 #[.slice A n c] w (zdD w (zaK l k) u) := by
 subst hu
 have q := zgj (l.drop k) A n c w h hn (by rw [zfr hk]; exact he)
 rw [zmL] at q
 have e : zaR (l.drop k) 0 = 1 + l.getD k 0 := by unfold zaR; rw [zhF]
 rw [e] at q
 exact q
theorem lead_no (l : List Nat) (k : Nat) (A : oA9) (n c : Nat) (w : World) (h : zaH w (l.drop k) A n c) (hn : n ≤ 2147483648) (hk : k ≤ l.length) (he : zbG l k ≠ 0) : Calls Tryz.prog 95 #[.slice A n c] w (zbz w (zbG l k)) := by
 have q := zgS (l.drop k) A n c w h hn (by rw [zfr hk]; exact he)
 rw [zfr hk] at q
 exact q
theorem zer (n : Int) (s : ByteArray) (k : Int) (w : World) : Calls Tryz.prog 56 #[.iface 47 (.int .i64 n),.string s,.int .i64 k] w fun e w' => ∃ (et : TypeId) (ex : Value),e = .returned (.iface et ex) ∧ zbL w' (.spot n s k) (.iface et ex) ∧ Below w.heap.size w w' := by
 refine (api_wrap n s k w).mono ?_
 rintro e w' ⟨v,rfl,⟨fb,rfl,h⟩,hb⟩
 exact ⟨_,_,rfl,⟨fb,rfl,h⟩,hb⟩
end Go.Proofs.YtfieheffipfahaaGreatDoor
