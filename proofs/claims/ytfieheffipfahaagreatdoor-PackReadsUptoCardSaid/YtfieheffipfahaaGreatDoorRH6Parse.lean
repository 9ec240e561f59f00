/- What this claim leans on. -/
import Derived.Test.YtfieheffipfahaaGreatDoorRBunI
namespace Go.Proofs.YtfieheffipfahaaGreatDoor
open Go Go.RowKit
set_option maxHeartbeats 16000000
set_option maxRecDepth 100000
set_option linter.unusedVariables false
set_option linter.unusedSimpArgs false
theorem shl_byte {d p : Nat} (hd : d < 256) (hp : p < 8) : IntKind.u64.wrap ((d : Int) * 2 ^ (p * 8)) = ((2 ^ (8 * p) * d : Nat) : Int):=by
 have h3 : 2 ^ (8 * p) * 256 ≤ 18446744073709551616:=by
  rw [show (256 : Nat) = 2 ^ 8 from rfl,← Nat.pow_add]
  exact Nat.le_trans (Nat.pow_le_pow_right (by decide) (show 8 * p + 8 ≤ 64 by omega)) (by decide)
 have h2 : 2 ^ (8 * p) * (d + 1) ≤ 2 ^ (8 * p) * 256:=Nat.mul_le_mul_left _ hd
 have h4:=Nat.two_pow_pos (8 * p)
 rw [Nat.mul_add] at h2
 have e : (d : Int) * 2 ^ (p * 8) = ((2 ^ (8 * p) * d : Nat) : Int):=by rw [Nat.mul_comm p 8,Nat.mul_comm (2 ^ (8 * p)) d]; simp
 rw [e,zhp,Nat.mod_eq_of_lt (by omega)]
theorem or_byte {a d p : Nat} (ha : a < 2 ^ (8 * p)) (hd : d < 256) (hp : p < 8) : bits .or .u64 (a : Int) ((2 ^ (8 * p) * d : Nat) : Int) = ((2 ^ (8 * p) * d + a : Nat) : Int):=by
 have h3 : 2 ^ (8 * p) * 256 ≤ 18446744073709551616:=by
  rw [show (256 : Nat) = 2 ^ 8 from rfl,← Nat.pow_add]
  exact Nat.le_trans (Nat.pow_le_pow_right (by decide) (show 8 * p + 8 ≤ 64 by omega)) (by decide)
 have h2 : 2 ^ (8 * p) * (d + 1) ≤ 2 ^ (8 * p) * 256:=Nat.mul_le_mul_left _ hd
 rw [Nat.mul_add] at h2
 exact zln ha (by omega)
theorem parse_no (l : List Nat) (A : oA9) (n c : Nat) (w : World) (hr : zas w w.heap.size 1 A n (zaq .u8 l)) (hd : Dgs 256 l) (hp : zbi l = false) :
  Calls Tryz.prog 126 #[.slice A n c] w (zbI w 0 false):=by
 obtain ⟨hB,b2,b5⟩:=zaz w 29 #[.slice none 0 0]
 have HP:=lh9 (zgy l A n c _ (((hr.below hB).more (by simp)) : zas (w.alloc (.cells #[.slice none 0 0] 29)) _ 1 A n (zaq .u8 l)) hd)
 rw [hp] at HP
 clear hr hd hp
 go_enter Tryz.func126,Tryz.ntmps126
 go_wp2_with fail
 refine HP.out.mono ?_
 rintro e w1 ⟨rfl,rfl⟩
 clear HP b5
 generalize w.alloc (.cells #[.slice none 0 0] 29) = W at *
 have c1:=b2.cell 0
 have f1:=b2.frozen 0
 have p4 : zbP W w.heap.size (.slice none 0 0):=⟨_,b2⟩
 have r4:=(p4.set_ (.slice none 0 0)).cell
 have HG : Hid (Below w.heap.size w (W.setCell ⟨w.heap.size,0,none⟩ (.slice none 0 0))):=hB.setCell (Nat.le_refl _) _
 clear b2 p4 hB
 go_wp2
 refine bodyPost_ret (v:=.tuple #[.agg #[.slice none 0 0],.bool false]) (by simp [results,Tryz.results126,go_sem,r4]) rfl ?_
 exact ⟨none,0,0,rfl,zdV _,HG.out⟩
theorem zpI (l : List Nat) (A : oA9) (n c : Nat) (w : World) (hr : zas w w.heap.size 1 A n (zaq .u8 l)) (hd : Dgs 256 l) (hp : zbi l = true) (hn : n ≤ 274877906944) :
  Calls Tryz.prog 126 #[.slice A n c] w (zbI w (zcE l) true):=by
 obtain ⟨i0,hi0,hz0,hz1,hz2⟩:=info_parts zfT
 obtain ⟨hB,b2,b5⟩:=zaz w 29 #[.slice none 0 0]
 have HP:=lh9 (zgy l A n c _ (((hr.below hB).more (by simp)) : zas (w.alloc (.cells #[.slice none 0 0] 29)) _ 1 A n (zaq .u8 l)) hd)
 rw [hp] at HP
 have HR:=lh9 (fun (k : Nat) (hk : k < n) w' (h : Below w.heap.size w w') => zbg (hr.below h) hk)
 have HL:=lh9 hr.len_
 have HD:=lh9 (fun k => hd.getD (by decide) k)
 have HTL:=lh9 (znl hd)
 have HTS:=lh9 (fun k (hk : k < l.length) => zow hk)
 have HTA : Hid (zgU l n = zcE l):=by show _ = _; rw [← hr.len_]; exact zpY l
 obtain ⟨K,hK⟩ : ∃ K,(n + 7) / 8 = K:=⟨_,rfl⟩
 have HVW : Hid (zcE l < 18446744073709551616 ^ K):=by
  show _ < _
  rw [← HTA.out]
  refine Nat.lt_of_lt_of_le (znl hd n) ?_
  rw [p256,p64]
  exact Nat.pow_le_pow_right (by decide) (by omega)
 obtain ⟨Z,hZ⟩ : ∃ Z,madeCells (Value.cells (.int .u64 0)) (K * i0.size) = Z:=⟨_,rfl⟩
 have hmk : ∀ W : World,(Instr.makeSlice 22 (.int .i64 (K : Int)) (.int .i64 (K : Int))).run Tryz.prog W = .ok (.slice (some ⟨W.heap.size,0,none⟩) K K) (W.alloc (.cells Z 81)):=fun W => by
  rw [← hZ]; exact zbz _ _ i0 _ Tryz.underlying22 hi0 hz0 _ _ K K (Nat.le_refl _) (by rw [hz2]; omega) (by omega) W
 have HM : Hid (∀ W : World,zav (W.alloc (.cells Z 81)) 81 W.heap.size K K (List.replicate K 0)):=fun W => by
  have h:=zav.made W 81 K (by unfold maxLen; omega)
  rw [← hZ,hz1,Nat.mul_one]
  exact h
 have e0 : ((n : Int) + 8 - 1) / 8 = (K : Int):=by omega
 have HK : Hid (∀ k,k < n → k / 8 < K):=fun k hk => by omega
 have hKn : K ≤ n + 7:=by omega
 clear hr hd hp hZ hK
 go_enter Tryz.func126,Tryz.ntmps126
 go_wp2_with fail
 refine HP.out.mono ?_
 rintro e w1 ⟨rfl,rfl⟩
 clear HP b5
 generalize w.alloc (.cells #[.slice none 0 0] 29) = W at *
 go_wp2
 clear hmk e0
 have hR:=HM.out W
 have hB2:=hB.alloc hB.size (.cells Z 81)
 have hk2:=b2.alloc (.cells Z 81)
 have hsz:=hB.size
 have hlt1:=b2.lt
 generalize W.alloc (.cells Z 81) = W2 at *
 obtain ⟨r,hr⟩ : ∃ r,W.heap.size = r:=⟨_,rfl⟩
 rw [hr] at hR hsz hlt1 ⊢
 have HF : Hid (zdt (List.replicate K 0) K (zgU l 0)):=zdt.start K
 clear HM hr b2 hB
 go_loopg [18] (n + 1) (fun g i wr => ∃ (k : Nat) (L : List Nat),k ≤ n ∧ n < g + k ∧ i = .int .i64 k ∧ Hid (zdt L K (zgU l k)) ∧ zav wr 81 r K K L ∧ Below w.heap.size w wr ∧ Blk wr w.heap.size 29 #[.slice none 0 0])
 case atStart => exact ⟨0,_,Nat.zero_le _,by omega,rfl,HF,hR,hB2,hk2⟩
 case round =>
  clear HF hR hB2 hk2
  obtain ⟨k,L,hkN,hg,rfl,HF,hR,hB,hk⟩:=hrel
  have i1 : (0 : Int) ≤ (k : Int):=by omega
  by_cases hlt : k < n
  ·have i2 : (k : Int) < (n : Int):=by omega
   have HST0:=HF.out.step (HTL.out k) (HD.out (n - 1 - k)) (HK.out k hlt)
   have hts:=HTS.out k (by rw [HL.out]; exact hlt)
   rw [HL.out] at hts
   rw [← hts] at HST0
   have HST:=lh9 HST0
   have hrm:=wd_room (HTL.out k)
   rw [← HF.out.2 _ (HK.out k hlt)] at hrm
   have hqK:=HK.out k hlt
   obtain ⟨ad,rfl,hadb,c2⟩:=HR.out (n - 1 - k) (by omega) wr hB
   have hdl:=HD.out (n - 1 - k)
   have hix : (n : Int) - 1 - (k : Int) = ((n - 1 - k : Nat) : Int):=by omega
   obtain ⟨j,hj⟩ : ∃ j,n - 1 - k = j:=⟨_,rfl⟩
   rw [hj] at HST hix c2 hdl
   have hjn : j < n:=by omega
   obtain ⟨d,hd⟩ : ∃ d,l.getD j 0 = d:=⟨_,rfl⟩
   rw [hd] at HST c2 hdl
   obtain ⟨q,hq⟩ : ∃ q,k / 8 = q:=⟨_,rfl⟩
   obtain ⟨p,hp⟩ : ∃ q,k % 8 = q:=⟨_,rfl⟩
   have hp8 : p < 8:=by omega
   rw [hq] at HST hrm hqK
   rw [hp] at HST hrm
   have c1:=hR.cell q hqK
   have f1:=hR.frozen q
   obtain ⟨a,ha⟩ : ∃ a,L.getD q 0 = a:=⟨_,rfl⟩
   rw [ha] at HST hrm c1
   have or1:=or_byte hrm hdl hp8
   have sh1:=shl_byte hdl hp8
   obtain ⟨Y,hY⟩ : ∃ y,2 ^ (8 * p) * d = y:=⟨_,rfl⟩
   rw [hY] at HST or1 sh1
   obtain ⟨V,hV⟩ : ∃ y,Y + a = y:=⟨_,rfl⟩
   rw [hV] at HST or1
   have e1 : (k : Int) / 8 = (q : Int):=by omega
   have e2 : (k : Int) % 8 = (p : Int):=by omega
   have e3 : (k : Int).tdiv 8 = (q : Int):=by rw [Int.tdiv_eq_ediv_of_nonneg (by omega)]; exact e1
   have e4 : (k : Int).tmod 8 = (p : Int):=by rw [Int.tmod_eq_emod_of_nonneg (by omega)]; exact e2
   have e5 : IntKind.i64.wrap ((n : Int) - 1) = (n : Int) - 1:=IntWalk.i64_in _ (by omega)
   have e6 : IntKind.i64.wrap (j : Int) = (j : Int):=IntWalk.i64_in _ (by omega)
   have e7 : IntKind.i64.wrap ((p : Int) * 8) = (p : Int) * 8:=IntWalk.i64_in _ (by omega)
   have e8 : ((p : Int) * 8).toNat = p * 8:=by omega
   have e9 : IntKind.u64.wrap (d : Int) = (d : Int):=by simp [IntKind.wrap,IntKind.bits,IntKind.signed]; omega
   have e10 : IntKind.i64.wrap (q : Int) = (q : Int):=IntWalk.i64_in _ (by omega)
   have e11 : IntKind.i64.wrap (p : Int) = (p : Int):=IntWalk.i64_in _ (by omega)
   have j1 : (0 : Int) ≤ (q : Int):=by omega
   have j2 : (q : Int) < (K : Int):=by omega
   have j3 : (0 : Int) ≤ (j : Int):=by omega
   have j4 : (j : Int) < (n : Int):=by omega
   have j5 : (0 : Int) ≤ (p : Int) * 8:=by omega
   have j6 : p * 8 < 64:=by omega
   have HR2:=lh9 (hR.set_ q V hqK)
   have HB2:=lh9 (hB.setCell (p:=⟨r,q,none⟩) hsz (.int .u64 (V : Int)))
   have HK2:=lh9 (hk.far (p:=⟨r,q,none⟩) (by show w.heap.size ≠ r; omega) (.int .u64 (V : Int)))
   clear hR hk hB HF hts hdl hrm hd hq hp ha hY hV hj HST0
   go_wp2_with fail
   go_region
   go_wp2
   go_roundg (n - k)
   case measure => omega
   case rel => exact ⟨k + 1,_,by omega,by omega,by go_num,HST,HR2.out.drew,HB2.out.drew,HK2.out.drew⟩
  ·have hkn : k = n:=by omega
   subst hkn
   have hdv:=HF.out.dv_ (by rw [HTA.out]; exact HVW.out)
   have hof:=zcP (some ⟨r,0,none⟩) K K L wr hR.reads HF.out.dgs (Nat.le_refl _) (by omega) (by omega)
   rw [hdv,HTA.out] at hof
   have HOF:=lh9 hof
   obtain ⟨x,hx⟩ : ∃ x,zcE l = x:=⟨_,rfl⟩
   rw [hx] at HOF
   have HX:=lh9 hx
   clear hdv hof hR HF hx HTA HVW
   go_wp2_with fail
   refine HOF.out.mono ?_
   rintro e w3 ⟨A3,n3,c3,rfl,hw3,hb,hf3⟩
   have hk3:=zae hb hk
   have hB3:=zac hB hb
   have hf:=hk3.frozen 0
   have hc1:=hk3.cell 0
   have p4 : zbP w3 w.heap.size (.slice none 0 0):=⟨_,hk3⟩
   have r4:=(p4.set_ (.slice A3 n3 c3)).cell
   have hkl:=hk.lt
   have HG : Hid (zbI w (zcE l) true (.returned (.tuple #[.agg #[.slice A3 n3 c3],.bool true])) (w3.setCell ⟨w.heap.size,0,none⟩ (.slice A3 n3 c3))):=by
    show zbI _ _ _ _ _
    rw [HX.out]
    exact ⟨A3,n3,c3,rfl,zbW hw3 (fun ad e => by have:=hf3 ad e; show ad.block ≠ _; simp; omega) _,hB3.setCell (Nat.le_refl _) _⟩
   clear hw3 hf3 hk3 p4 hB3 hb hk hB
   go_wp2
   refine bodyPost_ret (v:=.tuple #[.agg #[.slice A3 n3 c3],.bool true]) (by simp [results,Tryz.results126,go_sem,r4]) rfl ?_
   exact HG.out
theorem zlc (l : List Nat) (A : oA9) (n c : Nat) (w : World) (hr : zas w w.heap.size 1 A n (zaq .u8 l)) (hd : Dgs 256 l) (hn : n ≤ 274877906944) :
  Calls Tryz.prog 126 #[.slice A n c] w (zbI w (if zbi l then zcE l else 0) (zbi l)):=by
 cases hp : zbi l
 ·exact parse_no l A n c w hr hd hp
 ·exact zpI l A n c w hr hd hp hn
theorem zgK (x y : Nat) (A D : oA9) (n m c d : Nat) (w : World) (hA : zaf w x A n c) (hD : zaf w y D m d) (hn : n ≤ 274877906944) (hm : m ≤ 274877906944) :
  Calls Tryz.prog 118 #[.agg #[.slice A n c],.agg #[.slice D m d]] w (zbI w (x / y) (decide (y ≠ 0))):=by
 by_cases hy : y = 0
 ·have e : x / y = 0:=by rw [hy,Nat.div_zero]
  have e2 : decide (y ≠ 0) = false:=by simp [hy]
  rw [e,e2]
  exact zfr 0 0 false A D n m c d w (fun w' hb => zfs x y A D n m c d w' (hA.below hb) (hD.below hb) hy)
 ·have e2 : decide (y ≠ 0) = true:=by simp [hy]
  rw [e2]
  exact zfr (x / y) (x % y) true A D n m c d w (fun w' hb => zec x y A D n m c d w' (hA.below hb) (hD.below hb) (by omega) (by omega) hy)
theorem znX (x y : Nat) (A D : oA9) (n m c d : Nat) (w : World) (hA : zaf w x A n c) (hD : zaf w y D m d) (hn : n ≤ 1073741824) (hm : m ≤ 1073741824) (hT : zam w) :
  Calls Tryz.prog 81 #[.agg #[.slice A n c],.agg #[.slice D m d]] w (zkL w (x / Nat.gcd x y) (y / Nat.gcd x y)):=by
 have HO:=lh9 (fun w' (hb : Below w.heap.size w w') => gcd_of x y A D n m c d w' (hA.below hb) (hD.below hb) hn hm (hT.on hb))
 obtain ⟨g,hg⟩ : ∃ g,Nat.gcd x y = g:=⟨_,rfl⟩
 have lg : (dg 18446744073709551616 g).length ≤ 2147483648:=by
  rw [← hg]
  rcases Nat.eq_zero_or_pos x with e | e
  ·rw [e,Nat.gcd_zero_left,hD.len]; omega
  ·exact Nat.le_trans (zbe (by decide) (Nat.gcd_le_left y e)) (by rw [hA.len]; omega)
 rw [hg] at HO ⊢
 have HDA:=lh9 (fun w' (hb : Below w.heap.size w w') A1 n1 c1 (h1 : zaf w' g A1 n1 c1) => zgK x g A A1 n n1 c c1 w' (hA.below hb) h1 (by omega) (by rw [← h1.len]; omega))
 have HDB:=lh9 (fun w' (hb : Below w.heap.size w w') A1 n1 c1 (h1 : zaf w' g A1 n1 c1) => zgK y g D A1 m n1 d c1 w' (hD.below hb) h1 (by omega) (by rw [← h1.len]; omega))
 obtain ⟨X,hX⟩ : ∃ g',x / g = g':=⟨_,rfl⟩
 obtain ⟨Y,hY⟩ : ∃ g',y / g = g':=⟨_,rfl⟩
 obtain ⟨bb,hbb⟩ : ∃ g' : Bool,decide (g ≠ 0) = g':=⟨_,rfl⟩
 rw [hX,hbb] at HDA
 rw [hY,hbb] at HDB
 rw [hX,hY]
 clear hA hD hT hg lg hX hY hbb
 go_enter Tryz.func81,Tryz.ntmps81
 go_wp2_with fail
 obtain ⟨b1,b2,b3,b4,b5⟩:=zbp w 29 29 29 #[.slice A n c] #[.slice D m d] #[.slice none 0 0]
 obtain ⟨W3,hW3⟩ : ∃ W,((w.alloc (.cells #[.slice A n c] 29)).alloc (.cells #[.slice D m d] 29)).alloc (.cells #[.slice none 0 0] 29) = W:=⟨_,rfl⟩
 rw [hW3] at b1 b2 b3 b4 b5 ⊢
 have hs3 : W3.heap.size = w.heap.size + 1 + 1 + 1:=by rw [← hW3]; simp
 have kA:=b2.one.alloc (.cells #[.slice none 0 0] 29)
 have kD:=b3.one.alloc (.cells #[.slice none 0 0] 29)
 have kx:=b4.one.alloc (.cells #[.slice none 0 0] 29)
 have ky:=zbP.new W3 29 (.slice none 0 0)
 rw [hs3] at ky
 have hB:=b1.alloc b1.size (.cells #[.slice none 0 0] 29)
 clear b1 b2 b3 b4 b5 hW3 hs3
 generalize W3.alloc (.cells #[.slice none 0 0] 29) = W4 at *
 obtain ⟨p,hp⟩ : ∃ p,w.heap.size = p:=⟨_,rfl⟩
 have hpw : w.heap.size ≤ p:=by omega
 refine (HO.out _ hB).mono ?_
 rw [hp] at kA kD kx ky ⊢
 clear hp
 rintro e w1 ⟨A1,n1,c1,rfl,hg1,hb⟩
 obtain ⟨d1,d2,d3⟩:=zaz w1 29 #[.slice A1 n1 c1]
 have hbb:=zac hb d1
 have kA:=kA.keep hbb
 have kD:=kD.keep hbb
 have kx:=kx.keep hbb
 have ky:=ky.keep hbb
 have hB:=zac hB hbb
 have hg1:=hg1.below d1
 have kg:=d2.one
 clear d1 d2 d3 hb hbb
 have e1:=kA.cell
 have e2:=kg.cell
 go_wp2_with fail
 generalize hW5 : w1.alloc (.cells #[.slice A1 n1 c1] 29) = W5 at *
 generalize w1.heap.size = z1 at *
 clear hW5
 refine (HDA.out _ hB A1 n1 c1 hg1).mono ?_
 clear e1 e2
 rintro e w2 ⟨A2,n2,c2,rfl,hx2,hb⟩
 have hz2:=(ky.keep hb).lt
 obtain ⟨d1,d2,d3⟩:=zaz w2 29 #[.slice A2 n2 c2]
 have hbb:=zac hb d1
 have kD:=kD.keep hbb
 have kx:=kx.keep hbb
 have ky:=ky.keep hbb
 have kg:=kg.keep hbb
 have hB:=zac hB hbb
 have hg1:=hg1.below hbb
 have hx2:=hx2.below d1
 have k7:=d2.one
 clear d1 d2 d3 hb hbb kA
 have e1:=kD.cell
 have e2:=kg.cell
 go_wp2_with fail
 generalize hW6 : w2.alloc (.cells #[.slice A2 n2 c2] 29) = W6 at *
 generalize w2.heap.size = z2 at *
 clear hW6
 refine (HDB.out _ hB A1 n1 c1 hg1).mono ?_
 clear e1 e2
 rintro e w3 ⟨A3,n3,c3,rfl,hy3,hb⟩
 have hz3:=(ky.keep hb).lt
 obtain ⟨d1,d2,d3⟩:=zaz w3 29 #[.slice A3 n3 c3]
 have hbb:=zac hb d1
 have kx:=kx.keep hbb
 have ky:=ky.keep hbb
 have k7:=k7.keep hbb
 have hB:=zac hB hbb
 have hx2:=hx2.below hbb
 have hy3:=hy3.below d1
 have k9:=d2.one
 clear d1 d2 d3 hb hbb kD kg hg1
 go_wp2_with fail
 generalize hW7 : w3.alloc (.cells #[.slice A3 n3 c3] 29) = W7 at *
 generalize w3.heap.size = z3 at *
 clear hW7
 have q7 : W7.cell? ⟨z2,0,none⟩ = some (.slice A2 n2 c2):=k7.cell
 have q9 : W7.cell? ⟨z3,0,none⟩ = some (.slice A3 n3 c3):=k9.cell
 have qx : W7.cell? ⟨p + 1 + 1,0,none⟩ = some (.slice none 0 0):=kx.cell
 have qy : W7.cell? ⟨p + 1 + 1 + 1,0,none⟩ = some (.slice none 0 0):=ky.cell
 have fx : W7.frozen? ⟨p + 1 + 1,0,none⟩ = false:=kx.frozen
 have fy : W7.frozen? ⟨p + 1 + 1 + 1,0,none⟩ = false:=ky.frozen
 have q9':=zag (q:=⟨p + 1 + 1,0,none⟩) (.slice A2 n2 c2) (by show z3 ≠ p + 1 + 1; omega) q9
 have kx1:=kx.set_ (.slice A2 n2 c2)
 have ky1:=ky.far (p:=⟨p + 1 + 1,0,none⟩) (by show p + 1 + 1 + 1 ≠ p + 1 + 1; omega) (.slice A2 n2 c2)
 have qy':=ky1.cell
 have fy':=ky1.frozen
 have hx4:=zar hx2 kx (.slice A2 n2 c2)
 have hy4:=zar hy3 kx (.slice A2 n2 c2)
 have rx:=(kx1.far (p:=⟨p + 1 + 1 + 1,0,none⟩) (by show p + 1 + 1 ≠ p + 1 + 1 + 1; omega) (.slice A3 n3 c3)).cell
 have ry:=(ky1.set_ (.slice A3 n3 c3)).cell
 have HE : Hid (zkL w X Y (.returned (.tuple #[.agg #[.slice A2 n2 c2],.agg #[.slice A3 n3 c3]])) ((W7.setCell ⟨p + 1 + 1,0,none⟩ (.slice A2 n2 c2)).setCell ⟨p + 1 + 1 + 1,0,none⟩ (.slice A3 n3 c3)).drew) :=
  ⟨_,_,_,_,_,_,rfl,zar hx4 ky1 _,zar hy4 ky1 _,(hB.setCell (p:=⟨p + 1 + 1,0,none⟩) (by show w.heap.size ≤ p + 1 + 1; omega) _).setCell (p:=⟨p + 1 + 1 + 1,0,none⟩) (by show w.heap.size ≤ p + 1 + 1 + 1; omega) _ |>.drew⟩
 clear k7 k9 kx ky hB hx2 hy3 kx1 ky1 hx4 hy4
 go_region
 all_goals
  go_wp2
  refine bodyPost_ret (v:=.tuple #[.agg #[.slice A2 n2 c2],.agg #[.slice A3 n3 c3]]) (by simp [results,Tryz.results81,go_sem,rx,ry]) rfl ?_
  exact HE.out
theorem Sz.of_words {w : World} {x K n c : Nat} {A : oA9} (h : zaf w x A n c) (hn : n ≤ K) : Sz K x:=by
 have h1:=zaU (b:=18446744073709551616) (by decide) x
 rw [h.len] at h1
 exact Nat.lt_of_lt_of_le h1 (Nat.pow_le_pow_right (by decide) hn)
theorem zdW : GcdC where
 of x y A D n m c d w hA hD hn hm hT:=gcd_of x y A D n m c d w hA hD hn hm hT
 reduce x y A D n m c d w hA hD hn hm hT:=znX x y A D n m c d w hA hD hn hm hT
end Go.Proofs.YtfieheffipfahaaGreatDoor
