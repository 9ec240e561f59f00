/-
  The contract of the law's awake (actuarylaw03): the document's examples are told. Conditions: prod's functions do as ProdC says.
-/
import Derived.Test.YtonjhcmppiioeaaRows
import Derived.Test.YtonjhcmppiioeaaP3C
import Derived.Test.YtonjhcmppiioeaaN2Lits
import Derived.WalkKit
import Derived.Lib.Hide
import Derived.Outline
namespace Go.Proofs.Ytonjhcmppiioeaa
open Go Go.RowKit
set_option maxRecDepth 100000
set_option linter.unusedVariables false
def SaysYes3 (w : World) (e : Ending) (w' : World) : Prop := e = .returned (.bool true) ∧ Below w.heap.size w w'
theorem three_dg : dg 18446744073709551616 3 = [3] := dg_one (a := 3) (by decide) (by decide)
theorem two_dg : dg 18446744073709551616 2 = [2] := dg_one (a := 2) (by decide) (by decide)
theorem b3_dg : dg 18446744073709551616 18446744073709551616 = [0, 1] := dg_two (a := 0) (b := 1) (by decide) (by decide) (by decide)
theorem m_dg : dg 18446744073709551616 18446744073709551615 = [18446744073709551615] := dg_one (a := 18446744073709551615) (by decide) (by decide)
theorem p1_dg : dg 18446744073709551616 (18446744073709551616 * 3 + 5) = [5, 3] := dg_two (a := 5) (b := 3) (by decide) (by decide) (by decide)
theorem p2_dg : dg 18446744073709551616 (18446744073709551615 * 18446744073709551615) = [1, 18446744073709551614] := dg_two (a := 1) (b := 18446744073709551614) (by decide) (by decide) (by decide)
theorem p3_dg : dg 18446744073709551616 (3 ^ 5) = [243] := dg_one (a := 243) (by decide) (by decide)
theorem p4_dg : dg 18446744073709551616 (0 ^ 0) = [1] := dg_one (a := 1) (by decide) (by decide)
theorem three_bits : bitLen 3 = 2 := by decide +kernel
theorem two_bits : bitLen 2 = 2 := by decide +kernel
theorem zero_bits : bitLen 0 = 0 := by decide +kernel
set_option maxHeartbeats 16000000 in
theorem law3_awake (PC : ProdC) (w : World) : Calls Try.prog 9 #[] w (SaysYes3 w) := by
  have HPC := Lib.hid PC
  clear PC
  go_enter Try.func9, Try.ntmps9
  have hB := Below.refl w.heap.size w
  go_wp2_with fail
  generalize hW : w.alloc (.cells #[.int .u64 3] 23) = V1
  obtain ⟨b1, b3, b5⟩ := box1 w 23 #[.int .u64 3]
  rw [hW] at b1 b3 b5
  clear hW
  refine (of_lits _ [3] V1 _ 1 3 b3 rfl rfl (dgs1 3 (by decide)) rfl (by decide)).mono ?_
  rintro e w1 ⟨Aa, na, ca, rfl, hw, hb, _⟩
  obtain rfl : na = 1 := len_of hw three_dg
  have st := up2 b1 hb
  have hB := keep_below hB st
  have Ha := Lib.hid hw
  clear hb b1 b3 b5 hw st
  go_wp2_with fail
  refine (HPC.out.powYes 3 5 Aa 1 ca w1 Ha.out (by decide) (by decide) (.inr (by rw [three_bits]; decide))).mono ?_
  rintro e w2 ⟨Ap, np, cp, rfl, hw, hb, _⟩
  obtain rfl : np = 1 := len_of hw (p3_dg)
  have hB := keep_below hB hb
  have Ha := Lib.hid (Ha.out.below hb)
  have Hp := Lib.hid hw
  clear hb hw
  clear Ha
  have st := up_alloc w2 (.cells #[.slice Ap 1 cp] 29)
  have q1 : (w2.alloc (.cells #[.slice Ap 1 cp] 29)).cell? ⟨w2.heap.size, 0, none⟩ = some (.slice Ap 1 cp) := (Blk.new w2 _ _).cell 0
  have hB := keep_below hB st
  have Hp := Lib.hid (Hp.out.below st)
  have g1 := q1
  clear st q1
  go_wp2_with fail
  generalize w2.alloc (.cells #[.slice Ap 1 cp] 29) = V3 at *
  generalize w2.heap.size = h1 at *
  have NO := nat_of none 0 0 [] V3 Reads.none_ (by intro d hd; simp at hd) (Nat.le_refl _) (by decide) (by decide)
  refine (show Calls Try.prog 12 #[.slice none 0 0] V3 (GivesN2 V3 0) from NO).mono ?_
  rintro e w4 ⟨Az, nz, cz, rfl, hw, hb, _⟩
  obtain rfl : nz = 0 := len_of hw (dg_zero _)
  have hB := keep_below hB hb
  have g1 := keep_cell hb g1
  have Hp := Lib.hid (Hp.out.below hb)
  have Hz := Lib.hid hw
  clear hb hw NO
  go_wp2_with fail
  refine (HPC.out.powYes 0 0 Az 0 cz w4 Hz.out (by decide) (by decide) (.inl (by rw [zero_bits]; decide))).mono ?_
  rintro e w5 ⟨Ao, no, co, rfl, hw, hb, _⟩
  obtain rfl : no = 1 := len_of hw (p4_dg)
  have hB := keep_below hB hb
  have g1 := keep_cell hb g1
  have Hp := Lib.hid (Hp.out.below hb)
  have Hz := Lib.hid (Hz.out.below hb)
  have Ho := Lib.hid hw
  clear hb hw
  clear Hz
  go_wp2_with fail
  generalize hW : (w5.alloc (.cells #[.slice Ao 1 co] 29)).alloc (.cells #[.int .u64 2] 23) = V6
  obtain ⟨b1, b2, b3, b5⟩ := box2 w5 29 23 #[.slice Ao 1 co] #[.int .u64 2]
  rw [hW] at b1 b2 b3 b5
  clear hW
  refine (of_lits _ [2] V6 _ 1 2 b3 rfl rfl (dgs1 2 (by decide)) rfl (by decide)).mono ?_
  rintro e w6 ⟨At, nt, ct, rfl, hw, hb, _⟩
  obtain rfl : nt = 1 := len_of hw two_dg
  have st := up2 b1 hb
  have hB := keep_below hB st
  have g1 := keep_cell st g1
  have Hp := Lib.hid (Hp.out.below st)
  have Ho := Lib.hid (Ho.out.below st)
  have g3 : w6.cell? ⟨w5.heap.size, 0, none⟩ = some (.slice Ao 1 co) := keep_cell hb (b2.cell 0)
  have Ht := Lib.hid hw
  clear hb b1 b3 b5 hw st b2
  go_wp2_with fail
  refine (HPC.out.powNo 2 32769 At 1 ct w6 Ht.out (by decide) (by decide) (.inr ⟨by rw [two_bits]; decide, by rw [two_bits]; decide⟩)).mono ?_
  rintro e w7 ⟨An, nn, cn, rfl, hw, hb, _⟩
  obtain rfl : nn = 0 := len_of hw (dg_zero _)
  clear Ht
  have hB := keep_below hB hb
  have g1 := keep_cell hb g1
  have g3 := keep_cell hb g3
  have Hp := Lib.hid (Hp.out.below hb)
  have Ho := Lib.hid (Ho.out.below hb)
  clear hb hw
  go_wp2_with fail
  generalize hW : (w7.alloc (.cells #[.slice An 0 cn] 29)).alloc (.cells #[.int .u64 0, .int .u64 1] 23) = V8
  obtain ⟨b1, b2, b3, b5⟩ := box2 w7 29 23 #[.slice An 0 cn] #[.int .u64 0, .int .u64 1]
  rw [hW] at b1 b2 b3 b5
  clear hW
  refine (of_lits _ [0, 1] V8 _ 2 18446744073709551616 b3 rfl rfl (dgs2 0 1 (by decide) (by decide)) rfl (by decide)).mono ?_
  rintro e w8 ⟨Ab, nb, cb, rfl, hw, hb, _⟩
  obtain rfl : nb = 2 := len_of hw b3_dg
  have st := up2 b1 hb
  have hB := keep_below hB st
  have g1 := keep_cell st g1
  have g3 := keep_cell st g3
  have Hp := Lib.hid (Hp.out.below st)
  have Ho := Lib.hid (Ho.out.below st)
  have g5 : w8.cell? ⟨w7.heap.size, 0, none⟩ = some (.slice An 0 cn) := keep_cell hb (b2.cell 0)
  have Hb := Lib.hid hw
  clear hb b1 b3 b5 hw st b2
  go_wp2_with fail
  refine (HPC.out.byWord 18446744073709551616 3 5 Ab 2 cb w8 Hb.out (by decide) (by decide) (by decide)).mono ?_
  rintro e w9 ⟨Aq, nq, cq, rfl, hw, hb, _⟩
  obtain rfl : nq = 2 := len_of hw (p1_dg)
  have hB := keep_below hB hb
  have g1 := keep_cell hb g1
  have g3 := keep_cell hb g3
  have g5 := keep_cell hb g5
  have Hp := Lib.hid (Hp.out.below hb)
  have Ho := Lib.hid (Ho.out.below hb)
  have Hb := Lib.hid (Hb.out.below hb)
  have Hq := Lib.hid hw
  clear hb hw
  clear Hb
  go_wp2_with fail
  generalize hW : w9.alloc (.cells #[.int .u64 5, .int .u64 3] 23) = V10
  obtain ⟨b1, b3, b5⟩ := box1 w9 23 #[.int .u64 5, .int .u64 3]
  rw [hW] at b1 b3 b5
  clear hW
  refine (is_lits _ Aq 2 cq _ _ [5, 3] V10 (Hq.out.below b1) b3 rfl rfl (dgs2 5 3 (by decide) (by decide)) p1_dg (by decide)).mono ?_
  rintro e w10 ⟨rfl, hb⟩
  have st := up2 b1 hb
  clear Hq
  have hB := keep_below hB st
  have g1 := keep_cell st g1
  have g3 := keep_cell st g3
  have g5 := keep_cell st g5
  have Hp := Lib.hid (Hp.out.below st)
  have Ho := Lib.hid (Ho.out.below st)
  clear hb b1 b3 b5 st
  go_wp2_with fail
  generalize hW : w10.alloc (.cells #[.int .u64 18446744073709551615] 23) = V11
  obtain ⟨b1, b3, b5⟩ := box1 w10 23 #[.int .u64 18446744073709551615]
  rw [hW] at b1 b3 b5
  clear hW
  refine (of_lits _ [18446744073709551615] V11 _ 1 18446744073709551615 b3 rfl rfl (dgs1 18446744073709551615 (by decide)) rfl (by decide)).mono ?_
  rintro e w11 ⟨Am1, nm1, cm1, rfl, hw, hb, _⟩
  obtain rfl : nm1 = 1 := len_of hw m_dg
  have st := up2 b1 hb
  have hB := keep_below hB st
  have g1 := keep_cell st g1
  have g3 := keep_cell st g3
  have g5 := keep_cell st g5
  have Hp := Lib.hid (Hp.out.below st)
  have Ho := Lib.hid (Ho.out.below st)
  have Hm1 := Lib.hid hw
  clear hb b1 b3 b5 hw st
  go_wp2_with fail
  generalize hW : w11.alloc (.cells #[.int .u64 18446744073709551615] 23) = V12
  obtain ⟨b1, b3, b5⟩ := box1 w11 23 #[.int .u64 18446744073709551615]
  rw [hW] at b1 b3 b5
  clear hW
  refine (of_lits _ [18446744073709551615] V12 _ 1 18446744073709551615 b3 rfl rfl (dgs1 18446744073709551615 (by decide)) rfl (by decide)).mono ?_
  rintro e w12 ⟨Am2, nm2, cm2, rfl, hw, hb, _⟩
  obtain rfl : nm2 = 1 := len_of hw m_dg
  have st := up2 b1 hb
  have hB := keep_below hB st
  have g1 := keep_cell st g1
  have g3 := keep_cell st g3
  have g5 := keep_cell st g5
  have Hp := Lib.hid (Hp.out.below st)
  have Ho := Lib.hid (Ho.out.below st)
  have Hm1 := Lib.hid (Hm1.out.below st)
  have Hm2 := Lib.hid hw
  clear hb b1 b3 b5 hw st
  go_wp2_with fail
  refine (HPC.out.mul 18446744073709551615 18446744073709551615 Am1 Am2 1 1 cm1 cm2 w12 Hm1.out Hm2.out (by decide) (by decide)).mono ?_
  rintro e w13 ⟨Ar, nr, cr, rfl, hw, hb, _⟩
  obtain rfl : nr = 2 := len_of hw (p2_dg)
  have hB := keep_below hB hb
  have g1 := keep_cell hb g1
  have g3 := keep_cell hb g3
  have g5 := keep_cell hb g5
  have Hp := Lib.hid (Hp.out.below hb)
  have Ho := Lib.hid (Ho.out.below hb)
  have Hm1 := Lib.hid (Hm1.out.below hb)
  have Hm2 := Lib.hid (Hm2.out.below hb)
  have Hr := Lib.hid hw
  clear hb hw
  clear Hm1
  clear Hm2
  go_wp2_with fail
  generalize hW : w13.alloc (.cells #[.int .u64 1, .int .u64 18446744073709551614] 23) = V14
  obtain ⟨b1, b3, b5⟩ := box1 w13 23 #[.int .u64 1, .int .u64 18446744073709551614]
  rw [hW] at b1 b3 b5
  clear hW
  refine (is_lits _ Ar 2 cr _ _ [1, 18446744073709551614] V14 (Hr.out.below b1) b3 rfl rfl (dgs2 1 18446744073709551614 (by decide) (by decide)) p2_dg (by decide)).mono ?_
  rintro e w14 ⟨rfl, hb⟩
  have st := up2 b1 hb
  clear Hr
  have hB := keep_below hB st
  have g1 := keep_cell st g1
  have g3 := keep_cell st g3
  have g5 := keep_cell st g5
  have Hp := Lib.hid (Hp.out.below st)
  have Ho := Lib.hid (Ho.out.below st)
  clear hb b1 b3 b5 st
  go_wp2_with fail
  generalize hW : w14.alloc (.cells #[.int .u64 243] 23) = V15
  obtain ⟨b1, b3, b5⟩ := box1 w14 23 #[.int .u64 243]
  rw [hW] at b1 b3 b5
  clear hW
  refine (is_lits _ Ap 1 cp _ _ [243] V15 (Hp.out.below b1) b3 rfl rfl (dgs1 243 (by decide)) p3_dg (by decide)).mono ?_
  rintro e w15 ⟨rfl, hb⟩
  have st := up2 b1 hb
  clear Hp
  have hB := keep_below hB st
  have g1 := keep_cell st g1
  have g3 := keep_cell st g3
  have g5 := keep_cell st g5
  have Ho := Lib.hid (Ho.out.below st)
  clear hb b1 b3 b5 st
  go_wp2_with fail
  generalize hW : w15.alloc (.cells #[.int .u64 1] 23) = V16
  obtain ⟨b1, b3, b5⟩ := box1 w15 23 #[.int .u64 1]
  rw [hW] at b1 b3 b5
  clear hW
  refine (is_lits _ Ao 1 co _ _ [1] V16 (Ho.out.below b1) b3 rfl rfl (dgs1 1 (by decide)) p4_dg (by decide)).mono ?_
  rintro e w16 ⟨rfl, hb⟩
  have st := up2 b1 hb
  clear Ho
  have hB := keep_below hB st
  have g1 := keep_cell st g1
  have g3 := keep_cell st g3
  have g5 := keep_cell st g5
  clear hb b1 b3 b5 st
  go_wp2
  go_ret
  exact ⟨rfl, hB⟩
end Go.Proofs.Ytonjhcmppiioeaa
