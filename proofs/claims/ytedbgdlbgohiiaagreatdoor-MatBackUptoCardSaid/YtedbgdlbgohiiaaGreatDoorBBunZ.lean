/- What this claim leans on. -/
import Derived.Test.YtedbgdlbgohiiaaGreatDoorBMeet3
import Derived.Deep.Matrix
namespace Go.Proofs.YtedbgdlbgohiiaaGreatDoor
open Go Go.RowKit
open Go.ChangeShapes Go.WideShapes Go.ChangeAt
set_option maxHeartbeats 16000000
set_option linter.unusedVariables false
namespace UA
set_option maxHeartbeats 16000000
theorem one_le {H : Type} (d : DataW H) : 1 ≤ Rows.uptoBulk d:=by
 cases d with
 | lit l => cases l <;> simp [Rows.uptoBulk]
 | nil => simp [Rows.uptoBulk]
 | ptr d => simp [Rows.uptoBulk]
 | slice elems spare => simp [Rows.uptoBulk]
 | agg parts => simp [Rows.uptoBulk]
 | iface t d => simp [Rows.uptoBulk]
 | map entries => simp [Rows.uptoBulk]
 | held h => simp [Rows.uptoBulk]
theorem zim {H : Type} (l : List (DataW H)) : l.length ≤ Rows.uptoBulkAll l:=by
 induction l with
 | nil => simp [Rows.uptoBulkAll]
 | cons x r ih => have:=one_le x; simp only [Rows.uptoBulkAll,List.length_cons]; omega
theorem slice_le {H : Type} (elems spare : List (DataW H)) : elems.length + spare.length + 1 ≤ Rows.uptoBulk (.slice elems spare):=by
 have h1:=zim elems
 have h2:=zim spare
 simp only [Rows.uptoBulk]
 omega
end UA
end Go.Proofs.YtedbgdlbgohiiaaGreatDoor
namespace Go.Proofs.YtedbgdlbgohiiaaGreatDoor
open Go Go.RowKit
open Go.ChangeShapes Go.WideShapes Go.ChangeAt Go.Deep
set_option maxHeartbeats 16000000
set_option linter.unusedVariables false
end Go.Proofs.YtedbgdlbgohiiaaGreatDoor
namespace Go.Proofs.YtedbgdlbgohiiaaGreatDoor
open Go Go.RowKit
open Go.ChangeShapes Go.WideShapes Go.ChangeAt Go.Deep
set_option maxHeartbeats 16000000
set_option linter.unusedVariables false
end Go.Proofs.YtedbgdlbgohiiaaGreatDoor
namespace Go.Proofs.YtedbgdlbgohiiaaGreatDoor
open Go Go.RowKit
open Go.ChangeShapes Go.WideShapes Go.ChangeAt Go.Deep
set_option maxHeartbeats 16000000
set_option linter.unusedVariables false
namespace UA
set_option maxHeartbeats 16000000
theorem mem_le {H : Type} {d : DataW H} {l : List (DataW H)} (h : d ∈ l) : Rows.uptoBulk d ≤ Rows.uptoBulkAll l:=by
 induction l with
 | nil => cases h
 | cons x r ih =>
   simp only [Rows.uptoBulkAll]
   rcases List.mem_cons.1 h with rfl | h
   ·omega
   ·have:=ih h; omega
end UA
end Go.Proofs.YtedbgdlbgohiiaaGreatDoor
namespace Go.Proofs.YtedbgdlbgohiiaaGreatDoor
open Go Go.RowKit
set_option maxHeartbeats 16000000
set_option linter.unusedVariables false
theorem zmg {r : Rat} {t : Int} {d : Nat} (hd : d ≠ 0) (hc : Nat.gcd t.natAbs d = 1) (h : r = Rat.divInt t d) : r.num = t ∧ r.den = d:=by
 have e : (⟨t,d,hd,hc⟩ : Rat) = Rat.divInt t d:=Rat.mk_eq_divInt
 rw [← e] at h
 subst h
 exact ⟨rfl,rfl⟩
theorem zhE (t : Int) (h : Nat) (hd : h ∣ t.natAbs) : t = (h : Int) * zaQ (decide (t < 0)) (t.natAbs / h):=by
 obtain ⟨k,hk⟩:=hd
 by_cases h0 : h = 0
 ·subst h0; rw [Nat.zero_mul] at hk; have : t = 0:=Int.natAbs_eq_zero.1 hk; subst this; simp
 have e : t.natAbs / h = k:=by rw [hk]; exact Nat.mul_div_cancel_left _ (Nat.pos_of_ne_zero h0)
 rw [e]
 unfold zaQ
 by_cases ht : t < 0
 ·rw [decide_eq_true ht,if_pos rfl,Int.mul_neg,← Int.natCast_mul,← hk]; omega
 ·rw [decide_eq_false ht,if_neg (by decide),← Int.natCast_mul,← hk]; omega
theorem sgnI_mul (s u : Bool) (x y : Nat) : zaQ s x * zaQ u y = zaQ (s != u) (x * y):=by
 cases s <;> cases u <;> simp [zaQ,Int.natCast_mul,Int.neg_mul,Int.mul_neg]
theorem znP {p1 p2 t : Int} {q1 mA mB : Nat} (hc : Nat.gcd p1.natAbs q1 = 1) (hA : mA ∣ q1) (hm : Nat.gcd mA mB = 1) (ht : t = p1 * mB + p2 * mA) : Nat.gcd t.natAbs mA = 1:=by
 refine Nat.dvd_one.1 ?_
 have h1 : Nat.gcd t.natAbs mA ∣ mA:=Nat.gcd_dvd_right _ _
 have h2 : Nat.gcd t.natAbs mA ∣ t.natAbs:=Nat.gcd_dvd_left _ _
 generalize Nat.gcd t.natAbs mA = d at *
 have h3 : (d : Int) ∣ p1 * mB:=by
  have a:=Int.ofNat_dvd_left.2 h2
  have b : (d : Int) ∣ p2 * mA:=Int.dvd_trans (Int.ofNat_dvd.2 h1) (Int.dvd_mul_left _ _)
  have c:=Int.dvd_sub a b
  rw [ht,Int.add_sub_cancel] at c
  exact c
 have h4 : d ∣ p1.natAbs * mB:=by
  have:=Int.ofNat_dvd_left.1 h3
  rwa [Int.natAbs_mul,Int.natAbs_natCast] at this
 have h5 : Nat.Coprime d mB:=Nat.Coprime.coprime_dvd_left h1 hm
 have h6 : d ∣ p1.natAbs:=h5.dvd_of_dvd_mul_right h4
 have h7:=Nat.dvd_gcd h6 (Nat.dvd_trans h1 hA)
 rwa [hc] at h7
theorem znk (a b : Rat) {mA mB : Nat} {t : Int} (hA : mA = a.den / Nat.gcd a.den b.den) (hB : mB = b.den / Nat.gcd a.den b.den) (ht : t = a.num * mB + b.num * mA) :
  (a + b).num = zaQ (decide (t < 0)) (t.natAbs / Nat.gcd t.natAbs b.den) ∧ (a + b).den = mA * (b.den / Nat.gcd t.natAbs b.den):=by
 have g0 : 0 < Nat.gcd a.den b.den:=Nat.gcd_pos_of_pos_left _ (Nat.pos_of_ne_zero a.den_nz)
 have k0 : 0 < Nat.gcd t.natAbs b.den:=Nat.gcd_pos_of_pos_right _ (Nat.pos_of_ne_zero b.den_nz)
 have ea : Nat.gcd a.den b.den * mA = a.den:=by rw [hA]; exact Nat.mul_div_cancel' (Nat.gcd_dvd_left _ _)
 have eb : Nat.gcd a.den b.den * mB = b.den:=by rw [hB]; exact Nat.mul_div_cancel' (Nat.gcd_dvd_right _ _)
 have hm : Nat.gcd mA mB = 1:=by rw [hA,hB]; exact Nat.gcd_div_gcd_div_gcd_of_pos_left (Nat.pos_of_ne_zero a.den_nz)
 have hp : Nat.gcd t.natAbs mA = 1:=znP a.reduced ⟨_,(Nat.mul_comm mA _ ▸ ea).symm⟩ hm ht
 have eh : Nat.gcd t.natAbs b.den * (b.den / Nat.gcd t.natAbs b.den) = b.den:=Nat.mul_div_cancel' (Nat.gcd_dvd_right _ _)
 have et:=zhE t (Nat.gcd t.natAbs b.den) (Nat.gcd_dvd_left _ _)
 have hq : Nat.gcd (t.natAbs / Nat.gcd t.natAbs b.den) (b.den / Nat.gcd t.natAbs b.den) = 1:=Nat.gcd_div_gcd_div_gcd_of_pos_right (Nat.pos_of_ne_zero b.den_nz)
 have mA0 : mA ≠ 0:=fun h => a.den_nz (by rw [← ea,h]; rfl)
 have r0 : b.den / Nat.gcd t.natAbs b.den ≠ 0:=fun h => b.den_nz (by rw [← eh,h]; rfl)
 refine zmg (Nat.mul_ne_zero mA0 r0) ?_ ?_
 ·rw [zdd]
  refine Nat.Coprime.mul_right ?_ hq
  exact Nat.Coprime.coprime_dvd_left (Nat.div_dvd_of_dvd (Nat.gcd_dvd_left _ _)) hp
 ·have e1 : a + b = Rat.divInt (a.num * b.den + b.num * a.den) ((a.den * b.den : Nat) : Int):=by rw [Rat.add_def']; rfl
  have e2 : a.num * (b.den : Int) + b.num * (a.den : Int) = (Nat.gcd a.den b.den : Int) * t:=by
   rw [ht]
   generalize Nat.gcd a.den b.den = g at *
   rw [← eb,← ea,Int.natCast_mul,Int.natCast_mul,Int.mul_add,Int.mul_left_comm,Int.mul_left_comm b.num]
  have e3 : ((a.den * b.den : Nat) : Int) = (Nat.gcd a.den b.den : Int) * ((mA * b.den : Nat) : Int):=by
   generalize Nat.gcd a.den b.den = g at *
   rw [← ea,Nat.mul_assoc,Int.natCast_mul]
  rw [e1,e2,e3,Rat.divInt_mul_left (by omega)]
  generalize Nat.gcd t.natAbs b.den = h at *
  have e4 : ((mA * b.den : Nat) : Int) = (h : Int) * ((mA * (b.den / h) : Nat) : Int):=by
   conv => lhs; rw [← eh]
   rw [Nat.mul_left_comm,Int.natCast_mul]
  rw [e4]
  conv => lhs; rw [et]
  exact Rat.divInt_mul_left (by omega)
theorem znl (a b : Rat) : (a * b).num = zaQ (decide (a.num < 0) != decide (b.num < 0)) (a.num.natAbs / Nat.gcd a.num.natAbs b.den * (b.num.natAbs / Nat.gcd b.num.natAbs a.den)) ∧
  (a * b).den = a.den / Nat.gcd b.num.natAbs a.den * (b.den / Nat.gcd a.num.natAbs b.den):=by
 have g0 : 0 < Nat.gcd a.num.natAbs b.den:=Nat.gcd_pos_of_pos_right _ (Nat.pos_of_ne_zero b.den_nz)
 have k0 : 0 < Nat.gcd b.num.natAbs a.den:=Nat.gcd_pos_of_pos_right _ (Nat.pos_of_ne_zero a.den_nz)
 have ea : Nat.gcd b.num.natAbs a.den * (a.den / Nat.gcd b.num.natAbs a.den) = a.den:=Nat.mul_div_cancel' (Nat.gcd_dvd_right _ _)
 have eb : Nat.gcd a.num.natAbs b.den * (b.den / Nat.gcd a.num.natAbs b.den) = b.den:=Nat.mul_div_cancel' (Nat.gcd_dvd_right _ _)
 have ta:=zhE a.num _ (Nat.gcd_dvd_left a.num.natAbs b.den)
 have tb:=zhE b.num _ (Nat.gcd_dvd_left b.num.natAbs a.den)
 have c1 : Nat.Coprime (a.num.natAbs / Nat.gcd a.num.natAbs b.den) (b.den / Nat.gcd a.num.natAbs b.den):=Nat.gcd_div_gcd_div_gcd_of_pos_right (Nat.pos_of_ne_zero b.den_nz)
 have c2 : Nat.Coprime (b.num.natAbs / Nat.gcd b.num.natAbs a.den) (a.den / Nat.gcd b.num.natAbs a.den):=Nat.gcd_div_gcd_div_gcd_of_pos_right (Nat.pos_of_ne_zero a.den_nz)
 have c3 : Nat.Coprime (a.num.natAbs / Nat.gcd a.num.natAbs b.den) (a.den / Nat.gcd b.num.natAbs a.den) :=
  Nat.Coprime.coprime_dvd_left (Nat.div_dvd_of_dvd (Nat.gcd_dvd_left _ _)) (Nat.Coprime.coprime_dvd_right (Nat.div_dvd_of_dvd (Nat.gcd_dvd_right _ _)) a.reduced)
 have c4 : Nat.Coprime (b.num.natAbs / Nat.gcd b.num.natAbs a.den) (b.den / Nat.gcd a.num.natAbs b.den) :=
  Nat.Coprime.coprime_dvd_left (Nat.div_dvd_of_dvd (Nat.gcd_dvd_left _ _)) (Nat.Coprime.coprime_dvd_right (Nat.div_dvd_of_dvd (Nat.gcd_dvd_right _ _)) b.reduced)
 refine zmg (fun h => ?_) ?_ ?_
 ·rcases Nat.mul_eq_zero.1 h with h | h
  ·rw [h] at ea; exact a.den_nz ea.symm
  ·rw [h] at eb; exact b.den_nz eb.symm
 ·rw [zdd]
  exact Nat.Coprime.mul_right (Nat.Coprime.mul_left c3 c2) (Nat.Coprime.mul_left c1 c4)
 ·have e1 : a * b = Rat.divInt (a.num * b.num) ((a.den * b.den : Nat) : Int):=by rw [Rat.mul_def']; rfl
  rw [e1,← sgnI_mul]
  generalize a.num.natAbs / Nat.gcd a.num.natAbs b.den = x1 at *
  generalize b.num.natAbs / Nat.gcd b.num.natAbs a.den = x2 at *
  generalize b.den / Nat.gcd a.num.natAbs b.den = y2 at *
  generalize a.den / Nat.gcd b.num.natAbs a.den = y1 at *
  generalize Nat.gcd a.num.natAbs b.den = g at *
  generalize Nat.gcd b.num.natAbs a.den = k at *
  generalize zaQ (decide (a.num < 0)) x1 = u1 at *
  generalize zaQ (decide (b.num < 0)) x2 = u2 at *
  have e2 : a.num * b.num = ((g * k : Nat) : Int) * (u1 * u2):=by
   rw [ta,tb,Int.natCast_mul]; simp only [Int.mul_assoc,Int.mul_left_comm]
  have e3 : ((a.den * b.den : Nat) : Int) = ((g * k : Nat) : Int) * ((y1 * y2 : Nat) : Int):=by
   rw [← ea,← eb,← Int.natCast_mul]; congr 1; simp only [Nat.mul_left_comm,Nat.mul_comm]
  rw [e2,e3]
  exact Rat.divInt_mul_left (by have:=Nat.mul_pos g0 k0; omega)
theorem znT {a b : Rat} (ha : a.den = 1) (hb : b.den = 1) : (a + b) = ((a.num + b.num : Int) : Rat):=by
 have h1 : a = ((a.num : Int) : Rat):=Rat.ext (by rw [Rat.num_intCast]) (by rw [Rat.den_intCast,ha])
 have h2 : b = ((b.num : Int) : Rat):=Rat.ext (by rw [Rat.num_intCast]) (by rw [Rat.den_intCast,hb])
 rw [Rat.intCast_add,← h1,← h2]
theorem zgh {a b : Rat} (h : a = 0 ∨ b = 0 ∨ a.den = 1 ∧ b.den = 1) : (a * b) = ((a.num * b.num : Int) : Rat):=by
 rcases h with h | h | ⟨ha,hb⟩
 ·subst h; rw [Rat.zero_mul,show (0 : Rat).num = 0 from rfl,Int.zero_mul]; rfl
 ·subst h; rw [Rat.mul_zero,show (0 : Rat).num = 0 from rfl,Int.mul_zero]; rfl
 ·have h1 : a = ((a.num : Int) : Rat):=Rat.ext (by rw [Rat.num_intCast]) (by rw [Rat.den_intCast,ha])
  have h2 : b = ((b.num : Int) : Rat):=Rat.ext (by rw [Rat.num_intCast]) (by rw [Rat.den_intCast,hb])
  rw [Rat.intCast_mul,← h1,← h2]
end Go.Proofs.YtedbgdlbgohiiaaGreatDoor
namespace Go.Proofs.YtedbgdlbgohiiaaGreatDoor
open Go Go.RowKit
set_option maxHeartbeats 16000000
set_option linter.unusedVariables false
theorem zbG {P : Program} {f : FuncId} {args : Array Value} {w : World} {z v : Int} (e : z = v) (h : Calls P f args w (zbA w z)) : Calls P f args w fun e w' => e = .returned (.int .i64 v) ∧ Below w.heap.size w w':=by
 subst e; exact h
theorem zax {P : Program} {f : FuncId} {args : Array Value} {w : World} {b t : Bool} (e : b = t) (h : Calls P f args w fun e w' => e = .returned (.bool b) ∧ Below w.heap.size w w') : Calls P f args w fun e w' => e = .returned (.bool t) ∧ Below w.heap.size w w':=by
 subst e; exact h
theorem inew_pos {T : World → Prop} (IC : IntC T) (x : Nat) (A : oA9) (n c : Nat) (w : World) (hT : T w) (h : zad w x A n c) (hn : n ≤ 268435456) : Calls Tryz.prog 130 #[.bool false,.agg #[.slice A n c]] w (zaP w (x : Int)) :=
 IC.new false x A n c w hT h hn
end Go.Proofs.YtedbgdlbgohiiaaGreatDoor
namespace Go.Proofs.YtedbgdlbgohiiaaGreatDoor
open Go Go.RowKit
set_option maxHeartbeats 16000000
set_option maxRecDepth 100000
set_option linter.unusedVariables false
set_option linter.unusedSimpArgs false
end Go.Proofs.YtedbgdlbgohiiaaGreatDoor
namespace Go.Proofs.YtedbgdlbgohiiaaGreatDoor
open Go Go.RowKit
set_option maxHeartbeats 16000000
set_option maxRecDepth 100000
set_option linter.unusedVariables false
set_option linter.unusedSimpArgs false
end Go.Proofs.YtedbgdlbgohiiaaGreatDoor
namespace Go.Proofs.YtedbgdlbgohiiaaGreatDoor
open Go Go.RowKit
set_option maxHeartbeats 16000000
set_option linter.unusedVariables false
theorem zbK {T : World → Prop} : IntC T where
 new s x A n c w _ hA hn:=zjS s x A n c w hA (by omega)
 of z w _ h1 h2:=zlh z w h1 h2
 belowI z b A n c w _ hA hn:=zhT z b A n c w hA
 abs z b A n c w _ hA hn:=(zjO z b A n c w hA (by omega)).mono fun _ _ ⟨A',n',c',he,hw,hb,_⟩ => ⟨A',n',c',he,hw,hb⟩
 sign z b A n c w _ hA hn:=ziW z b A n c w hA
 cmp x y b b' A D n m c d w _ hA hD hn hm:=zjQ x y b b' A D n m c d w hA hD (by omega) (by omega)
 add x y b b' A D n m c d w _ hA hD hn hm:=zjP x y b b' A D n m c d w hA hD (by omega) (by omega)
 mul x y b b' A D n m c d w _ hA hD hn hm:=zjR x y b b' A D n m c d w hA hD (by omega) (by omega)
end Go.Proofs.YtedbgdlbgohiiaaGreatDoor
namespace Go.Proofs.YtedbgdlbgohiiaaGreatDoor
open Go Go.RowKit
set_option maxHeartbeats 16000000
set_option maxRecDepth 100000
set_option linter.unusedVariables false
set_option linter.unusedSimpArgs false
theorem zfJ (p : Int) (w : World) (hT : zaj w) (hp1 : -9223372036854775808 ≤ p) (hp2 : p ≤ 9223372036854775807) :
  Calls Tryz.prog 27 #[.int .i64 p] w (zaI w (p : Rat)):=by
 have HIC:=lh9 (zbK (T:=zaj))
 have HGC:=lh9 zbU
 have HT:=lh9 (fun w' (hb : Below w.heap.size w w') => hT.on hb)
 have HTB:=HT
 obtain ⟨K,hKe⟩ : ∃ K,67108864 = K:=⟨_,rfl⟩
 have hKK : K ≤ 67108864:=by omega
 have hK0 : 0 < K:=by omega
 clear hT hKe
 go_enter Tryz.func27,Tryz.ntmps27
 have hB:=Below.refl w.heap.size w
 obtain ⟨bx1,bx2,bz⟩:=zaC w 48 #[.bool false,.slice none 0 0,.slice none 0 0]
 have hB:=zaa hB bx1
 have k1:=bx2
 clear bx1 bx2 bz
 go_wp2_with fail
 generalize w.alloc (.cells #[.bool false,.slice none 0 0,.slice none 0 0] 48) = W1 at *
 have HZ2 : Hid (Sz (1) (p).natAbs):=(by show Int.natAbs p < 18446744073709551616 ^ 1; have e1 : -9223372036854775808 ≤ p:=hp1; have e2 : p ≤ 9223372036854775807:=hp2; omega)
 (with_reducible refine (HIC.out.of p _ (HT.out _ hB) hp1 hp2).mono ?_)
 rintro e wc2 ⟨b2,B2,m2,d2,rfl,hw2,hb⟩
 have hB:=zaa hB hb
 have k1:=zac hb k1
 have HN2:=lh9 hw2
 clear hb hw2
 obtain ⟨sc0,sf0,sc1,sf1,sc2,sf2⟩:=st3 k1 (.bool b2) (.slice B2 m2 d2)
 obtain ⟨r0,r1,r2⟩:=(sn3 k1 (.bool b2) (.slice B2 m2 d2) (.slice none 0 0)).c3
 have HG:=lh9 (gq3 (zeu HN2.out) k1 hB (by omega))
 go_wp2
 refine bodyPost_ret (v:=.agg #[.bool b2,.slice B2 m2 d2,.slice none 0 0]) (by simp [results,Tryz.results27,go_sem,r0,r1,r2]) rfl ?_
 exact HG.out
end Go.Proofs.YtedbgdlbgohiiaaGreatDoor
namespace Go.Proofs.YtedbgdlbgohiiaaGreatDoor
open Go Go.RowKit
set_option maxHeartbeats 16000000
set_option maxRecDepth 100000
set_option linter.unusedVariables false
set_option linter.unusedSimpArgs false
def RefIn (w : World) (z : Int) (b : Bool) (A : oA9) (n c : Nat) : Prop:=b = decide (z < 0) ∧ zcA w z.natAbs A n c
theorem RefIn.below {w w' : World} {z : Int} {b : Bool} {A : oA9} {n c : Nat} (h : RefIn w z b A n c) (hb : Below w.heap.size w w') : RefIn w' z b A n c:=⟨h.1,h.2.below hb⟩
end Go.Proofs.YtedbgdlbgohiiaaGreatDoor
namespace Go.Proofs.YtedbgdlbgohiiaaGreatDoor
open Go Go.RowKit
set_option maxHeartbeats 16000000
set_option maxRecDepth 100000
set_option linter.unusedVariables false
set_option linter.unusedSimpArgs false
def RefQ (w : World) (r : Rat) (b : Bool) (A : oA9) (n c : Nat) (E : oA9) (k f : Nat) : Prop:=RefIn w r.num b A n c ∧ zcA w r.den E k f
theorem RefQ.below {w w' : World} {r : Rat} {b : Bool} {A : oA9} {n c : Nat} {E : oA9} {k f : Nat} (h : RefQ w r b A n c E k f) (hb : Below w.heap.size w w') : RefQ w' r b A n c E k f:=⟨h.1.below hb,h.2.below hb⟩
end Go.Proofs.YtedbgdlbgohiiaaGreatDoor
