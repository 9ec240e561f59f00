/- What this claim leans on. -/
import Derived.Test.YtfieheffipfahaaGreatDoorXW9Awake
import Derived.Test.YtfieheffipfahaaGreatDoorXW8Make
import Derived.LaidHandle
import Derived.LaidLaws
import Derived.LaidMore
import Derived.Lib.LaidTab
namespace Go.Proofs.YtfieheffipfahaaGreatDoor
open Go Go.RowKit
open Go.ChangeShapes Go.WideShapes Go.ChangeAt
set_option maxHeartbeats 16000000
section
variable {H : Type} {enc : TypeId × Value → H} {P : Program}
theorem post_of_below {f : Func} {s : ChangeSpec} {apart fresh handsOn again : Bool} {W W' : World} {args : Array Value} {v : Value} {ds gs : List (DataW H)} {before pa pv : List MemPlace}
  (hW : DataW.Whole enc P f.params.toList s.vars apart W args.toList ds gs before)
  (hres : ∀ (b : Nat) (sp : Nat → Bool) (hd : Bool),DataW.TrodAll enc P W' b sp hd f.resultTypes.toList (v.resultList f.resultTypes.size) (s.fn H (ds ++ gs)).results [])
  (hargs : ∀ sp : Nat → Bool,(∀ p ∈ before,sp p.block = true) → DataW.TrodAll enc P W' 0 sp true f.params.toList args.toList (s.fn H (ds ++ gs)).args pa)
  (hvars : ∀ sp : Nat → Bool,(∀ p ∈ before,sp p.block = true) → DataW.TrodVars enc P W' sp s.vars (s.fn H (ds ++ gs)).vars pv)
  (hps : before = pa ++ pv) (hb : Below W.heap.size W W')
  (hok : ∀ (j : Nat) (t : TypeId) (r : Value),f.resultTypes[j]? = some t → (v.resultList f.resultTypes.size)[j]? = some r → Value.okWide P W' .any 0 t r) :
  s.post enc P f apart fresh handsOn again W args v W' := by
 have hlt : ∀ p ∈ before,p.block < W.heap.size := fun p hp => hW.lt p hp
 have hold : ∀ p ∈ before,(fun b => decide (b < W.heap.size)) p.block = true := fun p hp => by simpa using hlt p hp
 refine ⟨ds,gs,before,[],pa,pv,hW,hres _ _ _,hargs _ hold,hvars _ hold,World.keptBut_mono (fun p hp => ⟨hp,?_⟩) (hb.frame (· ∈ before)),fun _ => ?_⟩
 ·rw [hps,List.mem_append] at hp
  exact Or.inr hp
 ·obtain ⟨_,_,_,_,_,hz,hn⟩ := hW
  refine ⟨hok,_,_,([] ++ pa) ++ pv,⟨[] ++ pa,pv,trodAll_append (hargs _ (fun _ _ => rfl)) (hres _ _ _),hvars _ (fun _ _ => rfl),rfl,?_,?_⟩,?_⟩
  ·intro b off hp
   have hin : MemPlace.cell b off ∈ before := by rw [hps]; simpa using hp
   rw [hb.frozen (hlt _ hin)]
   exact hz b off hin
  ·intro ha
   have := hn ha
   rw [hps] at this
   simpa using this
  ·intro p hp _
   rw [hps]
   simpa using hp
end
end Go.Proofs.YtfieheffipfahaaGreatDoor
namespace Go.Proofs.YtfieheffipfahaaGreatDoor
open Go Go.RowKit
set_option maxHeartbeats 16000000
theorem tabG : Tryz.prog.globalNamed "math/bits.deBruijn64tab" = some 4 := by kernel_rfl
theorem tabT : (Tryz.prog.globals[4]?).map (·.type) = some 233 := by kernel_rfl
theorem tabC : Tryz.prog.cellsOf 233 = 64 := by kernel_rfl
theorem tabC1 : Tryz.prog.cellsOf 5 = 1 := by kernel_rfl
theorem errG : Tryz.prog.globalNamed "errors.errorType" = some 0 := by kernel_rfl
theorem errR : (Tryz.prog.cutTypes.find? (·.1 == "internal/reflectlite.rtype")).map (·.2) = some 164 := by kernel_rfl
theorem errOne : ((List.range Tryz.prog.types.size).filter fun t => Tryz.prog.rowNamed t [101,114,114,111,114]) = [44] := by kernel_rfl
theorem tab9_of {W : World} (h : laidMetH Tryz.prog [("math/bits.deBruijn64tab",Rows.laid_math_bits_deBruijn64tab),("errors.errorType",Rows.laid_errors_errorType)] W) : zhs W := by
 have h' : laidMet Tryz.prog [("math/bits.deBruijn64tab",Rows.laid_math_bits_deBruijn64tab)] W ∧ handlesMet Tryz.prog [("errors.errorType",Rows.laid_errors_errorType)] W := h
 refine ⟨?_,?_⟩
 ·have hT : Lib.TabIs Tryz.prog W "math/bits.deBruijn64tab" .u8 (Lib.deBruijn64tab.map Int.ofNat) :=
   Lib.tabIs_of_head (rest := []) tabG tabT Tryz.underlying233 Tryz.underlying5 tabC1 tabC h'.1
  intro j hj
  have := hT.cell tabG j (by simpa using hj)
  rw [this]
  simp only [List.getD_eq_getElem?_getD,List.getElem?_map]
  cases Lib.deBruijn64tab[j]? <;> rfl
 ·obtain ⟨name,u,ty,e1,e2,e3,e4,e5⟩ := h'.2 _ (List.mem_singleton.2 rfl)
  have en : name = [101,114,114,111,114] := (Option.some.inj e1).symm
  subst en
  obtain rfl := Option.some.inj (errR.symm.trans e2)
  have hm : ty ∈ (List.range Tryz.prog.types.size).filter fun t => Tryz.prog.rowNamed t [101,114,114,111,114] := List.mem_filter.2 ⟨List.mem_range.2 e3,e4⟩
  rw [errOne] at hm
  obtain rfl := List.mem_singleton.1 hm
  have hh : typeHandle Tryz.prog 44 = .pointer (some ⟨5,44,none⟩) := by kernel_rfl
  rw [hh] at e5
  unfold zdg
  simpa using World.var?_cell errG e5 0
end Go.Proofs.YtfieheffipfahaaGreatDoor
namespace Go.Proofs.YtfieheffipfahaaGreatDoor
open Go Go.RowKit
set_option maxHeartbeats 16000000
set_option linter.unusedVariables false
theorem rat9 : RatC zaj (fun _ => False) := ratC (fun _ h => h) (fun h => h.elim) (fun h => h.elim) (fun h => h.elim)
theorem zlo (s : Bool) (A : oA9) (n c : Nat) (l : List Nat) (E : oA9) (u v : Nat) (e : List Nat) (w w' : World) (h : zaK w A n c l) (k : zaK w E u v e) (hb : Below w.heap.size w w') (hT : zhs w') :
  Calls Tryz.prog 11 #[.agg #[.bool s,.slice A n c,.slice E u v]] w' (zdh w' (fOf s l e)) :=
 zoh (fun _ _ h hb => h.on hb) zba rat9 s A n c l E u v e w' ⟨(h.reads.below hb).more hb.size,h.dgs,h.fits,h.small⟩ ⟨(k.reads.below hb).more hb.size,k.dgs,k.fits,k.small⟩ hT.1
theorem form_dgs {x : Rat} (h : zbk x.den ≤ 255) (k : zbk x.num.natAbs ≤ 255) : Dgs 256 (zaB x) := fun d hd => by
 have hp : ∀ y,zbk y ≤ 255 → ∀ d ∈ zaR y,d < 256 := fun y hy d hd => by
  rcases List.mem_cons.1 hd with rfl | hd
  ·omega
  ·exact zmu y d hd
 unfold zaB at hd
 rcases List.mem_cons.1 hd with rfl | hd
 ·unfold zaV; (repeat' split) <;> omega
 ·rcases List.mem_append.1 hd with hd | hd
  ·unfold zds at hd
   split at hd
   ·cases hd
   ·exact hp _ h d hd
  ·unfold numL at hd
   split at hd
   ·cases hd
   ·exact hp _ k d hd
theorem zeY (x : Rat) : zha x = .no ∧ zhO x = zaB x ∧ (zaB x).length ≤ 513 ∧ Dgs 256 (zaB x) ∨ zhO x = [] ∧ zha x ≠ .no ∧ (zha x).has 3 = true := by
 by_cases hD : zbk x.den ≤ 255
 ·by_cases hN : zbk x.num.natAbs ≤ 255
  ·exact .inl ⟨(zdB hD hN).1,(zdB hD hN).2,by rw [zhT]; (repeat' split) <;> omega,form_dgs hD hN⟩
  ·rw [(zhf hD hN).1,(zhf hD hN).2]; exact .inr ⟨rfl,(fun e => by cases e),rfl⟩
 ·rw [(zhe hD).1,(zhe hD).2]; exact .inr ⟨rfl,(fun e => by cases e),rfl⟩
theorem zlp {l : List Nat} (h : Dgs 256 l) : (l.map UInt8.ofNat).map UInt8.toNat = l := by
 induction l with
 | nil => rfl
 | cons a t ih =>
   have ha := h a (List.mem_cons_self ..)
   simp only [List.map_cons]
   rw [ih fun d hd => h d (List.mem_cons_of_mem _ hd)]
   congr 1
   simp [UInt8.toNat_ofNat']; omega
theorem strL_eq {a b : List Nat} (ha : Dgs 256 a) (hb : Dgs 256 b) : ((zgz a).toList == (zgz b).toList) = decide (a = b) := by
 refine znD _ _ _ (decide_eq_decide.2 ?_)
 rw [zjw,zjw]
 exact ⟨fun h => by rw [← zlp ha,← zlp hb,h],fun h => by rw [h]⟩
section
variable {P : Program} {ops : Array Oper} {Q : Exit → Act → World → Prop} {a : Act} {w : World}
theorem rg9 {id : Nat} {cl : List (Addr × Value)} (h0 : Cs w cl) (h : (Cs w.drew cl ∧ Below w.heap.size w w.drew) → wpAnyH P .any ops (NoPanic Q) (fun w' => Cs w' cl ∧ Below w.heap.size w w') ops.size (Array.replicate ops.size false) a w.drew) (hm : P.follows Departure.mixedOrders = true := by kernel_rfl) : Code.wp P (.region id ops true) Q a w :=
 wp_region_noPanic (wp_region_held_drew (S := fun w' => Cs w' cl ∧ Below w.heap.size w w') hm ⟨h0.drew,(Below.refl _ w).drew⟩ h)
end
theorem zla {w : World} {er : Er} {v : Value} (h : zbO w er v) : ∃ b : Bool,(∀ w',(binOp .eql 44 v .nilIface).run Tryz.prog w' = .ok (.bool b) w') ∧ (∀ (j : Nat) (w' : World),(eqGuard .eql 44 (.tmp j) (.const .nilIface) v .nilIface).run Tryz.prog w' = .ok () w') ∧ (b = true ↔ er = .no) := by
 cases er with
 | no => obtain rfl := h; exact ⟨true,zaF,fun _ _ => rfl,by simp⟩
 | bare n => obtain rfl := h; exact ⟨false,zaC _ _,fun _ _ => rfl,by simp⟩
 | spot n s k => obtain ⟨fb,rfl,_⟩ := h; exact ⟨false,zaC _ _,fun _ _ => rfl,by simp⟩
end Go.Proofs.YtfieheffipfahaaGreatDoor
namespace Go.Proofs.YtfieheffipfahaaGreatDoor
open Go Go.RowKit
set_option maxHeartbeats 16000000
set_option maxRecDepth 100000
set_option linter.unusedVariables false
set_option linter.unusedSimpArgs false
theorem packSizes_core (s0 : Bool) (A0 : oA9) (n0 c0 : Nat) (l0 : List Nat) (E0 : oA9) (u0 v0 : Nat) (e0 : List Nat) (w : World) (h0 : zaK w A0 n0 c0 l0) (k0 : zaK w E0 u0 v0 e0) (hT : zhs w) :
  Calls Tryz.prog 9 #[.agg #[.bool s0,.slice A0 n0 c0,.slice E0 u0 v0]] w fun e w' => e = .returned (.bool true) ∧ Below w.heap.size w w' := by
 have HT := lh9 (fun w' (hb : Below w.heap.size w w') => hT.on hb)
 have HAW := lh9 (fun w' (hb : Below w.heap.size w w') => zdn w' (hT.on hb))
 have HM := lh9 (fun w' (hb : Below w.heap.size w w') => zlo s0 A0 n0 c0 l0 E0 u0 v0 e0 w w' h0 k0 hb (hT.on hb))
 have S0 : SzQ 1048576 (fOf s0 l0 e0) := zhQ h0 k0
 obtain ⟨x,hx⟩ : ∃ x,fOf s0 l0 e0 = x := ⟨_,rfl⟩
 rw [hx] at HM S0
 obtain ⟨K,hK⟩ : ∃ K,1048576 = K := ⟨_,rfl⟩
 have hKK : K ≤ 1048576 := by omega
 rw [hK] at S0
 have HZ := lh9 S0
 have HZN : Hid (Sz K x.num.natAbs) := S0.num
 have HZD : Hid (Sz K x.den) := S0.den
 have hbn : bitLen x.num.natAbs ≤ 67108864 := Nat.le_trans (zcy _ (64 * K) (by rw [← zjt]; exact S0.num)) (by omega)
 have hbd : bitLen x.den ≤ 67108864 := Nat.le_trans (zcy _ (64 * K) (by rw [← zjt]; exact S0.den)) (by omega)
 have hln : zbk x.num.natAbs = (bitLen x.num.natAbs + 7) / 8 := zfr _
 have hld : zbk x.den = (bitLen x.den + 7) / 8 := zfr _
 have HFL := lh9 (zhT x)
 have HBN := lh9 (fun A n c w h hn => zdR x.num.natAbs A n c w h hn)
 have HBD := lh9 (fun A n c w h hn => zdR x.den A n c w h hn)
 have HE := lh9 (fun w' b A n c E u v h hz h2 => zcU x b A n c E u v w' h hz h2)
 unfold zcB at HE
 have HE1 := lh9 (@zhe x)
 have HE2 := lh9 (@zhf x)
 have HE3 := lh9 (@zdB x)
 obtain ⟨bn,hbn0⟩ : ∃ b,bitLen x.num.natAbs = b := ⟨_,rfl⟩
 obtain ⟨bd,hbd0⟩ : ∃ b,bitLen x.den = b := ⟨_,rfl⟩
 obtain ⟨N,hN⟩ : ∃ b,zbk x.num.natAbs = b := ⟨_,rfl⟩
 obtain ⟨D,hD⟩ : ∃ b,zbk x.den = b := ⟨_,rfl⟩
 obtain ⟨EE,hEE⟩ : ∃ b,zha x = b := ⟨_,rfl⟩
 obtain ⟨EL,hEL⟩ : ∃ b,zhO x = b := ⟨_,rfl⟩
 obtain ⟨F,hF⟩ : ∃ b,zaB x = b := ⟨_,rfl⟩
 simp only [hbn0,hbd0,hN,hD,hEE,hEL,hF] at hbn hbd hln hld HFL HBN HBD HE HE1 HE2 HE3
 have a1 : IntKind.i64.wrap ((bn : Int) + 7) = (bn : Int) + 7 := IntWalk.i64_in _ (by omega)
 have a2 : IntKind.i64.wrap ((bd : Int) + 7) = (bd : Int) + 7 := IntWalk.i64_in _ (by omega)
 have a3 : ((bn : Int) + 7) / 8 = (N : Int) := by omega
 have a4 : ((bd : Int) + 7) / 8 = (D : Int) := by omega
 have a5 : ((bn : Int) + 7).tdiv 8 = (N : Int) := by rw [Int.tdiv_eq_ediv_of_nonneg (by omega)]; exact a3
 have a6 : ((bd : Int) + 7).tdiv 8 = (D : Int) := by rw [Int.tdiv_eq_ediv_of_nonneg (by omega)]; exact a4
 have a7 : IntKind.i64.wrap (N : Int) = (N : Int) := IntWalk.i64_in _ (by omega)
 have a8 : IntKind.i64.wrap (D : Int) = (D : Int) := IntWalk.i64_in _ (by omega)
 clear hbn0 hbd0 hN hD hEE hEL hF hln hld
 clear hT h0 k0 S0 hx hK
 go_enter Tryz.func9,Tryz.ntmps9
 have hB := Below.refl w.heap.size w
 obtain ⟨bx1,bx2,bz⟩ := zav w 26 #[.bool s0,.slice A0 n0 c0,.slice E0 u0 v0]
 have hB := bx1
 have kp := bx2
 clear bx1 bx2 bz
 go_wp2_with fail
 refine (HAW.out _ hB).mono ?_
 rintro e w1 ⟨rfl,hb⟩
 have kp := zac hb kp
 have hB := zaa hB hb
 clear hb HAW
 obtain ⟨g1,e1,i1⟩ := kp.c3
 go_wp2_with fail
 refine (HM.out _ hB).mono ?_
 rintro e w2 ⟨bx,Bx,mx,dx,Fx,gx,fx,rfl,hx,hb⟩
 have kp := zac hb kp
 have hB := zaa hB hb
 clear hb HM g1 e1 i1
 clear kp
 obtain ⟨bx1,bx2,bz⟩ := zav w2 33 #[.bool bx,.slice Bx mx dx,.slice Fx gx fx]
 have hx := hx.below bx1
 have hB := zaa hB bx1
 have kx := bx2
 clear bx1 bx2 bz
 go_upto_region 4 with fail
 generalize w2.alloc (.cells #[.bool bx,.slice Bx mx dx,.slice Fx gx fx] 33) = X3 at *
 obtain ⟨qx,hq⟩ : ∃ q,w2.heap.size = q := ⟨_,rfl⟩
 rw [hq] at kx ⊢
 clear hq
 obtain ⟨g1,e1,i1⟩ := kx.c3
 have hBw := (Below.refl X3.heap.size X3).drew
 refine rg (csc g1 (csc e1 (csc i1 csn))) (fun hHeld => ?_)
 have hx := hx.below hBw
 have kx := zac hBw kx
 have hB := zaa hB hBw
 generalize X3.drew = D4 at *
 clear hBw
 clear g1 e1 i1
 refine tk 0 ?_
 refine tk 6 ?_
 refine rc 1 (fun K hK => ?_)
 go_simp
 refine (zgd x bx Bx mx dx Fx gx fx _ (HT.out _ hB).1 hx (szq HZ hx)).mono ?_
 rintro e w5 ⟨b1,B1,m1,d1,rfl,h1,hb⟩
 have hx := hx.below hb
 have kx := zac hb kx
 have hB := zaa hB hb
 refine hK.out _ _ (hHeld.below hb) (fun hHeld => ?_); clear hK K
 try simp only [sb9]
 clear hb
 refine rc 2 (fun K hK => ?_)
 go_simp
 refine (zez x.num b1 B1 m1 d1 _ h1 (szi HZN h1)).mono ?_
 rintro e w6 ⟨B2,m2,d2,rfl,h2,hb,-⟩
 have hx := hx.below hb
 have kx := zac hb kx
 have h1 := h1.below hb
 have hB := zaa hB hb
 refine hK.out _ _ (hHeld.below hb) (fun hHeld => ?_); clear hK K
 try simp only [sb9]
 clear hb
 refine rc 3 (fun K hK => ?_)
 go_simp
 refine (HBN.out B2 m2 d2 _ h2 (szw HZN h2)).mono ?_
 rintro e w7 ⟨rfl,hb⟩
 have hx := hx.below hb
 have kx := zac hb kx
 have h1 := h1.below hb
 have h2 := h2.below hb
 have hB := zaa hB hb
 refine hK.out _ _ (hHeld.below hb) (fun hHeld => ?_); clear hK K
 try simp only [sb9]
 clear hb
 clear h1 h2
 refine tk 4 ?_
 refine tk 5 ?_
 refine rc 7 (fun K hK => ?_)
 go_simp
 refine (zgc x bx Bx mx dx Fx gx fx _ (HT.out _ hB).1 hx (szq HZ hx)).mono ?_
 rintro e w8 ⟨B3,m3,d3,rfl,h3,hb⟩
 have hx := hx.below hb
 have kx := zac hb kx
 have hB := zaa hB hb
 refine hK.out _ _ (hHeld.below hb) (fun hHeld => ?_); clear hK K
 try simp only [sb9]
 clear hb
 refine rc 8 (fun K hK => ?_)
 go_simp
 refine (HBD.out B3 m3 d3 _ h3 (szw HZD h3)).mono ?_
 rintro e w9 ⟨rfl,hb⟩
 have hx := hx.below hb
 have kx := zac hb kx
 have h3 := h3.below hb
 have hB := zaa hB hb
 refine hK.out _ _ (hHeld.below hb) (fun hHeld => ?_); clear hK K
 try simp only [sb9]
 clear hb
 clear h3
 refine tk 9 ?_
 refine tk 10 ?_
 refine tk 11 ?_
 refine tk 12 ?_
 refine rdn ?_
 clear hHeld HBN HBD
 have n0 := zaF
 have i2 : IntKind.i64.wrap (2 + (N : Int)) = 2 + (N : Int) := IntWalk.i64_in _ (by omega)
 have i3 : IntKind.i64.wrap (3 + (N : Int)) = 3 + (N : Int) := IntWalk.i64_in _ (by omega)
 have i4 : IntKind.i64.wrap (3 + (N : Int) + (D : Int)) = 3 + (N : Int) + (D : Int) := IntWalk.i64_in _ (by omega)
 obtain ⟨z,hz⟩ : ∃ z,decide (x = 0) = z := ⟨_,rfl⟩
 obtain ⟨o,ho⟩ : ∃ z,decide (x.den = 1) = z := ⟨_,rfl⟩
 have hfl : F.length = if z = true then 1 else if o = true then 2 + N else 3 + N + D := by rw [HFL.out,← hz,← ho]; simp only [decide_eq_true_eq]
 obtain ⟨L,hL⟩ : ∃ L,F.length = L := ⟨_,rfl⟩
 rw [hL] at hfl
 have HZE := lh9 (fun w' b A n c E u v h hq h2 => zcV x b A n c E u v w' h hq h2)
 have HIS := lh9 (fun w' b A n c E u v h hq h2 => zbi x b A n c E u v w' h hq h2)
 rw [hz] at HZE
 rw [ho] at HIS
 have HLL := lh9 hL
 clear hz ho hL HFL
 obtain ⟨g1,e1,i1⟩ := kx.c3
 go_wp2_with fail
 refine (HZE.out _ bx Bx mx dx Fx gx fx (HT.out _ hB).1 hx (szq HZ hx)).mono ?_
 rintro e w10 ⟨rfl,hb⟩
 have hx := hx.below hb
 have kx := zac hb kx
 have hB := zaa hB hb
 clear hb HZE g1 e1 i1
 have hW := Below.refl w10.heap.size w10
 obtain ⟨g1,e1,i1⟩ := kx.c3
 go_upto_if 27 with fail
 go_cut [6,28,29,30,31,32,33,34] (fun s6 _ _ _ _ _ _ _ wx => s6 = .int .i64 ((L : Nat) : Int) ∧ Below w10.heap.size w10 wx)
 case first =>
  clear HE HE1 HE2 HE3
  cases z with
  | true =>
    rw [if_pos rfl] at hfl
    subst hfl
    go_wp2
    go_meet
    exact ⟨rfl,hW⟩
  | false =>
    rw [if_neg (by decide)] at hfl
    go_wp2_with fail
    refine (HIS.out _ bx Bx mx dx Fx gx fx (HT.out _ hB).1 hx (szq HZ hx)).mono ?_
    rintro e w8 ⟨rfl,hb⟩
    clear g1 e1 i1
    cases o with
    | true =>
      rw [if_pos rfl] at hfl
      have e9 : ((L : Nat) : Int) = 2 + (N : Int) := by omega
      go_wp2
      go_meet
      exact ⟨by rw [e9],hb⟩
    | false =>
      rw [if_neg (by decide)] at hfl
      have e9 : ((L : Nat) : Int) = 3 + (N : Int) + (D : Int) := by omega
      go_wp2
      go_meet
      exact ⟨by rw [e9],hb⟩
 case rest =>
 obtain ⟨rfl,hb⟩ := hcut
 obtain ⟨V,hV⟩ : ∃ x,x = wc := ⟨_,rfl⟩
 subst hV
 clear hW g1 e1 i1 HIS hfl
 have hx := hx.below hb
 have kx := zac hb kx
 have hB := zaa hB hb
 clear hb
 obtain ⟨g1,e1,i1⟩ := kx.c3
 go_wp2_with fail
 refine (HE.out _ bx Bx mx dx Fx gx fx (HT.out _ hB).1 hx (szq HZ hx)).mono ?_
 rintro e w11 ⟨v9,ev9,rfl,hr9,he9,hb⟩
 have hx := hx.below hb
 have kx := zac hb kx
 have hB := zaa hB hb
 clear hb HE g1 e1 i1
 by_cases hN : N ≤ 255
 ·by_cases hD : D ≤ 255
  ·obtain ⟨rfl,rfl⟩ := HE3.out hD hN
   obtain rfl := he9
   obtain ⟨A9,c9,rfl,-,-,-⟩ := hr9.reads
   rw [HLL.out]
   have j1 : ¬ ((255 : Int) < (N : Int)) := by omega
   have j2 : ¬ ((255 : Int) < (D : Int)) := by omega
   clear HE1 HE2 HE3 hr9 kx hx
   go_wp2
   go_ret
   exact ⟨by first | rfl | simp,hB⟩
  ·have HI := lh9 (zbv EE ev9 3 _ he9)
   rw [(HE1.out hD).1] at HI
   have j1 : ¬ ((255 : Int) < (N : Int)) := by omega
   have j2 : (255 : Int) < (D : Int) := by omega
   clear HE1 HE2 HE3 hr9 kx hx he9
   go_wp2_with fail
   refine HI.out.mono ?_
   rintro e w9 ⟨rfl,rfl⟩
   clear HI
   go_wp2
   go_ret
   exact ⟨rfl,hB⟩
 ·have hh : EE.has 3 = true := by
   by_cases hD : D ≤ 255
   ·rw [(HE2.out hD hN).1]; rfl
   ·rw [(HE1.out hD).1]; rfl
  have HI := lh9 (zbv EE ev9 3 _ he9)
  rw [hh] at HI
  have j1 : (255 : Int) < (N : Int) := by omega
  clear HE1 HE2 HE3 hr9 kx hx he9
  go_wp2_with fail
  refine HI.out.mono ?_
  rintro e w9 ⟨rfl,rfl⟩
  clear HI
  go_wp2
  go_ret
  exact ⟨rfl,hB⟩
end Go.Proofs.YtfieheffipfahaaGreatDoor
