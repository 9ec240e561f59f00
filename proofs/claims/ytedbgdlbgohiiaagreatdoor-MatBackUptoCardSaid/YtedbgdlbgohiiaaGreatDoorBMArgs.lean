/- What this claim leans on. -/
import Derived.Test.YtedbgdlbgohiiaaGreatDoorBMLook
import Derived.Test.YtedbgdlbgohiiaaGreatDoorBMGrid
namespace Go.Proofs.YtedbgdlbgohiiaaGreatDoor
open Go Go.RowKit
open Go.ChangeShapes Go.WideShapes Go.ChangeAt Go.Deep
set_option maxHeartbeats 16000000
set_option linter.unusedVariables false
theorem zeS {H : Type} {enc : TypeId × Value → H} {P : Program} {W : World} {fuel : Nat} {t9 t0 t : TypeId} {f0 f1 : Field} {v : Value} {x : DataW H × List MemPlace}
  (ht9 : P.underlying t9 = some (.slice t0)) (hC9 : P.cellsOf t0 = 1) (ht : P.underlying t0 = some (.slice t)) (hs : P.underlying t = some (.struct #[f0,f1])) (hf : (f0.offset,P.cellsOf f0.type,f1.offset,P.cellsOf f1.type) = (0,1,1,1)) (hC : P.cellsOf t = 2) (h0 : P.underlying f0.type = some (.int .i64)) (h1 : P.underlying f1.type = some (.int .i64))
  (h : DataW.trod enc P W 0 (fun _ => true) true fuel t9 [v] = some x) (hb : Rows.uptoBulk x.1 ≤ 1048576) : ∃ A n c R,v = .slice A n c ∧ zaR W A n c R:=by
 have go : ∀ A n c,[v] = [Value.slice A n c] → ∃ A n c R,v = .slice A n c ∧ zaR W A n c R:=fun A n c e => by
  simp only [List.cons.injEq,and_true] at e
  subst e
  obtain ⟨R,hR⟩:=zhR ht9 hC9 ht hs hf hC h0 h1 (A:=A) (n:=n) (c:=c) (by simpa [Value.cells] using h) hb
  exact ⟨A,n,c,R,rfl,hR⟩
 rcases open_slice ht9 h with ⟨hcs,_⟩ | ⟨a,len,cap,m,k,D,Pl,hcs,_⟩
 ·exact go _ _ _ hcs
 ·exact go _ _ _ hcs
theorem arg_grid {H : Type} {enc : TypeId × Value → H} {P : Program} {W : World} {r : Reach} {b0 : Nat} {t8 t9 t0 t : TypeId} {g0 g1 f0 f1 : Field} {v : Value} {d : DataW H} {p : List MemPlace}
  (hs8 : P.underlying t8 = some (.struct #[g0,g1])) (hone : oneCellFields P #[g0,g1] = true) (hC8 : P.cellsOf t8 = 2) (k0 : P.underlying g0.type = some (.int .u8)) (ht9 : P.underlying g1.type = some (.slice t0)) (hC9 : P.cellsOf t0 = 1) (ht : P.underlying t0 = some (.slice t))
  (hs : P.underlying t = some (.struct #[f0,f1])) (hf : (f0.offset,P.cellsOf f0.type,f1.offset,P.cellsOf f1.type) = (0,1,1,1)) (hC : P.cellsOf t = 2) (h0 : P.underlying f0.type = some (.int .i64)) (h1 : P.underlying f1.type = some (.int .i64))
  (hv : Value.okWide P W r b0 t8 v) (h : DataW.Trod enc P W 0 (fun _ => true) true t8 v d p) (hb : Rows.uptoBulk d ≤ 1048576) : ∃ (z : Nat) (A : oA9) (n c : Nat) (R : Nat → oA9 × Nat × Nat × List (Int × Int)),v = .agg #[.int .u8 (z : Int),.slice A n c] ∧ z ≤ 255 ∧ zaR W A n c R:=by
 obtain ⟨v0,v1,y0,y1,n,rfl,rfl,rfl,e0,e1⟩:=Go.Joins.open_agg2 hs8 hone hC8 hv h
 obtain ⟨z,hz,_,wz⟩:=DataW.trod_int k0 e0
 simp only [List.cons.injEq,and_true] at hz
 subst hz
 have bz:=bounds_u8 wz
 obtain ⟨A,m,c,R,rfl,hR⟩:=zeS ht9 hC9 ht hs hf hC h0 h1 e1 (by simp only [Rows.uptoBulk,Rows.uptoBulkAll] at hb; omega)
 exact ⟨z.toNat,A,m,c,R,by rw [Int.toNat_of_nonneg bz.1],by omega,hR⟩
end Go.Proofs.YtedbgdlbgohiiaaGreatDoor
namespace Go.Proofs.YtedbgdlbgohiiaaGreatDoor
open Go Go.RowKit
set_option maxHeartbeats 16000000
set_option linter.unusedVariables false
theorem ratC {T : World → Prop} {M : Nat → Prop} (hTT : ∀ w,T w → zaj w) (h0 : M 0 → RatG0 T) (h1 : M 1 → RatG1 T) (h2 : M 2 → RatG2 T) : RatC T M where
 g0:=h0
 g1:=h1
 g2:=h2
 new p q b b' A D n m c d w hT hA hD hn hm h0:=zmv p q b A n c b' D m d w (hTT w hT) hA hD hn hm h0
 newNo p q b b' A D n m c d w hT hA hD hn hm h0:=zhv p q b A n c b' D m d w (hTT w hT) hA hD hn hm h0
 of p q w hT h1 h2 h3 h4 h0:=rat_of p q w (hTT w hT) h1 h2 h3 h4 h0
 ofNo p q w hT h1 h2 h0:=znw p q w (hTT w hT) h1 h2 (by omega) (by omega) h0
 num r b A n c E k f w hT h hf:=rat_num r b A n c E k f w (hTT w hT) h hf
 den r b A n c E k f w hT h hf:=rat_den r b A n c E k f w (hTT w hT) h hf
 sign r b A n c E k f w hT h hf:=zhw r b A n c E k f w (hTT w hT) h hf
 zero r b A n c E k f w hT h hf:=zaU r b A n c E k f w (hTT w hT) h hf
 isInt r b A n c E k f w hT h hf:=zbg r b A n c E k f w (hTT w hT) h hf
 bits r b A n c E k f w hT h hf:=zkl r b A n c E k f w (hTT w hT) h hf
 add r s b b' A A' n n' c c' E E' k k' f f' w hT h h' hf hf':=zmt r s b A n c E k f b' A' n' c' E' k' f' w (hTT w hT) h h' hf hf'
 cmp r s b b' A A' n n' c c' E E' k k' f f' w hT h h' hf hf':=zmu r s b A n c E k f b' A' n' c' E' k' f' w (hTT w hT) h h' hf hf'
 same r s b b' A A' n n' c c' E E' k k' f f' w hT h h' hf hf':=zkp r s b A n c E k f b' A' n' c' E' k' f' w (hTT w hT) h h' hf hf'
end Go.Proofs.YtedbgdlbgohiiaaGreatDoor
namespace Go.Proofs.YtedbgdlbgohiiaaGreatDoor
open Go Go.RowKit
set_option maxHeartbeats 16000000
set_option maxRecDepth 100000
set_option linter.unusedVariables false
set_option linter.unusedSimpArgs false
section
variable {A : oA9} {n c m K : Nat} {MM : List (List Rat)} {w : World}
theorem znd {j p : Nat} (hp : p + 1 = m) (hT : zaj w) (h : zat w A n c m MM) (z : zau K MM) (hj : j < m) (hK : K + 2 ≤ 67108864:=by omega) :
  Calls Tryz.prog 49 #[.agg #[.slice A n c,.int .i64 (m : Int)],.int .i64 (j : Int)] w (zbq w n p (zbw n p fun a b => if b < j then atM MM a b else atM MM a (b + 1))):=by
 obtain ⟨hn,hm⟩:=And.intro h.hn h.hm
 obtain ⟨bx,by0,by1,by2,bz⟩:=zbh w 28 3 28 #[.slice A n c,.int .i64 (m : Int)] #[.int .i64 (j : Int)] #[.slice none 0 0,.int .i64 0]
 have HK0:=lh9 by0
 have HK1:=lh9 by1
 have HK2:=lh9 by2
 have HB:=lh9 bx
 have HR:=fun W => lh9 (zaW A n c (m : Int) W)
 have HC:=fun W => lh9 (zik (zfz hj) A n c W)
 have HM : ∀ W,Below w.heap.size w W → Blk W (w.heap.size) 28 #[.slice A n c,.int .i64 (m : Int)] → Blk W (w.heap.size + 1) 3 #[.int .i64 (j : Int)] → ∀ z9 : Int,z9 = ((p : Nat) : Int) → Hid (Calls Tryz.prog 56 #[.int .i64 ((n : Nat) : Int),.int .i64 z9,.func (.func 88) #[] #[.pointer (some ⟨w.heap.size + 1,0,none⟩),.pointer (some ⟨w.heap.size,0,none⟩)]] W (zba W (n) (p) (zbw n p fun a b => if b < j then atM MM a b else atM MM a (b + 1)))):=fun W hW k0 k1 z9 hz9 => by
  subst hz9
  have hh:=h.keep hW
  exact zcZ (K:=K) (fun a b => if b < j then atM MM a b else atM MM a (b + 1)) 88 #[.pointer (some ⟨w.heap.size + 1,0,none⟩),.pointer (some ⟨w.heap.size,0,none⟩)] n p W (hT.on hW) ⟨zmW,fun a b ha hb9 w' hb => cl_nocol (hh.keep hb) (zac hb k0) (zac hb k1) ha (by omega) hm⟩ (fun a b ha hb9 => by split; exact z.at_ h.dims ha (by omega); exact z.at_ h.dims ha (by omega)) hn (by omega) hK
 have HP:=lh9 hp
 clear bx bz by0 by1 by2 hT h z hp
 obtain ⟨p0_0,p0_1⟩:=HK0.out.c2
 have p1_0:=HK1.out.c1
 go_enter Tryz.func49,Tryz.ntmps49
 go_wp2_with fail
 refine ((HC _).out).mono ?_
 rintro e w1 ⟨rfl,hb⟩
 clear p0_0 p0_1 p1_0
 have HB:=lh9 (zaa HB.out hb)
 have HK0:=lh9 (zac hb HK0.out)
 have HK1:=lh9 (zac hb HK1.out)
 have HK2:=lh9 (zac hb HK2.out)
 clear hb
 obtain ⟨p0_0,p0_1⟩:=HK0.out.c2
 have p1_0:=HK1.out.c1
 go_wp2_with fail
 refine rg (csc p0_0 (csc p0_1 csn)) (fun hHeld => ?_)
 clear p0_0 p0_1 p1_0
 have hbd:=(Below.refl w1.heap.size w1).drew
 have HB:=lh9 (zaa HB.out hbd)
 have HK0:=lh9 (zac hbd HK0.out)
 have HK1:=lh9 (zac hbd HK1.out)
 have HK2:=lh9 (zac hbd HK2.out)
 clear hbd
 generalize w1.drew = D at *
 refine tk 0 ?_
 refine tk 2 ?_
 refine tk 3 ?_
 refine tk 5 ?_
 refine tk 4 ?_
 refine rc 1 (fun KK hK9 => ?_)
 go_simp
 refine ((HR _).out).mono ?_
 rintro e w2 ⟨rfl,hb⟩
 refine hK9.out _ _ (Cs.below hHeld hb) (fun hHeld => ?_)
 clear hK9 KK
 have HB:=lh9 (zaa HB.out hb)
 have HK0:=lh9 (zac hb HK0.out)
 have HK1:=lh9 (zac hb HK1.out)
 have HK2:=lh9 (zac hb HK2.out)
 clear hb
 refine rc 6 (fun KK hK9 => ?_)
 go_simp
 refine (HM _ HB.out HK0.out HK1.out _ (by have h0:=HP.out; have e : IntKind.i64.wrap ((m : Int) - 1) = (m : Int) - 1:=IntWalk.i64_in _ (by omega); omega)).out.mono ?_
 rintro e w3 ⟨A3,c3,rfl,hm3,hf3,hb⟩
 refine hK9.out _ _ (Cs.below hHeld hb) (fun hHeld => ?_)
 clear hK9 KK
 have hk3:=zac hb HK2.out
 obtain ⟨sc0,sf0,sc1,sf1⟩:=st2 hk3 (.slice A3 (n) c3)
 obtain ⟨r0,r1⟩:=(sn2 hk3 (.slice A3 (n) c3) (.int .i64 ((p : Nat) : Int))).c2
 have HG:=lh9 (gmb2 hm3 (fun ad e => Nat.lt_of_lt_of_le HK2.out.lt (hf3 ad e)) hk3 (zaa HB.out hb) (by omega))
 clear hb hk3 hm3 hf3 HB HM HK0 HK1 HK2
 refine rc 7 (fun KK hK9 => ?_)
 go_simp
 refine hK9.out _ _ ?_ (fun hHeld => ?_)
 ·refine Cs.far hHeld (zdf _ _ _ _) ⟨?_,?_,trivial⟩ <;> (show w.heap.size ≠ w.heap.size + 1 + 1; omega)
 clear hK9 KK
 refine tk 8 ?_
 refine rdn ?_
 clear hHeld sc0 sf0 sc1 sf1
 go_wp2
 refine bodyPost_ret (v:=.tuple #[.agg #[.slice A3 (n) c3,.int .i64 ((p : Nat) : Int)],.bool true]) (by simp [results,Tryz.results49,go_sem,r0,r1]) rfl ?_
 exact HG.out
theorem zka {V : oA9} {cv p : Nat} {xs : List Rat} (hp : m + 1 = p) (hT : zaj w) (h : zat w A n c m MM) (z : zau K MM) (hv : zaD w V n cv xs) (zx : zav K xs) (hm9 : m < 64) (hK : K + 2 ≤ 67108864:=by omega) :
  Calls Tryz.prog 48 #[.agg #[.slice A n c,.int .i64 (m : Int)],.slice V n cv] w (zbq w n p (zbw n p fun a b => if b = m then xs.getD a 0 else atM MM a b)):=by
 obtain ⟨hn,hm⟩:=And.intro h.hn h.hm
 obtain ⟨bx,by0,by1,by2,bz⟩:=zbh w 28 51 28 #[.slice A n c,.int .i64 (m : Int)] #[.slice V n cv] #[.slice none 0 0,.int .i64 0]
 have HK0:=lh9 by0
 have HK1:=lh9 by1
 have HK2:=lh9 by2
 have HB:=lh9 bx
 have HR:=fun W => lh9 (zaW A n c (m : Int) W)
 have HMY : ∀ (W : World) (z9 : Int),z9 = (p : Int) → Hid (Calls Tryz.prog 55 #[.int .i64 (n : Int),.int .i64 z9] W (fun e w' => e = .returned (.bool true) ∧ W = w')):=fun W z9 hz9 => by subst hz9; exact zgc (zfB hn (show p ≤ 64 by omega)) W
 have e0 : ((n : Int) != (n : Int)) = false:=by simp
 have hlv:=hv.len
 have HM : ∀ W,Below w.heap.size w W → Blk W (w.heap.size) 28 #[.slice A n c,.int .i64 (m : Int)] → Blk W (w.heap.size + 1) 51 #[.slice V n cv] → ∀ z9 : Int,z9 = ((p : Nat) : Int) → Hid (Calls Tryz.prog 56 #[.int .i64 ((n : Nat) : Int),.int .i64 z9,.func (.func 87) #[] #[.pointer (some ⟨w.heap.size,0,none⟩),.pointer (some ⟨w.heap.size + 1,0,none⟩)]] W (zba W (n) (p) (zbw n p fun a b => if b = m then xs.getD a 0 else atM MM a b))):=fun W hW k0 k1 z9 hz9 => by
  subst hz9
  have hh:=h.keep hW
  exact zcZ (K:=K) (fun a b => if b = m then xs.getD a 0 else atM MM a b) 87 #[.pointer (some ⟨w.heap.size,0,none⟩),.pointer (some ⟨w.heap.size + 1,0,none⟩)] n p W (hT.on hW) ⟨zjK,fun a b ha hb9 w' hb => zkQ (hh.keep hb) (zac hb k0) (zac hb k1) ((hv.keep hW).keep hb) ha (by omega)⟩ (fun a b ha hb9 => by split; exact zx.at_ (by omega); exact z.at_ h.dims ha (by omega)) hn (by omega) hK
 have HP:=lh9 hp
 clear bx bz by0 by1 by2 hT h z hv zx hlv hp
 obtain ⟨p0_0,p0_1⟩:=HK0.out.c2
 have p1_0:=HK1.out.c1
 go_enter Tryz.func48,Tryz.ntmps48
 go_wp2_with fail
 generalize ((w.alloc (.cells #[.slice A n c,.int .i64 (m : Int)] 28)).alloc (.cells #[.slice V n cv] 51)).alloc (.cells #[.slice none 0 0,.int .i64 0] 28) = W1 at *
 refine rg (csc p0_0 (csc p0_1 (csc p1_0 csn))) (fun hHeld => ?_)
 clear p0_0 p0_1 p1_0
 have hbd:=(Below.refl W1.heap.size W1).drew
 have HB:=lh9 (zaa HB.out hbd)
 have HK0:=lh9 (zac hbd HK0.out)
 have HK1:=lh9 (zac hbd HK1.out)
 have HK2:=lh9 (zac hbd HK2.out)
 clear hbd
 generalize W1.drew = D at *
 refine tk 0 ?_
 refine tk 1 ?_
 refine tk 2 ?_
 refine rc 3 (fun KK hK9 => ?_)
 go_simp
 refine ((HR _).out).mono ?_
 rintro e w2 ⟨rfl,hb⟩
 refine hK9.out _ _ (Cs.below hHeld hb) (fun hHeld => ?_)
 clear hK9 KK
 have HB:=lh9 (zaa HB.out hb)
 have HK0:=lh9 (zac hb HK0.out)
 have HK1:=lh9 (zac hb HK1.out)
 have HK2:=lh9 (zac hb HK2.out)
 clear hb
 refine tk 4 ?_
 refine tk 5 ?_
 refine tk 6 ?_
 refine tk 8 ?_
 refine tk 9 ?_
 refine tk 10 ?_
 refine rc 7 (fun KK hK9 => ?_)
 go_simp
 refine ((HR _).out).mono ?_
 rintro e w2 ⟨rfl,hb⟩
 refine hK9.out _ _ (Cs.below hHeld hb) (fun hHeld => ?_)
 clear hK9 KK
 have HB:=lh9 (zaa HB.out hb)
 have HK0:=lh9 (zac hb HK0.out)
 have HK1:=lh9 (zac hb HK1.out)
 have HK2:=lh9 (zac hb HK2.out)
 clear hb
 refine rc 11 (fun KK hK9 => ?_)
 go_simp
 refine ((HMY _ _ (by have h0:=HP.out; first | omega | (have e : IntKind.i64.wrap ((m : Int) + 1) = (m : Int) + 1:=IntWalk.i64_in _ (by omega); omega))).out).mono ?_
 rintro e w2 ⟨rfl,rfl⟩
 refine hK9.out _ _ hHeld (fun hHeld => ?_)
 clear hK9 KK
 refine tk 12 ?_
 refine tk 13 ?_
 refine rdn ?_
 clear hHeld
 obtain ⟨p0_0,p0_1⟩:=HK0.out.c2
 have p1_0:=HK1.out.c1
 go_wp2_with fail
 refine rg (csc p0_0 (csc p0_1 csn)) (fun hHeld => ?_)
 clear p0_0 p0_1 p1_0
 have hbd:=(Below.refl w2.heap.size w2).drew
 have HB:=lh9 (zaa HB.out hbd)
 have HK0:=lh9 (zac hbd HK0.out)
 have HK1:=lh9 (zac hbd HK1.out)
 have HK2:=lh9 (zac hbd HK2.out)
 clear hbd
 generalize w2.drew = D at *
 refine tk 0 ?_
 refine tk 2 ?_
 refine tk 3 ?_
 refine tk 4 ?_
 refine tk 5 ?_
 refine rc 1 (fun KK hK9 => ?_)
 go_simp
 refine ((HR _).out).mono ?_
 rintro e w2 ⟨rfl,hb⟩
 refine hK9.out _ _ (Cs.below hHeld hb) (fun hHeld => ?_)
 clear hK9 KK
 have HB:=lh9 (zaa HB.out hb)
 have HK0:=lh9 (zac hb HK0.out)
 have HK1:=lh9 (zac hb HK1.out)
 have HK2:=lh9 (zac hb HK2.out)
 clear hb
 refine rc 6 (fun KK hK9 => ?_)
 go_simp
 refine (HM _ HB.out HK0.out HK1.out _ (by have h0:=HP.out; first | omega | (have e : IntKind.i64.wrap ((m : Int) + 1) = (m : Int) + 1:=IntWalk.i64_in _ (by omega); omega))).out.mono ?_
 rintro e w3 ⟨A3,c3,rfl,hm3,hf3,hb⟩
 refine hK9.out _ _ (Cs.below hHeld hb) (fun hHeld => ?_)
 clear hK9 KK
 have hk3:=zac hb HK2.out
 obtain ⟨sc0,sf0,sc1,sf1⟩:=st2 hk3 (.slice A3 (n) c3)
 obtain ⟨r0,r1⟩:=(sn2 hk3 (.slice A3 (n) c3) (.int .i64 ((p : Nat) : Int))).c2
 have HG:=lh9 (gmb2 hm3 (fun ad e => Nat.lt_of_lt_of_le HK2.out.lt (hf3 ad e)) hk3 (zaa HB.out hb) (by omega))
 clear hb hk3 hm3 hf3 HB HM HK0 HK1 HK2
 refine rc 7 (fun KK hK9 => ?_)
 go_simp
 refine hK9.out _ _ ?_ (fun hHeld => ?_)
 ·refine Cs.far hHeld (zdf _ _ _ _) ⟨?_,?_,trivial⟩ <;> (show w.heap.size ≠ w.heap.size + 1 + 1; omega)
 clear hK9 KK
 refine tk 8 ?_
 refine rdn ?_
 clear hHeld sc0 sf0 sc1 sf1
 go_wp2
 refine bodyPost_ret (v:=.tuple #[.agg #[.slice A3 (n) c3,.int .i64 ((p : Nat) : Int)],.bool true]) (by simp [results,Tryz.results48,go_sem,r0,r1]) rfl ?_
 exact HG.out
end
end Go.Proofs.YtedbgdlbgohiiaaGreatDoor
namespace Go.Proofs.YtedbgdlbgohiiaaGreatDoor
open Go Go.RowKit
set_option maxHeartbeats 16000000
set_option maxRecDepth 100000
set_option linter.unusedVariables false
set_option linter.unusedSimpArgs false
theorem zfa {zs : List Int} (h : ∀ z ∈ zs,-9223372036854775808 ≤ z ∧ z ≤ 9223372036854775807) : zav 1 (ofL zs):=fun x hx => by
 obtain ⟨z,hz,rfl⟩:=List.mem_map.1 hx
 exact SzQ.whole (zfN (h z hz).1 (h z hz).2) (by decide)
theorem zcF (zs : List Int) (n : Nat) (hn : zs.length = n) {w : World} {g : Nat} {t : TypeId} (h : Blk w g t (zs.map (Value.int .i64)).toArray) (hz : ∀ z ∈ zs,-9223372036854775808 ≤ z ∧ z ≤ 9223372036854775807) : zdH w (some ⟨g,0,none⟩) n zs:=by
 subst hn
 exact ⟨rfl,fun i hi => by
  rw [List.getD_eq_getElem?_getD,List.getElem?_eq_getElem hi]
  exact hz _ (List.getElem_mem hi),fun i hi => ⟨_,rfl,by
  rw [zay,h.cell,List.getD_eq_getElem?_getD,List.getElem?_eq_getElem hi]
  simp [hi]⟩⟩
theorem qc10 : RatC zaj (fun _ => False):=ratC (fun _ h => h) (fun h => h.elim) (fun h => h.elim) (fun h => h.elim)
end Go.Proofs.YtedbgdlbgohiiaaGreatDoor
namespace Go.Proofs.YtedbgdlbgohiiaaGreatDoor
open Go Go.RowKit
set_option maxHeartbeats 16000000
set_option linter.unusedVariables false
theorem zaR.below {W W' : World} {A : oA9} {n c : Nat} {R : zgz} (h : zaR W A n c R) (hb : Below W.heap.size W W') : zaR W' A n c R:=⟨h.fits,h.small,fun r hr => by
 obtain ⟨ad,e,h1,h2,h3⟩:=h.row r hr
 exact ⟨ad,e,Nat.lt_of_lt_of_le h1 hb.size,zab hb h2,h3.below hb⟩⟩
end Go.Proofs.YtedbgdlbgohiiaaGreatDoor
namespace Go.Proofs.YtedbgdlbgohiiaaGreatDoor
open Go Go.RowKit
set_option maxHeartbeats 16000000
set_option maxRecDepth 100000
set_option linter.unusedVariables false
set_option linter.unusedSimpArgs false
def zhZ (w : World) (xs : List Rat) (e : Ending) (w' : World) : Prop:=∃ (v : Value) (vs : List Value),e = .returned v ∧ zcL zai w' w.heap.size 48 v xs vs ∧ Below w.heap.size w w'
theorem zek {A : oA9} {n c : Nat} {L : List (Int × Int)} {w : World} (hT : zaj w) (h : zaS w A n c L) :
  Calls Tryz.prog 37 #[.slice A n c] w (zhZ w (zcO L)):=by
 obtain ⟨i1',hi1,hz10,hz11,hz12⟩:=info_parts ziV
 have hn0 : n ≤ 1048576:=Nat.le_trans h.fits h.small
 have HL:=lh9 h.len
 have HG : Hid (∀ k,k < n → zbM (L.getD k (0,0)).1 ∧ zbM (L.getD k (0,0)).2 ∧ ∃ ad,A = some ad ∧ ad.block < w.heap.size ∧ w.cell? (ad.add (k * 2)) = some (.int .i64 (L.getD k (0,0)).1) ∧ w.cell? (ad.add (k * 2 + 1)) = some (.int .i64 (L.getD k (0,0)).2)):=fun k hk => by
  have hl:=h.len
  have e : L[k]? = some (L.getD k (0,0)):=by rw [List.getD_eq_getElem?_getD,List.getElem?_eq_getElem (by omega)]; rfl
  obtain ⟨h1,h2⟩:=h.ints _ (List.mem_of_getElem? e)
  exact ⟨h1,h2,h.row k _ e⟩
 have HS : Hid (∀ k,k < n → zcO (L.take (k + 1)) = zcO (L.take k) ++ [qOf (L.getD k (0,0)).1 (L.getD k (0,0)).2]):=fun k hk => by
  have hl:=h.len
  unfold zcO
  rw [List.take_succ_eq_append_getElem (by omega),List.map_append,List.getD_eq_getElem?_getD,List.getElem?_eq_getElem (by omega)]
  rfl
 have HT:=lh9 (fun w' (hb : Below w.heap.size w w') => hT.on hb)
 unfold zhZ
 clear h hT
 have hB:=Below.refl w.heap.size w
 go_enter Tryz.func37,Tryz.ntmps37
 go_wp2_with fail
 go_loopg [3,4] (n + 1) (fun g sl ix wr => ∃ (k : Nat) (v : Value) (vs : List Value),k ≤ n ∧ n < g + k ∧ ix = .int .i64 k ∧ v = sl ∧ zcL zai wr w.heap.size 48 v (zcO (L.take k)) vs ∧ Below w.heap.size w wr)
 case atStart => exact ⟨0,_,_,Nat.zero_le _,by omega,rfl,rfl,zcL.nil _ _ _,hB⟩
 case round =>
  clear hB
  obtain ⟨k,v,vs,hkn,hg,rfl,rfl,hon,hB⟩:=hrel
  by_cases hlt : k < n
  ·obtain ⟨hi1',hi2',ad,rfl,hadb,hc0,hc1⟩:=HG.out k hlt
   have HSK:=lh9 (HS.out k hlt)
   obtain ⟨q,hq⟩ : ∃ q,L.getD k (0,0) = q:=⟨_,rfl⟩
   rw [hq] at hi1' hi2' hc0 hc1 HSK
   obtain ⟨q1,q2⟩:=q
   dsimp only at hi1' hi2' hc0 hc1 HSK
   have hc0:=zab hB hc0
   have hc1:=zfq (zab hB hc1)
   have hd1 : decide ((k : Int) < (n : Int)) = true:=decide_eq_true (by omega)
   have i1 : (0 : Int) ≤ (k : Int):=by omega
   have i2 : (k : Int) < (n : Int):=by omega
   have HON0:=lh9 hon
   have HB0:=lh9 hB
   have HI1:=lh9 hi1'
   have HI2:=lh9 hi2'
   have hlq : (zcO (L.take k)).length = k:=by rw [zdB,List.length_take,HL.out]; omega
   have HLQ:=lh9 hlq
   clear hon hB hi1' hi2' hq hlq
   go_wp2_with fail
   (with_reducible refine (zil (HT.out _ HB0.out) HI1.out HI2.out).mono ?_)
   rintro e w5 ⟨b5,B5,m5,d5,E5,u5,f5,rfl,hx5,hb⟩
   obtain ⟨t1,t2,_⟩:=zaC w5 48 #[.bool b5,.slice B5 m5 d5,.slice E5 u5 f5]
   obtain ⟨t20,t21,t22⟩:=t2.c3
   have hup:=zaa hb t1
   have hon:=zcL.below zal HON0.out hup
   have HX:=lh9 (hx5.below t1)
   have HB:=lh9 (zaa HB0.out hup)
   have hcell : ∀ j u,[Value.bool b5,.slice B5 m5 d5,.slice E5 u5 f5][j]? = some u → (w5.alloc (.cells #[.bool b5,.slice B5 m5 d5,.slice E5 u5 f5] 48)).cell? ((⟨w5.heap.size,0,none⟩ : Addr).add j) = some u:=fun j u hu => by
    rw [zay]
    match j,hu with
    | 0,hu => simp at hu; subst hu; exact t2.cell 0
    | 1,hu => simp at hu; subst hu; exact t2.cell 1
    | 2,hu => simp at hu; subst hu; exact t2.cell 2
   have HCELL:=lh9 hcell
   have HONE : Hid (∀ u ∈ [Value.bool b5,.slice B5 m5 d5,.slice E5 u5 f5],u.oneCell' = true):=by intro u hu; simp at hu; rcases hu with rfl | rfl | rfl <;> rfl
   have HNN : Hid (∀ u ∈ [Value.bool b5,.slice B5 m5 d5,.slice E5 u5 f5],zfT u):=by intro u hu y z; simp at hu; rcases hu with rfl | rfl | rfl <;> (intro h9; cases h9)
   have HZN : Hid (∀ u ∈ (Value.agg #[.bool false,.slice none 0 0,.slice none 0 0]).cells.toList,zfT u):=by intro u hu y z; simp [Value.cells] at hu; rcases hu with rfl | rfl <;> (intro h9; cases h9)
   have HBS : Hid (w.heap.size ≤ (w5.alloc (.cells #[.bool b5,.slice B5 m5 d5,.slice E5 u5 f5] 48)).heap.size):=HB.out.size
   have hown:=hon.own
   rw [HLQ.out] at hown
   have HOWN:=lh9 hown
   have HNOU:=lh9 hon.nou
   have HON:=lh9 hon
   have HOB:=lh9 (fun r (h : v.ownBlock = some r) => hon.own.lt r h)
   clear hb hup hx5 hcell hon t1 t2 hc0 hc1 t20 t21 t22 hown
   go_wp2_with (at_builtin; go_loud (refine zbO _ rfl (.tmp 11) (.tmp 17) 51 rfl w.heap.size 48 i1' (.agg #[.bool false,.slice none 0 0,.slice none 0 0]) 3 56 Tryz.underlying51 hi1 hz10 hz11 hz12 rfl (by decide) v k vs rfl HOWN.out ⟨w5.heap.size,0,none⟩ 1 1 [.bool b5,.slice B5 m5 d5,.slice E5 u5 f5] rfl rfl HCELL.out HONE.out (by unfold maxLen; omega) (by omega) HBS.out HNOU.out HZN.out HNN.out ?_; intro v' w8 hown' hgrow hat hnou'; have HON8:=lh9 (zcL.grow (n:=k + 1) zal HON.out HX.out hown' (by rw [HLQ.out]) hgrow hnou'); have HB8:=lh9 (HB.out.grown hgrow HBS.out (fun r hr => (HOB.out r hr).1)); clear hown' hgrow hat hnou'))
   rw [← HSK.out] at HON8
   go_roundg (n - k)
   case measure => omega
   case rel => exact ⟨k + 1,_,_,by omega,by omega,by go_num,rfl,HON8.out,HB8.out⟩
  ·have hd1 : decide ((k : Int) < (n : Int)) = false:=decide_eq_false (by omega)
   have hk : k = n:=by omega
   subst hk
   rw [List.take_of_length_le (by rw [HL.out]; exact Nat.le_refl _)] at hon
   have HV:=lh9 hon
   have HB1:=lh9 hB
   clear hon hB
   go_wp2
   go_ret
   exact ⟨_,_,rfl,HV.out,HB1.out⟩
end Go.Proofs.YtedbgdlbgohiiaaGreatDoor
