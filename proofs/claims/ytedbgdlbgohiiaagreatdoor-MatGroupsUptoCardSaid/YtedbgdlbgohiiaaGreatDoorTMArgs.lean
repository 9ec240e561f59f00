/- What this claim leans on. -/
import Derived.Test.YtedbgdlbgohiiaaGreatDoorTMGrid
namespace Go.Proofs.YtedbgdlbgohiiaaGreatDoor
open Go Go.RowKit
open Go.ChangeShapes Go.WideShapes Go.ChangeAt Go.Deep
set_option maxHeartbeats 16000000
set_option linter.unusedVariables false
theorem zeQ {H : Type} {enc : TypeId × Value → H} {P : Program} {W : World} {fuel : Nat} {t9 t0 t : TypeId} {f0 f1 : Field} {v : Value} {x : DataW H × List MemPlace}
  (ht9 : P.underlying t9 = some (.slice t0)) (hC9 : P.cellsOf t0 = 1) (ht : P.underlying t0 = some (.slice t)) (hs : P.underlying t = some (.struct #[f0,f1])) (hf : (f0.offset,P.cellsOf f0.type,f1.offset,P.cellsOf f1.type) = (0,1,1,1)) (hC : P.cellsOf t = 2) (h0 : P.underlying f0.type = some (.int .i64)) (h1 : P.underlying f1.type = some (.int .i64))
  (h : DataW.trod enc P W 0 (fun _ => true) true fuel t9 [v] = some x) (hb : Rows.uptoBulk x.1 ≤ 1048576) : ∃ A n c R,v = .slice A n c ∧ zaK W A n c R:=by
 have go : ∀ A n c,[v] = [Value.slice A n c] → ∃ A n c R,v = .slice A n c ∧ zaK W A n c R:=fun A n c e => by
  simp only [List.cons.injEq,and_true] at e
  subst e
  obtain ⟨R,hR⟩:=zhA ht9 hC9 ht hs hf hC h0 h1 (A:=A) (n:=n) (c:=c) (by simpa [Value.cells] using h) hb
  exact ⟨A,n,c,R,rfl,hR⟩
 rcases open_slice ht9 h with ⟨hcs,_⟩ | ⟨a,len,cap,m,k,D,Pl,hcs,_⟩
 ·exact go _ _ _ hcs
 ·exact go _ _ _ hcs
theorem arg_grid {H : Type} {enc : TypeId × Value → H} {P : Program} {W : World} {r : Reach} {b0 : Nat} {t8 t9 t0 t : TypeId} {g0 g1 f0 f1 : Field} {v : Value} {d : DataW H} {p : List MemPlace}
  (hs8 : P.underlying t8 = some (.struct #[g0,g1])) (hone : oneCellFields P #[g0,g1] = true) (hC8 : P.cellsOf t8 = 2) (k0 : P.underlying g0.type = some (.int .u8)) (ht9 : P.underlying g1.type = some (.slice t0)) (hC9 : P.cellsOf t0 = 1) (ht : P.underlying t0 = some (.slice t))
  (hs : P.underlying t = some (.struct #[f0,f1])) (hf : (f0.offset,P.cellsOf f0.type,f1.offset,P.cellsOf f1.type) = (0,1,1,1)) (hC : P.cellsOf t = 2) (h0 : P.underlying f0.type = some (.int .i64)) (h1 : P.underlying f1.type = some (.int .i64))
  (hv : Value.okWide P W r b0 t8 v) (h : DataW.Trod enc P W 0 (fun _ => true) true t8 v d p) (hb : Rows.uptoBulk d ≤ 1048576) : ∃ (z : Nat) (A : oA9) (n c : Nat) (R : Nat → oA9 × Nat × Nat × List (Int × Int)),v = .agg #[.int .u8 (z : Int),.slice A n c] ∧ z ≤ 255 ∧ zaK W A n c R:=by
 obtain ⟨v0,v1,y0,y1,n,rfl,rfl,rfl,e0,e1⟩:=Go.Joins.open_agg2 hs8 hone hC8 hv h
 obtain ⟨z,hz,_,wz⟩:=DataW.trod_int k0 e0
 simp only [List.cons.injEq,and_true] at hz
 subst hz
 have bz:=bounds_u8 wz
 obtain ⟨A,m,c,R,rfl,hR⟩:=zeQ ht9 hC9 ht hs hf hC h0 h1 e1 (by simp only [Rows.uptoBulk,Rows.uptoBulkAll] at hb; omega)
 exact ⟨z.toNat,A,m,c,R,by rw [Int.toNat_of_nonneg bz.1],by omega,hR⟩
end Go.Proofs.YtedbgdlbgohiiaaGreatDoor
namespace Go.Proofs.YtedbgdlbgohiiaaGreatDoor
open Go Go.RowKit
set_option maxHeartbeats 16000000
set_option linter.unusedVariables false
theorem ratC {T : World → Prop} {M : Nat → Prop} (hTT : ∀ w,T w → zak w) (h0 : M 0 → RatG0 T) (h1 : M 1 → RatG1 T) (h2 : M 2 → RatG2 T) : RatC T M where
 g0:=h0
 g1:=h1
 g2:=h2
 new p q b b' A D n m c d w hT hA hD hn hm h0:=zlL p q b A n c b' D m d w (hTT w hT) hA hD hn hm h0
 newNo p q b b' A D n m c d w hT hA hD hn hm h0:=zhh p q b A n c b' D m d w (hTT w hT) hA hD hn hm h0
 of p q w hT h1 h2 h3 h4 h0:=rat_of p q w (hTT w hT) h1 h2 h3 h4 h0
 ofNo p q w hT h1 h2 h0:=zmL p q w (hTT w hT) h1 h2 (by omega) (by omega) h0
 num r b A n c E k f w hT h hf:=rat_num r b A n c E k f w (hTT w hT) h hf
 den r b A n c E k f w hT h hf:=rat_den r b A n c E k f w (hTT w hT) h hf
 sign r b A n c E k f w hT h hf:=zhi r b A n c E k f w (hTT w hT) h hf
 zero r b A n c E k f w hT h hf:=zaU r b A n c E k f w (hTT w hT) h hf
 isInt r b A n c E k f w hT h hf:=zbc r b A n c E k f w (hTT w hT) h hf
 bits r b A n c E k f w hT h hf:=rat_bits r b A n c E k f w (hTT w hT) h hf
 add r s b b' A A' n n' c c' E E' k k' f f' w hT h h' hf hf':=zlJ r s b A n c E k f b' A' n' c' E' k' f' w (hTT w hT) h h' hf hf'
 cmp r s b b' A A' n n' c c' E E' k k' f f' w hT h h' hf hf':=zlK r s b A n c E k f b' A' n' c' E' k' f' w (hTT w hT) h h' hf hf'
 same r s b b' A A' n n' c c' E E' k k' f f' w hT h h' hf hf':=zjI r s b A n c E k f b' A' n' c' E' k' f' w (hTT w hT) h h' hf hf'
end Go.Proofs.YtedbgdlbgohiiaaGreatDoor
namespace Go.Proofs.YtedbgdlbgohiiaaGreatDoor
open Go Go.RowKit
set_option maxHeartbeats 16000000
set_option maxRecDepth 100000
set_option linter.unusedVariables false
set_option linter.unusedSimpArgs false
theorem zdF.below {w w' : World} {A : oA9} {n : Nat} {zs : List Int} (h : zdF w A n zs) (hb : Below w.heap.size w w') : zdF w' A n zs:=⟨h.len,h.ints,fun i hi => by
 obtain ⟨ad,e,hc⟩:=h.num i hi
 exact ⟨ad,e,zab hb hc⟩⟩
def zhc (n : Nat) (zs : List Int) (M : List (List Rat)) : List (List Rat):=zcQ n zs.length fun a b => atM M a (zs.getD b 0).toNat
theorem zlA {zs : List Int} {m b : Nat} (h : zgW zs m = false) (hb : b < zs.length) : ∃ k : Nat,zs.getD b 0 = (k : Int) ∧ k < m:=by
 unfold zgW at h
 have:=List.any_eq_false.1 h (zs.getD b 0) (List.mem_of_getElem? (zcB hb))
 simp at this
 exact inB_yes this
section
variable {A : oA9} {n c m K : Nat} {MM : List (List Rat)} {w : World} {Q : oA9} {q qc : Nat} {zs : List Int}
theorem mat_pick (hT : zak w) (h : zap w A n c m MM) (z : zas K MM) (hz : zdF w Q q zs) (hq : q ≤ 64) (hs : zgW zs m = false) (hK : K + 2 ≤ 67108864:=by omega) :
  Calls Tryz.prog 52 #[.agg #[.slice A n c,.int .i64 (m : Int)],.slice Q q qc] w (zds w n q (zhc n zs MM)):=by
 obtain ⟨hn,hm⟩:=And.intro h.hn h.hm
 have hl:=hz.len
 obtain ⟨bx,by0,by1,by2,bz⟩:=zbd w 28 63 28 #[.slice A n c,.int .i64 (m : Int)] #[.slice Q q qc] #[.slice none 0 0,.int .i64 0]
 have HK0:=lh9 by0
 have HK1:=lh9 by1
 have HK2:=lh9 by2
 have HB:=lh9 bx
 have hmf:=zkH
 have HR:=fun W => lh9 (zcG A n c (m : Int) W)
 have HMY:=fun W => lh9 (zgV (zgU hn hq) W)
 have HCF : Hid (∀ W,Below w.heap.size w W → Blk W w.heap.size 28 #[.slice A n c,.int .i64 (m : Int)] → Calls Tryz.prog 93 #[.slice Q q qc,.func (.func 92) #[] #[.pointer (some ⟨w.heap.size,0,none⟩)]] W (fun e w' => e = .returned (.bool false) ∧ Below W.heap.size W w')):=fun W hb hk => by
  have:=zfP (q:=qc) (hz.below hb) hk (by omega)
  rw [hs] at this
  exact this
 have HM : ∀ W,Below w.heap.size w W → Blk W w.heap.size 28 #[.slice A n c,.int .i64 (m : Int)] → Blk W (w.heap.size + 1) 63 #[.slice Q q qc] → ∀ z9 : Int,z9 = (q : Int) → Hid (Calls Tryz.prog 56 #[.int .i64 (n : Int),.int .i64 z9,.func (.func 94) #[] #[.pointer (some ⟨w.heap.size,0,none⟩),.pointer (some ⟨w.heap.size + 1,0,none⟩)]] W (zbz W n q (zhc n zs MM))):=fun W hW k0 k1 z9 hz9 => by
  subst hz9
  have hh:=h.keep hW
  have hz2:=hz.below hW
  have q9:=zft (K:=K) (fun a b => atM MM a (zs.getD b 0).toNat) 94 #[.pointer (some ⟨w.heap.size,0,none⟩),.pointer (some ⟨w.heap.size + 1,0,none⟩)] n q W (hT.on hW) ⟨en_pick2,fun a b ha hb9 w' hb => by
   obtain ⟨k,hk1,hk2⟩:=zlA hs (show b < zs.length by omega)
   obtain ⟨ap,e,hc⟩:=(hz2.below hb).num b hb9
   subst e
   rw [hk1] at hc
   dsimp only
   rw [hk1,Int.toNat_natCast]
   exact cl_pick (hh.keep hb) (zac hb k0) (zac hb k1) hc ha hb9 hk2⟩ (fun a b ha hb9 => by
   obtain ⟨k,hk1,hk2⟩:=zlA hs (show b < zs.length by omega)
   rw [hk1,Int.toNat_natCast]
   exact z.at_ h.dims ha hk2) hn hq hK
  unfold zhc
  rw [hl]
  exact q9
 clear bx bz by0 by1 by2 hT h z hz hs hl
 obtain ⟨p0_0,p0_1⟩:=HK0.out.c2
 have p1_0:=HK1.out.c1
 go_enter Tryz.func52,Tryz.ntmps52
 go_wp2_with fail
 generalize ((w.alloc (.cells #[.slice A n c,.int .i64 (m : Int)] 28)).alloc (.cells #[.slice Q q qc] 63)).alloc (.cells #[.slice none 0 0,.int .i64 0] 28) = W1 at *
 refine rg (csc p0_0 (csc p0_1 (csc p1_0 csn))) (fun hHeld => ?_)
 clear p0_0 p0_1 p1_0
 have hbd:=(Below.refl W1.heap.size W1).drew
 have HB:=lh9 (zaa HB.out hbd)
 have HK0:=lh9 (zac hbd HK0.out)
 have HK1:=lh9 (zac hbd HK1.out)
 have HK2:=lh9 (zac hbd HK2.out)
 clear hbd
 generalize W1.drew = D at *
 refine tk 0 ?_
 refine tk 2 ?_
 refine tk 3 ?_
 refine rc 1 (fun KK hK9 => ?_)
 go_simp
 refine ((HR _).out).mono ?_
 rintro e w2 ⟨rfl,hb⟩
 refine hK9.out _ _ (Cs.below hHeld hb) (fun hHeld => ?_)
 clear hK9 KK
 have HB:=lh9 (zaa HB.out hb)
 have HK0:=lh9 (zac hb HK0.out)
 have HK1:=lh9 (zac hb HK1.out)
 have HK2:=lh9 (zac hb HK2.out)
 clear hb
 refine rc 4 (fun KK hK9 => ?_)
 go_simp
 refine ((HMY _).out).mono ?_
 rintro e w2 ⟨rfl,rfl⟩
 refine hK9.out _ _ hHeld (fun hHeld => ?_)
 clear hK9 KK
 refine tk 5 ?_
 refine tk 6 ?_
 refine tk 7 ?_
 refine tk 8 ?_
 refine rc 9 (fun KK hK9 => ?_)
 go_simp
 refine (HCF.out _ HB.out HK0.out).mono ?_
 rintro e w2 ⟨rfl,hb⟩
 refine hK9.out _ _ (Cs.below hHeld hb) (fun hHeld => ?_)
 clear hK9 KK
 have HB:=lh9 (zaa HB.out hb)
 have HK0:=lh9 (zac hb HK0.out)
 have HK1:=lh9 (zac hb HK1.out)
 have HK2:=lh9 (zac hb HK2.out)
 clear hb
 refine tk 10 ?_
 refine rdn ?_
 clear hHeld
 obtain ⟨p0_0,p0_1⟩:=HK0.out.c2
 have p1_0:=HK1.out.c1
 go_wp2_with fail
 refine rg (csc p0_0 (csc p0_1 (csc p1_0 csn))) (fun hHeld => ?_)
 clear p0_0 p0_1 p1_0
 have hbd:=(Below.refl w2.heap.size w2).drew
 have HB:=lh9 (zaa HB.out hbd)
 have HK0:=lh9 (zac hbd HK0.out)
 have HK1:=lh9 (zac hbd HK1.out)
 have HK2:=lh9 (zac hbd HK2.out)
 clear hbd
 generalize w2.drew = D at *
 refine tk 0 ?_
 refine tk 2 ?_
 refine tk 3 ?_
 refine tk 4 ?_
 refine rc 1 (fun KK hK9 => ?_)
 go_simp
 refine ((HR _).out).mono ?_
 rintro e w2 ⟨rfl,hb⟩
 refine hK9.out _ _ (Cs.below hHeld hb) (fun hHeld => ?_)
 clear hK9 KK
 have HB:=lh9 (zaa HB.out hb)
 have HK0:=lh9 (zac hb HK0.out)
 have HK1:=lh9 (zac hb HK1.out)
 have HK2:=lh9 (zac hb HK2.out)
 clear hb
 refine rc 5 (fun KK hK9 => ?_)
 go_simp
 refine (HM _ HB.out HK0.out HK1.out _ (by rfl)).out.mono ?_
 rintro e w3 ⟨A3,c3,rfl,hm3,hf3,hb⟩
 refine hK9.out _ _ (Cs.below hHeld hb) (fun hHeld => ?_)
 clear hK9 KK
 have hk3:=zac hb HK2.out
 obtain ⟨sc0,sf0,sc1,sf1⟩:=st2 hk3 (.slice A3 (n) c3)
 obtain ⟨r0,r1⟩:=(sn2 hk3 (.slice A3 (n) c3) (.int .i64 ((q : Nat) : Int))).c2
 have HG:=lh9 (gmb2 hm3 (fun ad e => Nat.lt_of_lt_of_le HK2.out.lt (hf3 ad e)) hk3 (zaa HB.out hb) (by omega))
 clear hb hk3 hm3 hf3 HB HM HK0 HK1 HK2
 refine rc 6 (fun KK hK9 => ?_)
 go_simp
 refine hK9.out _ _ ?_ (fun hHeld => ?_)
 ·refine Cs.far hHeld (zeF _ _ _ _) ⟨by show w.heap.size ≠ w.heap.size + 1 + 1; omega,by show w.heap.size ≠ w.heap.size + 1 + 1; omega,by show w.heap.size + 1 ≠ w.heap.size + 1 + 1; omega,trivial⟩
 clear hK9 KK
 refine tk 7 ?_
 refine rdn ?_
 clear hHeld sc0 sf0 sc1 sf1
 go_wp2
 refine bodyPost_ret (v:=.tuple #[.agg #[.slice A3 (n) c3,.int .i64 ((q : Nat) : Int)],.bool true]) (by simp [results,Tryz.results52,go_sem,r0,r1]) rfl ?_
 exact HG.out
end
end Go.Proofs.YtedbgdlbgohiiaaGreatDoor
namespace Go.Proofs.YtedbgdlbgohiiaaGreatDoor
open Go Go.RowKit
set_option maxHeartbeats 16000000
set_option maxRecDepth 100000
set_option linter.unusedVariables false
set_option linter.unusedSimpArgs false
theorem zeW {zs : List Int} (h : ∀ z ∈ zs,-9223372036854775808 ≤ z ∧ z ≤ 9223372036854775807) : zay 1 (ofL zs):=fun x hx => by
 obtain ⟨z,hz,rfl⟩:=List.mem_map.1 hx
 exact SzQ.whole (zfE (h z hz).1 (h z hz).2) (by decide)
theorem zcF (zs : List Int) (n : Nat) (hn : zs.length = n) {w : World} {g : Nat} {t : TypeId} (h : Blk w g t (zs.map (Value.int .i64)).toArray) (hz : ∀ z ∈ zs,-9223372036854775808 ≤ z ∧ z ≤ 9223372036854775807) : zdF w (some ⟨g,0,none⟩) n zs:=by
 subst hn
 exact ⟨rfl,fun i hi => by
  rw [List.getD_eq_getElem?_getD,List.getElem?_eq_getElem hi]
  exact hz _ (List.getElem_mem hi),fun i hi => ⟨_,rfl,by
  rw [zaL,h.cell,List.getD_eq_getElem?_getD,List.getElem?_eq_getElem hi]
  simp [hi]⟩⟩
theorem qc10 : RatC zak (fun _ => False):=ratC (fun _ h => h) (fun h => h.elim) (fun h => h.elim) (fun h => h.elim)
end Go.Proofs.YtedbgdlbgohiiaaGreatDoor
namespace Go.Proofs.YtedbgdlbgohiiaaGreatDoor
open Go Go.RowKit
set_option maxHeartbeats 16000000
set_option linter.unusedVariables false
theorem zaK.below {W W' : World} {A : oA9} {n c : Nat} {R : zfh} (h : zaK W A n c R) (hb : Below W.heap.size W W') : zaK W' A n c R:=⟨h.fits,h.small,fun r hr => by
 obtain ⟨ad,e,h1,h2,h3⟩:=h.row r hr
 exact ⟨ad,e,Nat.lt_of_lt_of_le h1 hb.size,zab hb h2,h3.below hb⟩⟩
end Go.Proofs.YtedbgdlbgohiiaaGreatDoor
