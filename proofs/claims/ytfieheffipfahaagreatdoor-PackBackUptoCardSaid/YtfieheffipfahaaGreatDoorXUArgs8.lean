/- What this claim leans on. -/
import Derived.Test.YtfieheffipfahaaGreatDoorXJ8Look
import Derived.ChangeMaps5
namespace Go.Proofs.YtfieheffipfahaaGreatDoor
open Go Go.RowKit
open Go.ChangeShapes Go.WideShapes Go.ChangeAt
set_option maxHeartbeats 16000000
set_option linter.unusedVariables false
structure zfB (W : World) (A : oA9) (n c : Nat) (l : List Nat) : Prop where
 reads : zan W W.heap.size 1 A n (zar .u8 l)
 dgs : Dgs 256 l
 fits : n ≤ c
 small : c ≤ 1048576
theorem arg_bytes {H : Type} {enc : TypeId × Value → H} {P : Program} {W : World} {fuel : Nat} {t e : TypeId} {A : oA9} {n c : Nat} {x : DataW H × List MemPlace} (ht : P.underlying t = some (.slice e)) (he : P.underlying e = some (.int .u8)) (hc : P.cellsOf e = 1)
  (h : DataW.trod enc P W 0 (fun _ => true) true fuel t (Value.slice A n c).cells.toList = some x) (hb : Rows.uptoBulk x.1 ≤ 1048576) : ∃ l,zfB W A n c l := by
 rcases open_ints ht he hc h with ⟨hcs,_⟩ | ⟨a,len,cap,zs,hcs,_,hl,hm,hz,hx,hcell,hwz⟩
 ·simp [Value.cells] at hcs
  obtain ⟨rfl,rfl,rfl⟩ := hcs
  exact ⟨[],⟨zan.none_,by intro d hd; simp at hd,Nat.le_refl _,by omega⟩⟩
 ·simp [Value.cells] at hcs
  obtain ⟨rfl,rfl,rfl⟩ := hcs
  have hz' : zs.length = c := by simpa using hz
  subst hx
  have hs := UA.slice_le (H := H) (lits .u8 (zs.take n)) (lits .u8 (zs.drop n))
  have hlen : (lits (H := H) .u8 (zs.take n)).length + (lits (H := H) .u8 (zs.drop n)).length = c := by
   simp [lits]; omega
  have hb' : Rows.uptoBulk (DataW.slice (lits (H := H) .u8 (zs.take n)) (lits (H := H) .u8 (zs.drop n))) ≤ 1048576 := hb
  refine ⟨(zs.take n).map Int.toNat,⟨?_,?_,hl,?_⟩⟩
  ·refine ⟨by simp [zar]; omega,fun hn => ⟨a,rfl,?_,fun j u hu => ?_⟩⟩
   ·have h0 := hcell 0 (by omega)
    have := World.block_lt_of_cell? W _ h0
    rw [zbj] at this
    exact this
   ·have hj : j < n := by
     have := (List.getElem?_eq_some_iff.1 hu).1
     simp [zar] at this; omega
    rw [hcell j (by omega),← hu]
    have hw := hwz (zs.getD j 0) (by rw [List.getD_eq_getElem?_getD,List.getElem?_eq_getElem (by omega)]; exact List.getElem_mem (by omega))
    have hb0 := bounds_u8 hw
    simp only [zar,List.getElem?_map,List.getElem?_take,if_pos hj,List.getElem?_eq_getElem (show j < zs.length by omega),Option.map_some,Option.some.injEq,Value.int.injEq,true_and]
    rw [List.getD_eq_getElem?_getD,List.getElem?_eq_getElem (show j < zs.length by omega)] at hb0 ⊢
    simp at hb0 ⊢
    omega
  ·intro d hd
   obtain ⟨z,hz2,rfl⟩ := List.mem_map.1 hd
   have := bounds_u8 (hwz z (List.mem_of_mem_take hz2))
   omega
  ·omega
end Go.Proofs.YtfieheffipfahaaGreatDoor
namespace Go.Proofs.YtfieheffipfahaaGreatDoor
open Go Go.RowKit
set_option maxHeartbeats 16000000
set_option maxRecDepth 100000
set_option linter.unusedVariables false
set_option linter.unusedSimpArgs false
theorem infoB8 : (Tryz.prog.info? 5).map (fun i => (i.zero,i.size,i.bytes)) = some (some (.int .u8 0),1,1) := by kernel_rfl
theorem zjW (x : Nat) (A : oA9) (n c : Nat) (w : World) (hA : zaf w x A n c) (hn : n ≤ 274877906944) :
  Calls Tryz.prog 88 #[.agg #[.slice A n c]] w (zgl w (zbe x)) := by
 obtain ⟨i0,hi0,hz0,hz1,hz2⟩ := info_parts infoB8
 have hsm : (dg 256 x).length ≤ 8 * n := by
  have h := zkS (K := n) (x := x) (by have := zbd (b := 18446744073709551616) (by decide) x; rwa [hA.len] at this)
  rwa [zec] at h
 obtain ⟨hB,b2,b5⟩ := zav w 29 #[.slice A n c]
 have HSZ := lh9 (zex x A n c _ (hA.below hB) hn)
 have HW := lh9 (fun (k : Nat) w' (h : Below w.heap.size w w') => zeC x A n c k w' (hA.below h))
 have HBO := lh9 (byte_of x)
 have HD := lh9 (fun k => (zbQ (b := 256) (by decide) x).getD (by decide) k)
 obtain ⟨N,hN⟩ : ∃ m,(dg 256 x).length = m := ⟨_,rfl⟩
 have HDONE := lh9 (fun M (h : zcA x N N M) => zcA.done h hN.symm)
 have HBL : Hid ((zbe x).length = N) := by show _ = _; rw [zec,hN]
 rw [hN] at HSZ hsm
 obtain ⟨Z,hZ⟩ : ∃ Z,madeCells (Value.cells (.int .u8 0)) (N * i0.size) = Z := ⟨_,rfl⟩
 have hmk : ∀ W : World,(Instr.makeSlice 42 (.int .i64 (N : Int)) (.int .i64 (N : Int))).run Tryz.prog W = .ok (.slice (some ⟨W.heap.size,0,none⟩) N N) (W.alloc (.cells Z 5)) := fun W => by
  rw [← hZ]; exact zbL _ _ i0 _ Tryz.underlying42 hi0 hz0 _ _ N N (Nat.le_refl _) (by rw [hz2]; omega) (by omega) W
 have HM : Hid (∀ W : World,zbx (W.alloc (.cells Z 5)) 5 W.heap.size N N (List.replicate N 0)) := fun W => by
  have h := zbx.made W 5 N (by unfold maxLen; omega)
  rw [← hZ,hz1,Nat.mul_one]
  exact h
 clear hA hN hZ
 go_enter Tryz.func88,Tryz.ntmps88
 go_wp2_with fail
 refine HSZ.out.mono ?_
 rintro e w1 ⟨rfl,hb⟩
 have hk := zac hb b2
 have hB1 := zaa hB hb
 clear hb hB b2 b5 HSZ
 go_wp2
 clear hmk
 have hR := HM.out w1
 have hB2 := hB1.alloc hB1.size (.cells Z 5)
 have hk2 := hk.alloc (.cells Z 5)
 have hsz := hB1.size
 have hlt1 := hk.lt
 generalize w1.alloc (.cells Z 5) = W2 at *
 obtain ⟨r,hr⟩ : ∃ r,w1.heap.size = r := ⟨_,rfl⟩
 rw [hr] at hR hsz hlt1 ⊢
 have HF := lh9 (zcA.start x N)
 clear HM hr hk hB1
 go_loopg [10] (N + 1) (fun g i wr => ∃ (k : Nat) (L : List Nat),k ≤ N ∧ N < g + k ∧ i = .int .i64 k ∧ Hid (zcA x N k L) ∧ zbx wr 5 r N N L ∧ Below w.heap.size w wr ∧ Blk wr w.heap.size 29 #[.slice A n c])
 case atStart => exact ⟨0,_,Nat.zero_le _,by omega,rfl,HF,hR,hB2,hk2⟩
 case round =>
  clear HF hR hB2 hk2
  obtain ⟨k,L,hkN,hg,rfl,HF,hR,hB,hk⟩ := hrel
  have i1 : (0 : Int) ≤ (k : Int) := by omega
  by_cases hlt : k < N
  ·have i2 : (k : Int) < (N : Int) := by omega
   have HST := lh9 (HF.out.step hlt)
   have hbo := HBO.out k
   have hdl := HD.out k
   obtain ⟨d,hd⟩ : ∃ d,(dg 256 x).getD k 0 = d := ⟨_,rfl⟩
   rw [hd] at hbo hdl HST
   have g1 := hk.cell 0
   simp only [List.getElem?_toArray,List.getElem?_cons_zero] at g1
   obtain ⟨q,hq⟩ : ∃ q,k / 8 = q := ⟨_,rfl⟩
   obtain ⟨p,hp⟩ : ∃ q,k % 8 = q := ⟨_,rfl⟩
   have hp8 : p < 8 := by omega
   have HWQ := lh9 (HW.out q wr hB)
   have hwl := zck x q
   rw [hq,hp] at hbo
   obtain ⟨v,hv⟩ : ∃ v,wd x q = v := ⟨_,rfl⟩
   rw [hv] at HWQ hwl hbo
   have hix : (N : Int) - 1 - (k : Int) = ((N - 1 - k : Nat) : Int) := by omega
   obtain ⟨j,hj⟩ : ∃ j,N - 1 - k = j := ⟨_,rfl⟩
   rw [hj] at HST hix
   have hjN : j < N := by omega
   have c1 := hR.cell j hjN
   have f1 := hR.frozen j
   have e1 : (k : Int) / 8 = (q : Int) := by omega
   have e2 : (k : Int) % 8 = (p : Int) := by omega
   have HBO2 := lh9 hbo
   have HP8 : p * 8 < 64 := by omega
   clear hbo hd hq hp hv hj
   go_wp2_with fail
   refine HWQ.out.mono ?_
   rintro e w3 ⟨rfl,hb⟩
   have hR := hR.keep hb
   have hk := zac hb hk
   have hB := zaa hB hb
   have f1 := hR.frozen j
   have c1 := hR.cell j hjN
   have HR2 := lh9 (hR.set_ j d hjN)
   have HB2 := lh9 (hB.setCell (p := ⟨r,j,none⟩) hsz (.int .u8 (d : Int)))
   have HK2 := lh9 (hk.far (p := ⟨r,j,none⟩) (by show w.heap.size ≠ r; omega) (.int .u8 (d : Int)))
   have HV : Hid ((v : Int) / 2 ^ (p * 8) % 256 = (d : Int)) := by show _ = _; rw [HBO2.out,Nat.mul_comm 8 p]; simp
   have s1 : ((p : Int) * 8).toNat = p * 8 := by omega
   clear hb hR hk hB HWQ g1
   go_wp2
   go_roundg (N - k)
   case measure => omega
   case rel => exact ⟨k + 1,_,by omega,by omega,by go_num,HST,by rw [HV.out]; exact HR2.out,by rw [HV.out]; exact HB2.out,by rw [HV.out]; exact HK2.out⟩
  ·have hkN2 : k = N := by omega
   subst hkN2
   have HE := lh9 (HDONE.out _ HF.out)
   have hrow := hR.own hsz
   rw [HE.out] at hrow
   have HG : Hid (zgl w (zbe x) (.returned (.slice (some ⟨r,0,none⟩) k k)) wr) := ⟨_,rfl,by rw [HBL.out]; exact hrow,hB⟩
   clear hrow HE HDONE HBL hR hk HF hB
   go_wp2
   go_ret
   exact HG.out
end Go.Proofs.YtfieheffipfahaaGreatDoor
namespace Go.Proofs.YtfieheffipfahaaGreatDoor
open Go Go.RowKit
set_option maxHeartbeats 16000000
set_option maxRecDepth 100000
set_option linter.unusedVariables false
set_option linter.unusedSimpArgs false
theorem zoq (z : Int) (baa : Bool) (Baa : oA9) (maa daa : Nat) (w : World) (hT : zaj w) (haa : zaz w z baa Baa maa daa) (qaa : maa ≤ 67108864) :
  Calls Tryz.prog 57 #[.agg #[.bool baa,.slice Baa maa daa]] w (zdh w (z : Rat)) := by
 have HIC := lh9 (zba (T := zaj))
 have HGC := lh9 zdt
 have HT := lh9 (fun w' (hb : Below w.heap.size w w') => hT.on hb)
 have HTB := HT
 obtain ⟨K,hKe⟩ : ∃ K,67108864 = K := ⟨_,rfl⟩
 have hKK : K ≤ 67108864 := by omega
 have hK0 : 0 < K := by omega
 have HNaa := lh9 (fun w' (b : Below w.heap.size w w') => haa.below b)
 have HZaa : Hid (Sz K z.natAbs) := Sz.of_words haa.words (by omega)
 clear haa qaa
 clear hT hKe
 go_enter Tryz.func57,Tryz.ntmps57
 have hB := Below.refl w.heap.size w
 obtain ⟨bx1,bx2,bx3,bz⟩ := zcm w 31 33 #[.bool baa,.slice Baa maa daa] #[.bool false,.slice none 0 0,.slice none 0 0]
 have hB := zaa hB bx1
 obtain ⟨g1,e1⟩ := bx2.c2
 have k2 := bx3
 clear bx1 bx2 bx3 bz
 go_wp2_with fail
 generalize (w.alloc (.cells #[.bool baa,.slice Baa maa daa] 31)).alloc (.cells #[.bool false,.slice none 0 0,.slice none 0 0] 33) = W1 at *
 have HZ3 : Hid (Sz (K) (z).natAbs) := HZaa.out
 (with_reducible refine (ziz (z) baa Baa maa daa _ (HT.out _ hB) (HNaa.out _ hB) (szi HZaa (HNaa.out _ hB))).mono ?_)
 rintro e wc2 ⟨b3,B3,m3,d3,rfl,hw3,hb⟩
 have hB := zaa hB hb
 have g1 := zab hb g1
 have e1 := zab hb e1
 have k2 := zac hb k2
 have HN3 := lh9 hw3
 clear hb hw3
 obtain ⟨sc0,sf0,sc1,sf1,sc2,sf2⟩ := st3 k2 (.bool b3) (.slice B3 m3 d3)
 obtain ⟨r0,r1,r2⟩ := (sn3 k2 (.bool b3) (.slice B3 m3 d3) (.slice none 0 0)).c3
 have HG := lh9 (gq3 (whole_in HN3.out) k2 hB (by omega))
 go_wp2
 refine bodyPost_ret (v := .agg #[.bool b3,.slice B3 m3 d3,.slice none 0 0]) (by simp [results,Tryz.results57,go_sem,r0,r1,r2]) rfl ?_
 exact HG.out
end Go.Proofs.YtfieheffipfahaaGreatDoor
namespace Go.Proofs.YtfieheffipfahaaGreatDoor
open Go Go.RowKit
set_option maxHeartbeats 16000000
set_option maxRecDepth 100000
set_option linter.unusedVariables false
set_option linter.unusedSimpArgs false
theorem ziH {P : Program} {f : FuncId} {args : Array Value} {w : World} {z v : ByteArray} (e : z = v) (h : Calls P f args w fun e w' => e = .returned (.string z) ∧ Below w.heap.size w w') : Calls P f args w fun e w' => e = .returned (.string v) ∧ Below w.heap.size w w' := by
 subst e; exact h
theorem zgY {K : Nat} {z : Int} (h : Sz K z.natAbs) : (zbp z).length ≤ 64 * K + 2 := by
 have := zei h
 unfold zbp
 split
 ·simp; omega
 ·omega
theorem zoC {r : Rat} (h : r.den = 1) : zaw (zbX r) = zaw (zbp r.num) := by unfold zbX; rw [if_pos h,List.append_nil]
theorem zlS (a b : List UInt8) : zaw a ++ zaw b = zaw (a ++ b) := by
 apply ByteArray.ext
 simp [zaw]
theorem znd {r : Rat} (h : r.den ≠ 1) : zaw (zbX r) = (zaw (zbp r.num) ++ { data := #[47] }) ++ zaw (zbq r.den) := by
 rw [show ({ data := #[47] } : ByteArray) = zaw [47] from rfl,zlS,zlS]
 unfold zbX
 rw [if_neg h]; simp
theorem zlI (r : Rat) (baa : Bool) (Baa : oA9) (maa daa : Nat) (Eaa : oA9) (uaa vaa : Nat) (w : World) (hT : zaj w) (haa : zay w r baa Baa maa daa Eaa uaa vaa) (qaa : zbD maa uaa) (hd : r.den = 1) :
  Calls Tryz.prog 16 #[.agg #[.bool baa,.slice Baa maa daa,.slice Eaa uaa vaa]] w (fun e w' => e = .returned (.string (zaw (zbX r))) ∧ Below w.heap.size w w') := by
 have HIC := lh9 (zba (T := zaj))
 have HT := lh9 (fun w' (hb : Below w.heap.size w w') => hT.on hb)
 obtain ⟨K,hKe⟩ : ∃ K,67108864 = K := ⟨_,rfl⟩
 have hKK : K ≤ 67108864 := by omega
 have hK0 : 0 < K := by omega
 have hK9 : 255 ≤ K := by omega
 have ef1 := zaC
 have ef2 := zaF
 have ef3 := zaG
 have ef4 := zaH
 have HI := lh9 hd
 rw [zoC hd]
 obtain ⟨T1,hT1⟩ : ∃ x,zaw (zbp r.num) = x := ⟨_,rfl⟩
 rw [hT1]
 have HT1 := lh9 hT1
 clear hT1
 have HNaa := lh9 (fun w' (b : Below w.heap.size w w') => haa.below b)
 obtain ⟨xaa,hxaa,hxwaa⟩ := haa.2
 have HXaa := lh9 hxaa
 have HZaa : Hid (SzQ K r) := zbr haa qaa hKe
 have HZaap : Hid (Sz K r.num.natAbs) := HZaa.out.num
 have HZaaq : Hid (Sz K xaa) := zaS HZaa.out.den hxaa
 have HNaap := lh9 (fun w' (b : Below w.heap.size w w') => haa.1.below b)
 have HNaaq := lh9 (fun w' (b : Below w.heap.size w w') => hxwaa.below b)
 clear haa qaa hxaa hxwaa
 clear hT hKe hd
 go_enter Tryz.func16,Tryz.ntmps16
 have hB := Below.refl w.heap.size w
 obtain ⟨bx1,bx2,bz⟩ := zav w 33 #[.bool baa,.slice Baa maa daa,.slice Eaa uaa vaa]
 have hB := zaa hB bx1
 obtain ⟨g1,e1,i1⟩ := bx2.c3
 clear bx1 bx2 bz
 go_wp2_with fail
 generalize w.alloc (.cells #[.bool baa,.slice Baa maa daa,.slice Eaa uaa vaa] 33) = W1 at *
 have HZ2 : Hid (Sz (K) (r.num).natAbs) := SzQ.num HZaa.out
 (with_reducible refine (zgd (r) baa Baa maa daa Eaa uaa vaa _ (HT.out _ hB) (HNaa.out _ hB) (szq HZaa (HNaa.out _ hB))).mono ?_)
 rintro e wc2 ⟨b2,B2,m2,d2,rfl,hw2,hb⟩
 have hB := zaa hB hb
 have g1 := zab hb g1
 have e1 := zab hb e1
 have i1 := zab hb i1
 have HN2 := lh9 hw2
 clear hb hw2
 go_wp2_with fail
 (with_reducible refine (ziH (v := T1) (HT1.out) (zef (r.num) b2 B2 m2 d2 _ HN2.out (szi HZ2 HN2.out))).mono ?_)
 rintro e wc3 ⟨rfl,hb⟩
 have hB := zaa hB hb
 have g1 := zab hb g1
 have e1 := zab hb e1
 have i1 := zab hb i1
 have HN2 := lh9 (HN2.out.below hb)
 clear hb 
 go_wp2_with fail
 (with_reducible refine (zbc (decide_eq_true HI.out) (zbi (r) baa Baa maa daa Eaa uaa vaa _ (HT.out _ hB) (HNaa.out _ hB) (szq HZaa (HNaa.out _ hB)))).mono ?_)
 rintro e wc4 ⟨rfl,hb⟩
 have hB := zaa hB hb
 have g1 := zab hb g1
 have e1 := zab hb e1
 have i1 := zab hb i1
 have HN2 := lh9 (HN2.out.below hb)
 clear hb 
 go_wp2
 go_ret
 exact ⟨by first | rfl | simp,hB⟩
theorem zlH (r : Rat) (baa : Bool) (Baa : oA9) (maa daa : Nat) (Eaa : oA9) (uaa vaa : Nat) (w : World) (hT : zaj w) (haa : zay w r baa Baa maa daa Eaa uaa vaa) (qaa : zbD maa uaa) (hd : r.den ≠ 1) :
  Calls Tryz.prog 16 #[.agg #[.bool baa,.slice Baa maa daa,.slice Eaa uaa vaa]] w (fun e w' => e = .returned (.string (zaw (zbX r))) ∧ Below w.heap.size w w') := by
 have HIC := lh9 (zba (T := zaj))
 have HT := lh9 (fun w' (hb : Below w.heap.size w w') => hT.on hb)
 obtain ⟨K,hKe⟩ : ∃ K,67108864 = K := ⟨_,rfl⟩
 have hKK : K ≤ 67108864 := by omega
 have hK0 : 0 < K := by omega
 have hK9 : 255 ≤ K := by omega
 have ef1 := zaC
 have ef2 := zaF
 have ef3 := zaG
 have ef4 := zaH
 have HI := lh9 hd
 rw [znd hd]
 have hsz : SzQ K r := zbr haa qaa hKe
 have hl1 := zgY hsz.num
 have hl2 := zei hsz.den
 obtain ⟨T1,hT1⟩ : ∃ x,zaw (zbp r.num) = x := ⟨_,rfl⟩
 obtain ⟨T2,hT2⟩ : ∃ x,zaw (zbq r.den) = x := ⟨_,rfl⟩
 have z1 : T1.size ≤ 4294967298 := by rw [← hT1,zaE]; omega
 have z2 : T2.size ≤ 4294967298 := by rw [← hT2,zaE]; omega
 rw [hT1,hT2]
 have HT1 := lh9 hT1
 have HT2 := lh9 hT2
 have zc : ({ data := #[47] } : ByteArray).size = 1 := rfl
 have a1 : ∀ w' : World,(Op.stringOp .add T1 ({ data := #[47] } : ByteArray)).run Tryz.prog w' = .ok (.string (T1 ++ { data := #[47] })) w' := fun w' => run_string_add_sum w' _ _ (by omega)
 obtain ⟨U,hU⟩ : ∃ x,T1 ++ ({ data := #[47] } : ByteArray) = x := ⟨_,rfl⟩
 have z3 : U.size ≤ 4294967299 := by rw [← hU,ByteArray.size_append]; omega
 rw [hU] at a1
 rw [hU]
 have a2 : ∀ w' : World,(Op.stringOp .add U T2).run Tryz.prog w' = .ok (.string (U ++ T2)) w' := fun w' => run_string_add_sum w' _ _ (by omega)
 obtain ⟨V,hV⟩ : ∃ x,U ++ T2 = x := ⟨_,rfl⟩
 rw [hV] at a2
 rw [hV]
 clear hT1 hT2 hl1 hl2 z1 z2 z3 zc hU hV hsz
 have HNaa := lh9 (fun w' (b : Below w.heap.size w w') => haa.below b)
 obtain ⟨xaa,hxaa,hxwaa⟩ := haa.2
 have HXaa := lh9 hxaa
 have HZaa : Hid (SzQ K r) := zbr haa qaa hKe
 have HZaap : Hid (Sz K r.num.natAbs) := HZaa.out.num
 have HZaaq : Hid (Sz K xaa) := zaS HZaa.out.den hxaa
 have HNaap := lh9 (fun w' (b : Below w.heap.size w w') => haa.1.below b)
 have HNaaq := lh9 (fun w' (b : Below w.heap.size w w') => hxwaa.below b)
 clear haa qaa hxaa hxwaa
 clear hT hKe hd
 go_enter Tryz.func16,Tryz.ntmps16
 have hB := Below.refl w.heap.size w
 obtain ⟨bx1,bx2,bz⟩ := zav w 33 #[.bool baa,.slice Baa maa daa,.slice Eaa uaa vaa]
 have hB := zaa hB bx1
 obtain ⟨g1,e1,i1⟩ := bx2.c3
 clear bx1 bx2 bz
 go_wp2_with fail
 generalize w.alloc (.cells #[.bool baa,.slice Baa maa daa,.slice Eaa uaa vaa] 33) = W1 at *
 have HZ2 : Hid (Sz (K) (r.num).natAbs) := SzQ.num HZaa.out
 (with_reducible refine (zgd (r) baa Baa maa daa Eaa uaa vaa _ (HT.out _ hB) (HNaa.out _ hB) (szq HZaa (HNaa.out _ hB))).mono ?_)
 rintro e wc2 ⟨b2,B2,m2,d2,rfl,hw2,hb⟩
 have hB := zaa hB hb
 have g1 := zab hb g1
 have e1 := zab hb e1
 have i1 := zab hb i1
 have HN2 := lh9 hw2
 clear hb hw2
 go_wp2_with fail
 (with_reducible refine (ziH (v := T1) (HT1.out) (zef (r.num) b2 B2 m2 d2 _ HN2.out (szi HZ2 HN2.out))).mono ?_)
 rintro e wc3 ⟨rfl,hb⟩
 have hB := zaa hB hb
 have g1 := zab hb g1
 have e1 := zab hb e1
 have i1 := zab hb i1
 have HN2 := lh9 (HN2.out.below hb)
 clear hb 
 go_wp2_with fail
 (with_reducible refine (zbc (decide_eq_false HI.out) (zbi (r) baa Baa maa daa Eaa uaa vaa _ (HT.out _ hB) (HNaa.out _ hB) (szq HZaa (HNaa.out _ hB)))).mono ?_)
 rintro e wc4 ⟨rfl,hb⟩
 have hB := zaa hB hb
 have g1 := zab hb g1
 have e1 := zab hb e1
 have i1 := zab hb i1
 have HN2 := lh9 (HN2.out.below hb)
 clear hb 
 go_wp2_with fail
 have HZ3 : Hid (Sz (K) (r.den)) := SzQ.den HZaa.out
 (with_reducible refine (zgc (r) baa Baa maa daa Eaa uaa vaa _ (HT.out _ hB) (HNaa.out _ hB) (szq HZaa (HNaa.out _ hB))).mono ?_)
 rintro e wc5 ⟨B3,m3,d3,rfl,hw3,hb⟩
 have hB := zaa hB hb
 have g1 := zab hb g1
 have e1 := zab hb e1
 have i1 := zab hb i1
 have HN2 := lh9 (HN2.out.below hb)
 have HN3 := lh9 hw3
 clear hb hw3
 go_wp2_with fail
 (with_reducible refine (ziH (v := T2) (HT2.out) (zgO (r.den) B3 m3 d3 _ HN3.out (szw HZ3 HN3.out))).mono ?_)
 rintro e wc6 ⟨rfl,hb⟩
 have hB := zaa hB hb
 have g1 := zab hb g1
 have e1 := zab hb e1
 have i1 := zab hb i1
 have HN2 := lh9 (HN2.out.below hb)
 have HN3 := lh9 (HN3.out.below hb)
 clear hb 
 go_wp2
 go_ret
 exact ⟨by first | rfl | simp,hB⟩
theorem zdS (r : Rat) (baa : Bool) (Baa : oA9) (maa daa : Nat) (Eaa : oA9) (uaa vaa : Nat) (w : World) (hT : zaj w) (haa : zay w r baa Baa maa daa Eaa uaa vaa) (qaa : zbD maa uaa) :
  Calls Tryz.prog 16 #[.agg #[.bool baa,.slice Baa maa daa,.slice Eaa uaa vaa]] w (fun e w' => e = .returned (.string (zaw (zbX r))) ∧ Below w.heap.size w w') := by
 by_cases hd : r.den = 1
 ·exact zlI r baa Baa maa daa Eaa uaa vaa w hT haa qaa hd
 ·exact zlH r baa Baa maa daa Eaa uaa vaa w hT haa qaa hd
end Go.Proofs.YtfieheffipfahaaGreatDoor
