/- What this claim leans on. -/
import Derived.Test.YtfieheffipfahaaGreatDoorXUArgs8
import Derived.Test.YtfieheffipfahaaGreatDoorXJ9Lead
namespace Go.Proofs.YtfieheffipfahaaGreatDoor
open Go Go.RowKit
set_option maxHeartbeats 16000000
set_option maxRecDepth 100000
set_option linter.unusedVariables false
set_option linter.unusedSimpArgs false
theorem zcl.cell2 {w w' : World} {v v' : Value} {p : Addr} {u : Value} (h : zcl w v w' v') (hc : w.cell? p = some u) (hp : v.ownBlock ≠ some p.block) : w'.cell? p = some u :=
 (World.cell?_of_block (h.grown.block _ (World.block_lt_of_cell? w p hc) (fun e => hp e.symm))).trans hc
theorem zcP.not {B g : Nat} {w : World} {v : Value} {L : List Nat} (h : zcP B w v L) (hg : w.heap.size ≤ g) : v.ownBlock ≠ some g := fun e => by have := (h.lt g e).2; omega
theorem zcl.not {w w' : World} {v v' : Value} {g : Nat} (h : zcl w v w' v') (hn : v.ownBlock ≠ some g) (hg : g < w.heap.size) : v'.ownBlock ≠ some g := fun e => by
 rcases h.at_ with h1 | h1
 ·exact hn (h1 ▸ e)
 ·have := h1 g e; omega
def zkE (B : Nat) (w : World) (v : Value) (L : List Nat) (e : Ending) (w' : World) : Prop := ∃ v',e = .returned (.tuple #[v',.nilIface]) ∧ zcP B w' v' L ∧ zcl w v w' v'
theorem zfY (B : Nat) (v : Value) (L : List Nat) (x : Nat) (s : ByteArray) (A : oA9) (n c : Nat) (w : World) (hv : zcP B w v L) (hb : B ≤ w.heap.size) (hL : L.length ≤ 1048576) (h : zaf w x A n c) (hn : n ≤ 67108864) (ha : zdv v A n) (hx : zbk x ≤ 255) :
  Calls Tryz.prog 44 #[v,.agg #[.slice A n c],.string s] w (zkE B w v (L ++ zaR x)) := by
 obtain ⟨bx1,bx2,bz⟩ := zav w 29 #[.slice A n c]
 have HS := lh9 (zex x A n c _ (h.below bx1) (by omega))
 have HY := lh9 (fun w' A n c (h : zaf w' x A n c) hn => zjW x A n c w' h hn)
 have HE : Hid (L ++ zaR x = (L ++ [zbk x]) ++ zbe x) := by show _ = _; unfold zaR; simp
 have hle : (zbe x).length = zbk x := zcf x
 have HN : (dg 256 x).length = zbk x := rfl
 unfold zgl at HY
 rw [HN] at HS
 rw [hle] at HY
 obtain ⟨N,hN⟩ : ∃ N,zbk x = N := ⟨_,rfl⟩
 obtain ⟨D,hD⟩ : ∃ N,zbe x = N := ⟨_,rfl⟩
 obtain ⟨P,hP⟩ : ∃ N,L ++ zaR x = N := ⟨_,rfl⟩
 rw [hN] at HS hx hle
 rw [hN,hD] at HY
 rw [hD] at hle
 rw [hN,hD,hP] at HE
 rw [hP]
 have i1 : ¬ ((255 : Int) < (N : Int)) := by omega
 have i2 : IntKind.u8.wrap (N : Int) = (N : Int) := IntWalk.u8_in _ (by omega)
 have HV := lh9 hv
 have HW := lh9 h
 have HA := lh9 ha
 have hnb := hv.not (Nat.le_refl _)
 clear hv h ha hN hD hP HN bz
 go_enter Tryz.func44,Tryz.ntmps44
 obtain ⟨g1⟩ : _ ∧ True := ⟨bx2.c1,trivial⟩
 go_wp2_with fail
 refine HS.out.mono ?_
 rintro e w1 ⟨rfl,hb1⟩
 have hB := zaa bx1 hb1
 have g1 := zab hb1 bx2.c1
 have HV1 := lh9 (HV.out.below hB)
 have HW1 := lh9 (HW.out.below hB)
 have hsz := hB.size
 have hlt := World.block_lt_of_cell? _ _ g1
 have HG0 := lh9 (zcl.below (v := v) hB)
 clear HS hb1 bx1 bx2 HV HW
 go_upto_region 4 with fail
 have hBw := (Below.refl w1.heap.size w1).drew
 refine rg (csc g1 csn) (fun hHeld => ?_)
 have HV1 := lh9 (HV1.out.below hBw)
 have HW1 := lh9 (HW1.out.below hBw)
 have HG0 := lh9 (HG0.out.trans (zcl.below (v := v) hBw))
 have hz1 := hBw.size
 generalize w1.drew = Wd at *
 clear hBw g1
 refine tk 0 ?_
 refine tk 1 ?_
 refine tk 2 ?_
 refine tk 5 ?_
 refine rc 3 (fun K hK => ?_)
 go_simp
 have HL := lh9 ((Below.refl Wd.heap.size Wd).alloc (Nat.le_refl _) (.cells #[.int .u8 (N : Int)] 5))
 refine hK.out _ _ (hHeld.below HL.out) (fun hHeld => ?_); clear hK K
 try simp only [sb9]
 have HV2 := lh9 (HV1.out.below HL.out)
 have HW2 := lh9 (HW1.out.below HL.out)
 have HR2 := lh9 (lit8 (B := B) Wd N (by omega))
 have HG1 := lh9 (HG0.out.trans (zcl.below (v := v) HL.out))
 obtain ⟨A2,c2,e2,-,-,hrd⟩ := HR2.out.reads
 cases e2
 have HRD := lh9 hrd
 have hz2 := HL.out.size
 generalize Wd.alloc (.cells #[.int .u8 (N : Int)] 5) = W2 at *
 clear HV1 HW1 HG0 hrd HL HR2
 refine rc 4 (fun K hK => ?_)
 refine app8 (.tmp 17) (.tmp 20) B v L _ 1 1 [N] HV2.out HRD.out (by omega) (by omega) (fun v3 w3 hr3 hG3 => ?_)
 refine hK.out _ _ ⟨hG3.cell2 hHeld.1 hnb,trivial⟩ (fun hHeld => ?_); clear hK K
 try simp only [sb9]
 obtain ⟨hw3,ha3⟩ := HA.out.words HW2.out hG3
 have HG3 := lh9 (HG1.out.trans hG3)
 have hnb3 := hG3.not hnb (by show w.heap.size < _; omega)
 have hsz3 := HG3.out.grown.size
 have hlt3 := World.block_lt_of_cell? _ _ hHeld.1
 have HR3 := lh9 hr3
 have HYY := lh9 (HY.out _ A n c hw3 (by omega))
 clear hG3 HG1 hw3 ha3 HY HA HW2 HV2 HRD hr3
 refine rc 6 (fun K hK => ?_)
 go_simp
 refine HYY.out.mono ?_
 rintro e w4 ⟨v4,rfl,hown4,hb4⟩
 obtain ⟨A4,c4,rfl,hc4,hc4m,hr4⟩ := zan.of_grown_own hown4
 refine hK.out _ _ (hHeld.below hb4) (fun hHeld => ?_); clear hK K
 try simp only [sb9]
 have HR4 := lh9 (HR3.out.below hb4)
 have HG4 := lh9 (HG3.out.trans (zcl.below (v := v3) hb4))
 have HRD4 := lh9 hr4
 have hsz4 := hb4.size
 clear HYY hown4 hr4 hc4 hc4m HR3 HG3
 refine rc 7 (fun K hK => ?_)
 refine app8 (.tmp 21) (.tmp 23) B v3 (L ++ [N]) _ N c4 D HR4.out HRD4.out (by simp; omega) (by omega) (fun v5 w5 hr5 hG5 => ?_)
 refine hK.out _ _ ⟨hG5.cell2 hHeld.1 hnb3,trivial⟩ (fun hHeld => ?_); clear hK K
 try simp only [sb9]
 have HG : Hid (zkE B w v P (.returned (.tuple #[v5,.nilIface])) w5) := ⟨_,rfl,HE.out ▸ hr5,HG4.out.trans hG5⟩
 clear hG5 hr5 HR4 HG4 HRD4
 refine tk 8 ?_
 refine tk 9 ?_
 refine rdn ?_
 go_wp2
 refine bodyPost_ret (v := .tuple #[v5,.nilIface]) (by simp [results,Tryz.results44,go_sem]) rfl ?_
 exact HG.out
def zmf (w : World) (er : Er) (e : Ending) (w' : World) : Prop := ∃ (et : TypeId) (ex : Value),e = .returned (.tuple #[.slice none 0 0,.iface et ex]) ∧ zbO w' er (.iface et ex) ∧ Below w.heap.size w w'
theorem zgS (v : Value) (x : Nat) (s : ByteArray) (A : oA9) (n c : Nat) (w : World) (h : zaf w x A n c) (hn : n ≤ 67108864) (hx : ¬ zbk x ≤ 255) :
  Calls Tryz.prog 44 #[v,.agg #[.slice A n c],.string s] w (zmf w (.spot 3 s ((zbk x : Nat) : Int))) := by
 obtain ⟨bx1,bx2,bz⟩ := zav w 29 #[.slice A n c]
 have HS := lh9 (zex x A n c _ (h.below bx1) (by omega))
 have HN : (dg 256 x).length = zbk x := rfl
 rw [HN] at HS
 obtain ⟨N,hN⟩ : ∃ N,zbk x = N := ⟨_,rfl⟩
 rw [hN] at HS hx ⊢
 have i1 : (255 : Int) < (N : Int) := by omega
 clear h hN HN bz hn
 go_enter Tryz.func44,Tryz.ntmps44
 have g1 := bx2.c1
 go_wp2_with fail
 refine HS.out.mono ?_
 rintro e w1 ⟨rfl,hb1⟩
 have hB := zaa bx1 hb1
 clear HS hb1 bx1 bx2 g1
 go_wp2_with fail
 refine (zcQ 3 s (N : Int) _).mono ?_
 rintro e w2 ⟨et,ex,rfl,he,hb2⟩
 have hB2 := zaa hB hb2
 have HE := lh9 he
 clear hB hb2 he
 go_wp2
 refine bodyPost_ret (v := .tuple #[.slice none 0 0,.iface et ex]) (by simp [results,Tryz.results44,go_sem]) rfl ?_
 exact ⟨_,_,rfl,HE.out,hB2⟩
theorem ziR (l : List Nat) (k : Nat) (s : ByteArray) (Baa : oA9) (maa daa : Nat) (w : World) (hT : zaj w) (haa : zat w l Baa maa daa) (qaa : maa ≤ 2147483648) (hk : k ≤ maa) (he : zaD l k ≠ 0) :
  Calls Tryz.prog 50 #[.slice Baa maa daa,.int .i64 (k : Int),.string s] w (zeq w (.spot (zaD l k) s (k : Int))) := by
 have HIC := lh9 (zba (T := zaj))
 have HT := lh9 (fun w' (hb : Below w.heap.size w w') => hT.on hb)
 obtain ⟨K,hKe⟩ : ∃ K,67108864 = K := ⟨_,rfl⟩
 have hKK : K ≤ 67108864 := by omega
 have hK0 : 0 < K := by omega
 have hK9 : 255 ≤ K := by omega
 have ef1 := zaC
 have ef2 := zaF
 have ef3 := zaG
 have ef4 := zaH
 have HE := lh9 he
 have HNaa := lh9 (fun w' (b : Below w.heap.size w w') => haa.below b)
 have hlnaa := haa.len
 have hcpaa := haa.2.2
 clear haa
 have HKL : Hid (k ≤ l.length) := by show k ≤ _; omega
 clear hT hKe he
 go_enter Tryz.func50,Tryz.ntmps50
 have hB := Below.refl w.heap.size w
 obtain ⟨B2,hsl2,hpr2⟩ := zhF (n := maa) (c := daa) (k := k) Baa hk
 have HN2 := lh9 (fun w' b => hpr2 w' l (HNaa.out w' b))
 clear hpr2
 obtain ⟨bx1,bx2,bz⟩ := zav w 29 #[.slice none 0 0]
 have hB := zaa hB bx1
 have k1 := bx2
 clear bx1 bx2 bz
 go_wp2_with fail
 generalize w.alloc (.cells #[.slice none 0 0] 29) = W1 at *
 (with_reducible refine (lead_no l k B2 (maa - k) (daa - k) _ (HN2.out _ hB) (by omega) HKL.out HE.out).mono ?_)
 rintro e wc2 ⟨rfl,hb⟩
 have hB := zaa hB hb
 have k1 := zac hb k1
 clear hb 
 have HN5 := lh9 (zaO wc2)
 have lt1_2 : w.heap.size < wc2.heap.size := k1.lt
 have hq2 := hB.size
 obtain ⟨bx1,bx2,bz⟩ := zav wc2 29 #[.slice none 0 0]
 have hB := zaa hB bx1
 have k1 := zac bx1 k1
 have HN5 := lh9 (HN5.out.below bx1)
 have g4 := bx2.c1
 clear bx1 bx2 bz
 go_wp2_with fail
 generalize wc2.alloc (.cells #[.slice none 0 0] 29) = W3 at *
 generalize wc2.heap.size = q3 at *
 (with_reducible refine (zcQ ((zaD l k)) s ((k : Int)) _).mono ?_)
 rintro e wc4 ⟨et6,ex6,rfl,hw6,hb⟩
 have hB := zaa hB hb
 have k1 := zac hb k1
 have HN5 := lh9 (HN5.out.below hb)
 have g4 := zab hb g4
 have HN6 := lh9 hw6
 clear hb hw6
 obtain ⟨sc0,sf0⟩ := st1 k1
 have r0 := (sn1 k1 (.slice none 0 0)).c1
 have HG := lh9 (gp0 (HN6.out) k1 hB (by omega))
 go_wp2
 refine bodyPost_ret (v := .tuple #[.agg #[.slice none 0 0],.int .i64 0,.iface et6 ex6]) (by simp [results,Tryz.results50,go_sem,r0]) rfl ?_
 exact HG.out
theorem zit (l : List Nat) (k : Nat) (s : ByteArray) (Baa : oA9) (maa daa : Nat) (w : World) (hT : zaj w) (haa : zat w l Baa maa daa) (qaa : maa ≤ 2147483648) (hk : k ≤ maa) (he : zaD l k = 0) :
  Calls Tryz.prog 50 #[.slice Baa maa daa,.int .i64 (k : Int),.string s] w (zgk w (zai l k) (zap l k)) := by
 have HIC := lh9 (zba (T := zaj))
 have HT := lh9 (fun w' (hb : Below w.heap.size w w') => hT.on hb)
 obtain ⟨K,hKe⟩ : ∃ K,67108864 = K := ⟨_,rfl⟩
 have hKK : K ≤ 67108864 := by omega
 have hK0 : 0 < K := by omega
 have hK9 : 255 ≤ K := by omega
 have ef1 := zaC
 have ef2 := zaF
 have ef3 := zaG
 have ef4 := zaH
 have HE := lh9 he
 obtain ⟨u,hu⟩ : ∃ u,1 + l.getD k 0 = u := ⟨_,rfl⟩
 have HU := lh9 hu
 have HEND : Hid ((k : Int) + (u : Int) = ((zap l k : Nat) : Int)) := by show _ = _; unfold zap; omega
 have HNaa := lh9 (fun w' (b : Below w.heap.size w w') => haa.below b)
 have hlnaa := haa.len
 have hcpaa := haa.2.2
 clear haa
 have HKL : Hid (k ≤ l.length) := by show k ≤ _; omega
 have hx256 : l.getD k 0 < 256 := HNaa.out w (Below.refl _ w) |>.2.1.getD (by decide) k
 have hu6 : u ≤ 256 := by omega
 clear hT hKe he hu hx256
 go_enter Tryz.func50,Tryz.ntmps50
 have hB := Below.refl w.heap.size w
 obtain ⟨B2,hsl2,hpr2⟩ := zhF (n := maa) (c := daa) (k := k) Baa hk
 have HN2 := lh9 (fun w' b => hpr2 w' l (HNaa.out w' b))
 clear hpr2
 obtain ⟨bx1,bx2,bz⟩ := zav w 29 #[.slice none 0 0]
 have hB := zaa hB bx1
 have k1 := bx2
 clear bx1 bx2 bz
 go_wp2_with fail
 generalize w.alloc (.cells #[.slice none 0 0] 29) = W1 at *
 (with_reducible refine (lead_yes l k B2 (maa - k) (daa - k) _ (HN2.out _ hB) (by omega) HKL.out HE.out u HU.out).mono ?_)
 rintro e wc2 ⟨B3,m3,d3,rfl,hw3,hb⟩
 have hB := zaa hB hb
 have k1 := zac hb k1
 have HN3 := lh9 hw3
 clear hb hw3
 have lt1_2 : w.heap.size < wc2.heap.size := k1.lt
 have hq2 := hB.size
 obtain ⟨bx1,bx2,bz⟩ := zav wc2 29 #[.slice B3 m3 d3]
 have hB := zaa hB bx1
 have k1 := zac bx1 k1
 have HN3 := lh9 (HN3.out.below bx1)
 have g4 := bx2.c1
 clear bx1 bx2 bz
 go_upto_region 4 with fail
 generalize wc2.alloc (.cells #[.slice B3 m3 d3] 29) = W3 at *
 generalize wc2.heap.size = q3 at *
 obtain ⟨sc0,sf0⟩ := st1 k1
 have r0 := (sn1 k1 (.slice B3 m3 d3)).c1
 have HG := lh9 (gp1 (HN3.out) (HEND.out) k1 hB (by omega))
 go_wp2
 refine bodyPost_ret (v := .tuple #[.agg #[.slice B3 m3 d3],.int .i64 ((k : Int) + (u : Int)),.nilIface]) (by simp [results,Tryz.results50,go_sem,r0]) rfl ?_
 exact HG.out
theorem zaJ (l : List Nat) (k : Nat) (kz : Int) (s : ByteArray) (B : oA9) (m d : Nat) (w : World) (hT : zaj w) (h : zat w l B m d) (hn : m ≤ 2147483648) (hk : k ≤ m) (he : zaD l k = 0) (hz : kz = (k : Int)) :
  Calls Tryz.prog 50 #[.slice B m d,.int .i64 kz,.string s] w (zgk w (zai l k) (zap l k)) := by
 subst hz
 exact zit l k s B m d w hT h hn hk he
theorem zcj (l : List Nat) (k : Nat) (kz : Int) (s : ByteArray) (B : oA9) (m d : Nat) (w : World) (hT : zaj w) (h : zat w l B m d) (hn : m ≤ 2147483648) (hk : k ≤ m) (he : zaD l k ≠ 0) (hz : kz = (k : Int)) :
  Calls Tryz.prog 50 #[.slice B m d,.int .i64 kz,.string s] w (zeq w (.spot (zaD l k) s kz)) := by
 subst hz
 exact ziR l k s B m d w hT h hn hk he
theorem zbf {w : World} {l : List Nat} {A : oA9} {n c k K : Nat} (h : zat w l A n c) (hK : 255 ≤ K) : Sz K (zai l k) := (valP_sz (n := 255) (fun d hd => h.2.1 d (List.mem_of_mem_drop (List.mem_of_mem_take hd))) (by rw [List.length_take]; have := h.2.1.getD (by decide) k; omega)).up hK
end Go.Proofs.YtfieheffipfahaaGreatDoor
