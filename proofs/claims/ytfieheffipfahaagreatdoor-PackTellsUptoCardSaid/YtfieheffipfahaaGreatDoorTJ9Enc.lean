/- What this claim leans on. -/
import Derived.Test.YtfieheffipfahaaGreatDoorTJ9First
namespace Go.Proofs.YtfieheffipfahaaGreatDoor
open Go Go.RowKit
set_option maxHeartbeats 16000000
set_option maxRecDepth 100000
set_option linter.unusedVariables false
set_option linter.unusedSimpArgs false
def zdC (w : World) (r : Rat) (e : Ending) (w' : World) : Prop := ∃ (v ev : Value),e = .returned (.tuple #[v,ev]) ∧ zbR w.heap.size w' v (encL r) ∧ zbL w' (zfi r) ev ∧ Below w.heap.size w w'
theorem zin (r : Rat) (b : Bool) (A : oA9) (n c : Nat) (E : oA9) (u v : Nat) (w : World) (hT : zap w) (h : zau w r b A n c E u v) (hq : zbg n u) (h0 : r = 0) :
  Calls Tryz.prog 13 #[.agg #[.bool b,.slice A n c,.slice E u v]] w (zdC w r) := by
 subst h0
 obtain ⟨bx1,bx2,bz⟩ := zaA w 33 #[.bool b,.slice A n c,.slice E u v]
 obtain ⟨g1,e1,i1⟩ := bx2.c3
 have HF := lh9 (zfn 0 b A n c E u v _ (hT.on bx1) (h.below bx1) hq)
 unfold zdC
 rw [zdV.1,zdV.2]
 rw [show zct 0 = 0 from rfl] at HF
 clear h hq hT bx2 bz
 go_enter Tryz.func13,Tryz.ntmps13
 go_wp2_with fail
 refine HF.out.mono ?_
 rintro e w1 ⟨rfl,hb⟩
 have hB := zac bx1 hb
 have HL := lit8z (B := w.heap.size) w1 0 0 rfl hB.size
 have hB2 := hB.alloc hB.size (.cells #[.int .u8 0] 5)
 obtain ⟨A2,c2,e2,-,-,hrd⟩ := HL.reads
 cases e2
 have c0 : (w1.alloc (.cells #[.int .u8 0] 5)).cell? ⟨w1.heap.size,0,none⟩ = some (.int .u8 0) := (Blk.new w1 5 #[.int .u8 0]).c1
 have HR := lh9 HL
 have HB := lh9 hB2
 clear HF hb hB HL hrd bx1 g1 e1 i1 hB2
 go_wp2
 refine bodyPost_ret (v := .tuple #[.slice (some ⟨w1.heap.size,0,none⟩) 1 1,.nilIface]) (by simp [results,Tryz.results13,go_sem]) rfl ?_
 exact ⟨_,_,rfl,HR.out,zmf _,HB.out⟩
theorem zhT (r : Rat) (b : Bool) (A : oA9) (n c : Nat) (E : oA9) (u v : Nat) (w : World) (hT : zap w) (h : zau w r b A n c E u v) (hq : zbg n u) (h0 : r ≠ 0) :
  Calls Tryz.prog 13 #[.agg #[.bool b,.slice A n c,.slice E u v]] w (zdC w r) := by
 obtain ⟨bx1,bx2,bz⟩ := zaA w 33 #[.bool b,.slice A n c,.slice E u v]
 obtain ⟨g1,e1,i1⟩ := bx2.c3
 obtain ⟨K,hKe⟩ : ∃ K,67108864 = K := ⟨_,rfl⟩
 have hz : SzQ K r := zaU h hq hKe
 have HZD := lh9 hz.den
 have HZN := lh9 hz.num
 have hKK : K ≤ 67108864 := by omega
 have HF := lh9 (zfn r b A n c E u v _ (hT.on bx1) (h.below bx1) hq)
 have HDE := lh9 (fun w' (hb : Below w.heap.size w w') => zgM r b A n c E u v w' (hT.on hb) (h.below hb) hq)
 have HNU := lh9 (fun w' (hb : Below w.heap.size w w') => zhc r b A n c E u v w' (hT.on hb) (h.below hb) hq)
 have HFO : Hid (zgC r = ([zct r] ++ zhv r) ++ zcm r.num.natAbs) := by show _ = _; rw [zna h0]; simp
 have hkk := znc h0
 have HE1 := lh9 (@zmY r)
 have HE2 := lh9 (@zmZ r)
 have HE3 := lh9 (@zgW r)
 unfold zdC
 obtain ⟨EE,hEE⟩ : ∃ x,zfi r = x := ⟨_,rfl⟩
 obtain ⟨EL,hEL⟩ : ∃ x,encL r = x := ⟨_,rfl⟩
 obtain ⟨F,hF⟩ : ∃ x,zgC r = x := ⟨_,rfl⟩
 rw [hEE,hEL]
 simp only [hEE,hEL,hF] at HE1 HE2 HE3
 rw [hF] at HFO
 obtain ⟨k,hk⟩ : ∃ x,zct r = x := ⟨_,rfl⟩
 rw [hk] at HF HFO hkk
 have HDL : Hid (r.den ≠ 1 → [k] ++ zhv r = [k] ++ zcm r.den) := fun h => by unfold zhv; rw [if_neg h]
 have HDO : Hid (r.den = 1 → [k] ++ zhv r = [k] ∧ zbt r.den ≤ 255) := fun h => by unfold zhv; rw [if_pos h,h,zkv]; exact ⟨by simp,by decide⟩
 have HLD : Hid (zbt r.den ≤ 255 → ([k] ++ zhv r).length ≤ 257) := fun h => by
  unfold zhv
  split
  ·simp
  ·have : (zcm r.den).length ≤ 256 := by show (zbi _).length + 1 ≤ _; rw [zdh]; omega
   simp; omega
 obtain ⟨L5,hL5⟩ : ∃ x,[k] ++ zhv r = x := ⟨_,rfl⟩
 rw [hL5] at HFO HDL HDO HLD
 have hkc : (r.den = 1 ∧ (k = 1 ∨ k = 2)) ∨ (r.den ≠ 1 ∧ (k = 3 ∨ k = 4)) := by
  rw [hkk]
  by_cases h1 : r.den = 1
  ·exact .inl ⟨h1,by rw [if_pos h1]; split <;> simp⟩
  ·exact .inr ⟨h1,by rw [if_neg h1]; split <;> simp⟩
 have HKC := lh9 hkc
 clear h hq hT bz hKe hz h0 hkk hEE hEL hF hk hL5 hkc
 go_enter Tryz.func13,Tryz.ntmps13
 go_wp2_with fail
 refine HF.out.mono ?_
 rintro e w1 ⟨rfl,hb⟩
 have hB := zac bx1 hb
 have hBA := (Below.refl w1.heap.size w1).alloc (Nat.le_refl _) (.cells #[.int .u8 (k : Int)] 5)
 have hsz1 : w.heap.size + 1 ≤ w1.heap.size := Nat.le_trans (by simp) hb.size
 have HL := lh9 (lit8 (B := w.heap.size + 1) w1 k hsz1)
 have g1 := zad hBA (zad hb g1)
 have e1 := zad hBA (zad hb e1)
 have i1 := zad hBA (zad hb i1)
 have hB := zac hB hBA
 have c0 : (w1.alloc (.cells #[.int .u8 (k : Int)] 5)).cell? ⟨w1.heap.size,0,none⟩ = some (.int .u8 (k : Int)) := (Blk.new w1 5 #[.int .u8 (k : Int)]).c1
 clear HF hb bx1 bx2 hBA
 go_upto_block 2 with fail
 generalize hW2 : w1.alloc (.cells #[.int .u8 (k : Int)] 5) = W2 at *
 have hsz2 : w.heap.size + 1 ≤ W2.heap.size := by rw [← hW2]; simp; omega
 obtain ⟨q,hq⟩ : ∃ q,w1.heap.size = q := ⟨_,rfl⟩
 rw [hq] at HL c0 ⊢
 clear hW2 hq c0
 go_cut [4,5,12,13,14,15,16,17,18,19,20,21,22,23,24,25,26,27] (fun s4 s5 _ _ _ _ _ _ _ _ _ _ _ _ _ _ _ _ wx => ∃ v5,v5 = s4 ∧ s5 = .nilIface ∧ zbt r.den ≤ 255 ∧ zbR (w.heap.size + 1) wx v5 L5 ∧ Below w.heap.size w wx ∧ wx.cell? ⟨w.heap.size,0,none⟩ = some (.bool b) ∧ wx.cell? ⟨w.heap.size,1,none⟩ = some (.slice A n c) ∧ wx.cell? ⟨w.heap.size,2,none⟩ = some (.slice E u v))
 case first =>
  clear HNU HFO HE2 HE3 HZN HLD
  rcases HKC.out with ⟨h1,hk⟩ | ⟨h1,hk⟩
  ·obtain ⟨e5,hd⟩ := HDO.out h1
   clear HDE HKC HDO HDL HE1
   rcases hk with rfl | rfl
   ·go_wp2
    go_meet
    exact ⟨_,rfl,rfl,hd,(by rw [e5]; exact HL.out),hB,g1,e1,i1⟩
   ·go_wp2
    go_meet
    exact ⟨_,rfl,rfl,hd,(by rw [e5]; exact HL.out),hB,g1,e1,i1⟩
  ·have e5 := HDL.out h1
   clear HKC HDO HDL
   go_upto_block 1 with fail
   go_cut [12,13,14] (fun _ _ _ wx => wx = W2)
   case first =>
    rcases hk with rfl | rfl
    ·go_wp2
     go_meet
     exact rfl
    ·go_wp2
     go_meet
     exact rfl
   case rest =>
   obtain ⟨W3,hW3⟩ : ∃ x,x = wc := ⟨_,rfl⟩
   subst hW3
   subst hcut
   clear hk
   go_wp2_with fail
   refine (HDE.out _ hB).mono ?_
   rintro e w3 ⟨B3,m3,d3,rfl,hw3,hb3,hf3⟩
   have ha := zcc.fresh (m := m3) hf3 HL.out
   have hr3 := HL.out.below hb3
   have hB3 := zac hB hb3
   have g3 := zad hb3 g1
   have e3 := zad hb3 e1
   have i3 := zad hb3 i1
   have hn3 : m3 ≤ 67108864 := szw HZD hw3
   have hsz3 := hb3.size
   by_cases hD : zbt r.den ≤ 255
   ·have HP := lh9 (zfR (w.heap.size + 1) _ [k] r.den ({ data := #[100,105,118,105,115,111,114] }) B3 m3 d3 _ hr3 (by omega) (by simp) hw3 hn3 ha hD)
    have HR := lh9 hr3
    have n0 := zbn
    clear HDE HE1 HL hB g1 e1 i1 hb3 hf3 ha hr3 hw3 HZD
    go_wp2_with fail
    refine HP.out.mono ?_
    rintro e w4 ⟨v4,rfl,hr4,hG⟩
    have hB4 := hG.belowOf HR.out hB3 (Nat.le_succ _)
    have g4 := hG.cell HR.out g3 (by show w.heap.size < _; omega)
    have e4 := hG.cell HR.out e3 (by show w.heap.size < _; omega)
    have i4 := hG.cell HR.out i3 (by show w.heap.size < _; omega)
    clear HP HR hG hB3 g3 e3 i3
    go_wp2
    go_meet
    exact ⟨_,rfl,rfl,hD,(by rw [e5]; exact hr4),hB4,g4,e4,i4⟩
   ·have HP := lh9 (zgI (.slice (some ⟨q,0,none⟩) 1 1) r.den ({ data := #[100,105,118,105,115,111,114] }) B3 m3 d3 _ hw3 hn3 hD)
    obtain ⟨rfl,rfl⟩ := HE1.out hD
    have n0 := zbm
    clear HDE HE1 HL hB g1 e1 i1 hb3 hf3 ha hr3 hw3 HZD
    go_wp2_with fail
    refine HP.out.mono ?_
    rintro e w4 ⟨et,ex,rfl,he,hb4⟩
    have HB := lh9 (zac hB3 hb4)
    have HE := lh9 he
    clear HP hB3 g3 e3 i3 he hb4
    go_wp2
    refine bodyPost_ret (v := .tuple #[.slice none 0 0,.iface et ex]) (by simp [results,Tryz.results13,go_sem]) rfl ?_
    exact ⟨_,_,rfl,zbR.nil _ _,HE.out,HB.out⟩
 case rest =>
 obtain ⟨v5,rfl,rfl,hD,hr5,hB5,g5,e5,i5⟩ := hcut
 have hl5 := HLD.out hD
 have hlt5 := World.block_lt_of_cell? _ _ g5
 dsimp only at hlt5
 have HR5 := lh9 hr5
 clear HDE HE1 HL hB g1 e1 i1 HZD HDL HDO HLD HKC hr5
 go_wp2_with fail
 refine (HNU.out _ hB5).mono ?_
 rintro e w6 ⟨b6,B6,m6,d6,rfl,hw6,hb6⟩
 have HR6 := lh9 (HR5.out.below hb6)
 have hB6 := zac hB5 hb6
 have hsz6 := hb6.size
 have HAB := lh9 (zgE r.num b6 B6 m6 d6 _ hw6 (szi HZN hw6))
 clear HNU HR5 hB5 g5 e5 i5 hw6 hb6
 go_wp2_with fail
 refine HAB.out.mono ?_
 rintro e w7 ⟨B7,m7,d7,rfl,hw7,hb7,hf7⟩
 have ha := zcc.fresh (m := m7) hf7 HR6.out
 have hr7 := HR6.out.below hb7
 have hB7 := zac hB6 hb7
 have hn7 : m7 ≤ 67108864 := szw HZN hw7
 have hsz7 := hb7.size
 by_cases hN : zbt r.num.natAbs ≤ 255
 ·have HP := lh9 (zfR (w.heap.size + 1) _ L5 r.num.natAbs ({ data := #[110,117,109,98,101,114] }) B7 m7 d7 _ hr7 (by omega) (by omega) hw7 hn7 ha hN)
  obtain ⟨rfl,rfl⟩ := HE3.out hD hN
  rw [← HFO.out] at HP
  have HR := lh9 hr7
  have n0 := zbn
  clear HAB HR6 hB6 hb7 hf7 ha hr7 hw7 HZN HE2 HE3 HFO
  go_wp2_with fail
  refine HP.out.mono ?_
  rintro e w8 ⟨v8,rfl,hr8,hG⟩
  have HB := lh9 (hG.belowOf HR.out hB7 (Nat.le_succ _))
  have HR8 := lh9 (hr8.up (B := w.heap.size) (Nat.le_succ _))
  clear HP HR hG hB7 hr8
  go_wp2
  refine bodyPost_ret (v := .tuple #[v8,.nilIface]) (by simp [results,Tryz.results13,go_sem]) rfl ?_
  exact ⟨_,_,rfl,HR8.out,zmf _,HB.out⟩
 ·have HP := lh9 (zgI v5 r.num.natAbs ({ data := #[110,117,109,98,101,114] }) B7 m7 d7 _ hw7 hn7 hN)
  obtain ⟨rfl,rfl⟩ := HE2.out hD hN
  have n0 := zbm
  clear HAB HR6 hB6 hb7 hf7 ha hr7 hw7 HZN HE2 HE3 HFO
  go_wp2_with fail
  refine HP.out.mono ?_
  rintro e w8 ⟨et,ex,rfl,he,hb8⟩
  have HB := lh9 (zac hB7 hb8)
  have HE := lh9 he
  clear HP hB7 he hb8
  go_wp2
  refine bodyPost_ret (v := .tuple #[.slice none 0 0,.iface et ex]) (by simp [results,Tryz.results13,go_sem]) rfl ?_
  exact ⟨_,_,rfl,zbR.nil _ _,HE.out,HB.out⟩
theorem zgH (r : Rat) (b : Bool) (A : oA9) (n c : Nat) (E : oA9) (u v : Nat) (w : World) (hT : zap w) (h : zau w r b A n c E u v) (hq : zbg n u) :
  Calls Tryz.prog 13 #[.agg #[.bool b,.slice A n c,.slice E u v]] w (zdC w r) := by
 by_cases h0 : r = 0
 ·exact zin r b A n c E u v w hT h hq h0
 ·exact zhT r b A n c E u v w hT h hq h0
theorem zig {P : Program} {f : FuncId} {args : Array Value} {w : World} {z v : ByteArray} (e : z = v) (h : Calls P f args w fun e w' => e = .returned (.string z) ∧ Below w.heap.size w w') : Calls P f args w fun e w' => e = .returned (.string v) ∧ Below w.heap.size w w' := by
 subst e; exact h
theorem zly {K : Nat} {z : Int} (h : Sz K z.natAbs) : (zcx z).length ≤ 64 * K + 2 := by
 have := zdo h
 unfold zcx
 split
 ·simp; omega
 ·omega
theorem zjd {r : Rat} (h : r.den = 1) : zas (zdM r) = zas (zcx r.num) := by unfold zdM; rw [if_pos h,List.append_nil]
theorem zie (a b : List UInt8) : zas a ++ zas b = zas (a ++ b) := by
 apply ByteArray.ext
 simp [zas]
theorem zif {r : Rat} (h : r.den ≠ 1) : zas (zdM r) = (zas (zcx r.num) ++ { data := #[47] }) ++ zas (zbr r.den) := by
 rw [show ({ data := #[47] } : ByteArray) = zas [47] from rfl,zie,zie]
 unfold zdM
 rw [if_neg h]; simp
theorem zlg (r : Rat) (baa : Bool) (Baa : oA9) (maa daa : Nat) (Eaa : oA9) (uaa vaa : Nat) (w : World) (hT : zap w) (haa : zau w r baa Baa maa daa Eaa uaa vaa) (qaa : zbg maa uaa) (hd : r.den = 1) :
  Calls Tryz.prog 16 #[.agg #[.bool baa,.slice Baa maa daa,.slice Eaa uaa vaa]] w (fun e w' => e = .returned (.string (zas (zdM r))) ∧ Below w.heap.size w w') := by
 have HIC := lh9 (zbD (T := zap))
 have HT := lh9 (fun w' (hb : Below w.heap.size w w') => hT.on hb)
 obtain ⟨K,hKe⟩ : ∃ K,67108864 = K := ⟨_,rfl⟩
 have hKK : K ≤ 67108864 := by omega
 have hK0 : 0 < K := by omega
 have hK9 : 255 ≤ K := by omega
 have ef1 := zaT
 have ef2 := zbe
 have ef3 := zbm
 have ef4 := zbn
 have HI := lh9 hd
 rw [zjd hd]
 obtain ⟨T1,hT1⟩ : ∃ x,zas (zcx r.num) = x := ⟨_,rfl⟩
 rw [hT1]
 have HT1 := lh9 hT1
 clear hT1
 have HNaa := lh9 (fun w' (b : Below w.heap.size w w') => haa.below b)
 obtain ⟨xaa,hxaa,hxwaa⟩ := haa.2
 have HXaa := lh9 hxaa
 have HZaa : Hid (SzQ K r) := zaU haa qaa hKe
 have HZaap : Hid (Sz K r.num.natAbs) := HZaa.out.num
 have HZaaq : Hid (Sz K xaa) := zaE HZaa.out.den hxaa
 have HNaap := lh9 (fun w' (b : Below w.heap.size w w') => haa.1.below b)
 have HNaaq := lh9 (fun w' (b : Below w.heap.size w w') => hxwaa.below b)
 clear haa qaa hxaa hxwaa
 clear hT hKe hd
 go_enter Tryz.func16,Tryz.ntmps16
 have hB := Below.refl w.heap.size w
 obtain ⟨bx1,bx2,bz⟩ := zaA w 33 #[.bool baa,.slice Baa maa daa,.slice Eaa uaa vaa]
 have hB := zac hB bx1
 obtain ⟨g1,e1,i1⟩ := bx2.c3
 clear bx1 bx2 bz
 go_wp2_with fail
 generalize w.alloc (.cells #[.bool baa,.slice Baa maa daa,.slice Eaa uaa vaa] 33) = W1 at *
 have HZ2 : Hid (Sz (K) (r.num).natAbs) := SzQ.num HZaa.out
 (with_reducible refine (zhc (r) baa Baa maa daa Eaa uaa vaa _ (HT.out _ hB) (HNaa.out _ hB) (szq HZaa (HNaa.out _ hB))).mono ?_)
 rintro e wc2 ⟨b2,B2,m2,d2,rfl,hw2,hb⟩
 have hB := zac hB hb
 have g1 := zad hb g1
 have e1 := zad hb e1
 have i1 := zad hb i1
 have HN2 := lh9 hw2
 clear hb hw2
 go_wp2_with fail
 (with_reducible refine (zig (v := T1) (HT1.out) (zdW (r.num) b2 B2 m2 d2 _ HN2.out (szi HZ2 HN2.out))).mono ?_)
 rintro e wc3 ⟨rfl,hb⟩
 have hB := zac hB hb
 have g1 := zad hb g1
 have e1 := zad hb e1
 have i1 := zad hb i1
 have HN2 := lh9 (HN2.out.below hb)
 clear hb 
 go_wp2_with fail
 (with_reducible refine (zaO (decide_eq_true HI.out) (zbj (r) baa Baa maa daa Eaa uaa vaa _ (HT.out _ hB) (HNaa.out _ hB) (szq HZaa (HNaa.out _ hB)))).mono ?_)
 rintro e wc4 ⟨rfl,hb⟩
 have hB := zac hB hb
 have g1 := zad hb g1
 have e1 := zad hb e1
 have i1 := zad hb i1
 have HN2 := lh9 (HN2.out.below hb)
 clear hb 
 go_wp2
 go_ret
 exact ⟨by first | rfl | simp,hB⟩
theorem zlf (r : Rat) (baa : Bool) (Baa : oA9) (maa daa : Nat) (Eaa : oA9) (uaa vaa : Nat) (w : World) (hT : zap w) (haa : zau w r baa Baa maa daa Eaa uaa vaa) (qaa : zbg maa uaa) (hd : r.den ≠ 1) :
  Calls Tryz.prog 16 #[.agg #[.bool baa,.slice Baa maa daa,.slice Eaa uaa vaa]] w (fun e w' => e = .returned (.string (zas (zdM r))) ∧ Below w.heap.size w w') := by
 have HIC := lh9 (zbD (T := zap))
 have HT := lh9 (fun w' (hb : Below w.heap.size w w') => hT.on hb)
 obtain ⟨K,hKe⟩ : ∃ K,67108864 = K := ⟨_,rfl⟩
 have hKK : K ≤ 67108864 := by omega
 have hK0 : 0 < K := by omega
 have hK9 : 255 ≤ K := by omega
 have ef1 := zaT
 have ef2 := zbe
 have ef3 := zbm
 have ef4 := zbn
 have HI := lh9 hd
 rw [zif hd]
 have hsz : SzQ K r := zaU haa qaa hKe
 have hl1 := zly hsz.num
 have hl2 := zdo hsz.den
 obtain ⟨T1,hT1⟩ : ∃ x,zas (zcx r.num) = x := ⟨_,rfl⟩
 obtain ⟨T2,hT2⟩ : ∃ x,zas (zbr r.den) = x := ⟨_,rfl⟩
 have z1 : T1.size ≤ 4294967298 := by rw [← hT1,zaI]; omega
 have z2 : T2.size ≤ 4294967298 := by rw [← hT2,zaI]; omega
 rw [hT1,hT2]
 have HT1 := lh9 hT1
 have HT2 := lh9 hT2
 have zc : ({ data := #[47] } : ByteArray).size = 1 := rfl
 have a1 : ∀ w' : World,(Op.stringOp .add T1 ({ data := #[47] } : ByteArray)).run Tryz.prog w' = .ok (.string (T1 ++ { data := #[47] })) w' := fun w' => run_string_add_sum w' _ _ (by omega)
 obtain ⟨U,hU⟩ : ∃ x,T1 ++ ({ data := #[47] } : ByteArray) = x := ⟨_,rfl⟩
 have z3 : U.size ≤ 4294967299 := by rw [← hU,ByteArray.size_append]; omega
 rw [hU] at a1
 rw [hU]
 have a2 : ∀ w' : World,(Op.stringOp .add U T2).run Tryz.prog w' = .ok (.string (U ++ T2)) w' := fun w' => run_string_add_sum w' _ _ (by omega)
 obtain ⟨V,hV⟩ : ∃ x,U ++ T2 = x := ⟨_,rfl⟩
 rw [hV] at a2
 rw [hV]
 clear hT1 hT2 hl1 hl2 z1 z2 z3 zc hU hV hsz
 have HNaa := lh9 (fun w' (b : Below w.heap.size w w') => haa.below b)
 obtain ⟨xaa,hxaa,hxwaa⟩ := haa.2
 have HXaa := lh9 hxaa
 have HZaa : Hid (SzQ K r) := zaU haa qaa hKe
 have HZaap : Hid (Sz K r.num.natAbs) := HZaa.out.num
 have HZaaq : Hid (Sz K xaa) := zaE HZaa.out.den hxaa
 have HNaap := lh9 (fun w' (b : Below w.heap.size w w') => haa.1.below b)
 have HNaaq := lh9 (fun w' (b : Below w.heap.size w w') => hxwaa.below b)
 clear haa qaa hxaa hxwaa
 clear hT hKe hd
 go_enter Tryz.func16,Tryz.ntmps16
 have hB := Below.refl w.heap.size w
 obtain ⟨bx1,bx2,bz⟩ := zaA w 33 #[.bool baa,.slice Baa maa daa,.slice Eaa uaa vaa]
 have hB := zac hB bx1
 obtain ⟨g1,e1,i1⟩ := bx2.c3
 clear bx1 bx2 bz
 go_wp2_with fail
 generalize w.alloc (.cells #[.bool baa,.slice Baa maa daa,.slice Eaa uaa vaa] 33) = W1 at *
 have HZ2 : Hid (Sz (K) (r.num).natAbs) := SzQ.num HZaa.out
 (with_reducible refine (zhc (r) baa Baa maa daa Eaa uaa vaa _ (HT.out _ hB) (HNaa.out _ hB) (szq HZaa (HNaa.out _ hB))).mono ?_)
 rintro e wc2 ⟨b2,B2,m2,d2,rfl,hw2,hb⟩
 have hB := zac hB hb
 have g1 := zad hb g1
 have e1 := zad hb e1
 have i1 := zad hb i1
 have HN2 := lh9 hw2
 clear hb hw2
 go_wp2_with fail
 (with_reducible refine (zig (v := T1) (HT1.out) (zdW (r.num) b2 B2 m2 d2 _ HN2.out (szi HZ2 HN2.out))).mono ?_)
 rintro e wc3 ⟨rfl,hb⟩
 have hB := zac hB hb
 have g1 := zad hb g1
 have e1 := zad hb e1
 have i1 := zad hb i1
 have HN2 := lh9 (HN2.out.below hb)
 clear hb 
 go_wp2_with fail
 (with_reducible refine (zaO (decide_eq_false HI.out) (zbj (r) baa Baa maa daa Eaa uaa vaa _ (HT.out _ hB) (HNaa.out _ hB) (szq HZaa (HNaa.out _ hB)))).mono ?_)
 rintro e wc4 ⟨rfl,hb⟩
 have hB := zac hB hb
 have g1 := zad hb g1
 have e1 := zad hb e1
 have i1 := zad hb i1
 have HN2 := lh9 (HN2.out.below hb)
 clear hb 
 go_wp2_with fail
 have HZ3 : Hid (Sz (K) (r.den)) := SzQ.den HZaa.out
 (with_reducible refine (zha (r) baa Baa maa daa Eaa uaa vaa _ (HT.out _ hB) (HNaa.out _ hB) (szq HZaa (HNaa.out _ hB))).mono ?_)
 rintro e wc5 ⟨B3,m3,d3,rfl,hw3,hb⟩
 have hB := zac hB hb
 have g1 := zad hb g1
 have e1 := zad hb e1
 have i1 := zad hb i1
 have HN2 := lh9 (HN2.out.below hb)
 have HN3 := lh9 hw3
 clear hb hw3
 go_wp2_with fail
 (with_reducible refine (zig (v := T2) (HT2.out) (zgB (r.den) B3 m3 d3 _ HN3.out (szw HZ3 HN3.out))).mono ?_)
 rintro e wc6 ⟨rfl,hb⟩
 have hB := zac hB hb
 have g1 := zad hb g1
 have e1 := zad hb e1
 have i1 := zad hb i1
 have HN2 := lh9 (HN2.out.below hb)
 have HN3 := lh9 (HN3.out.below hb)
 clear hb 
 go_wp2
 go_ret
 exact ⟨by first | rfl | simp,hB⟩
theorem ziT (r : Rat) (baa : Bool) (Baa : oA9) (maa daa : Nat) (Eaa : oA9) (uaa vaa : Nat) (w : World) (hT : zap w) (haa : zau w r baa Baa maa daa Eaa uaa vaa) (qaa : zbg maa uaa) :
  Calls Tryz.prog 16 #[.agg #[.bool baa,.slice Baa maa daa,.slice Eaa uaa vaa]] w (fun e w' => e = .returned (.string (zas (zdM r))) ∧ Below w.heap.size w w') := by
 by_cases hd : r.den = 1
 ·exact zlg r baa Baa maa daa Eaa uaa vaa w hT haa qaa hd
 ·exact zlf r baa Baa maa daa Eaa uaa vaa w hT haa qaa hd
end Go.Proofs.YtfieheffipfahaaGreatDoor
