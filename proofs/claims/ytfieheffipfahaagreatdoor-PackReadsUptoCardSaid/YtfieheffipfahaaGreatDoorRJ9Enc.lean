/- What this claim leans on. -/
import Derived.Test.YtfieheffipfahaaGreatDoorRJ9Text
namespace Go.Proofs.YtfieheffipfahaaGreatDoor
open Go Go.RowKit
set_option maxHeartbeats 16000000
set_option maxRecDepth 100000
set_option linter.unusedVariables false
set_option linter.unusedSimpArgs false
def zeX (w : World) (r : Rat) (e : Ending) (w' : World) : Prop:=∃ (v ev : Value),e = .returned (.tuple #[v,ev]) ∧ zdz w.heap.size w' v (encL r) ∧ zcm w' (encE r) ev ∧ Below w.heap.size w w'
theorem zjE (r : Rat) (b : Bool) (A : oA9) (n c : Nat) (E : oA9) (u v : Nat) (w : World) (hT : zam w) (h : zaF w r b A n c E u v) (hq : zbL n u) (h0 : r = 0) :
  Calls Tryz.prog 13 #[.agg #[.bool b,.slice A n c,.slice E u v]] w (zeX w r):=by
 subst h0
 obtain ⟨bx1,bx2,bz⟩:=zaz w 33 #[.bool b,.slice A n c,.slice E u v]
 obtain ⟨g1,e1,i1⟩:=bx2.c3
 have HF:=lh9 (zcc 0 b A n c E u v _ (hT.on bx1) (h.below bx1) hq)
 unfold zeX
 rw [ziB.1,ziB.2]
 rw [show zbM 0 = 0 from rfl] at HF
 clear h hq hT bx2 bz
 go_enter Tryz.func13,Tryz.ntmps13
 go_wp2_with fail
 refine HF.out.mono ?_
 rintro e w1 ⟨rfl,hb⟩
 have hB:=zac bx1 hb
 have HL:=lit8z (B:=w.heap.size) w1 0 0 rfl hB.size
 have hB2:=hB.alloc hB.size (.cells #[.int .u8 0] 5)
 obtain ⟨A2,c2,e2,-,-,hrd⟩:=HL.reads
 cases e2
 have c0 : (w1.alloc (.cells #[.int .u8 0] 5)).cell? ⟨w1.heap.size,0,none⟩ = some (.int .u8 0):=(Blk.new w1 5 #[.int .u8 0]).c1
 have HR:=lh9 HL
 have HB:=lh9 hB2
 clear HF hb hB HL hrd bx1 g1 e1 i1 hB2
 go_wp2
 refine bodyPost_ret (v:=.tuple #[.slice (some ⟨w1.heap.size,0,none⟩) 1 1,.nilIface]) (by simp [results,Tryz.results13,go_sem]) rfl ?_
 exact ⟨_,_,rfl,HR.out,zeH _,HB.out⟩
theorem zje (r : Rat) (b : Bool) (A : oA9) (n c : Nat) (E : oA9) (u v : Nat) (w : World) (hT : zam w) (h : zaF w r b A n c E u v) (hq : zbL n u) (h0 : r ≠ 0) :
  Calls Tryz.prog 13 #[.agg #[.bool b,.slice A n c,.slice E u v]] w (zeX w r):=by
 obtain ⟨bx1,bx2,bz⟩:=zaz w 33 #[.bool b,.slice A n c,.slice E u v]
 obtain ⟨g1,e1,i1⟩:=bx2.c3
 obtain ⟨K,hKe⟩ : ∃ K,67108864 = K:=⟨_,rfl⟩
 have hz : SzQ K r:=zbu h hq hKe
 have HZD:=lh9 hz.den
 have HZN:=lh9 hz.num
 have hKK : K ≤ 67108864:=by omega
 have HF:=lh9 (zcc r b A n c E u v _ (hT.on bx1) (h.below bx1) hq)
 have HDE:=lh9 (fun w' (hb : Below w.heap.size w w') => zhJ r b A n c E u v w' (hT.on hb) (h.below hb) hq)
 have HNU:=lh9 (fun w' (hb : Below w.heap.size w w') => zhZ r b A n c E u v w' (hT.on hb) (h.below hb) hq)
 have HFO : Hid (zgA r = ([zbM r] ++ zhN r) ++ zeb r.num.natAbs):=by show _ = _; rw [form_ne h0]; simp
 have hkk:=zoL h0
 have HE1:=lh9 (@enc_den r)
 have HE2:=lh9 (@enc_num r)
 have HE3:=lh9 (@zld r)
 unfold zeX
 obtain ⟨EE,hEE⟩ : ∃ x,encE r = x:=⟨_,rfl⟩
 obtain ⟨EL,hEL⟩ : ∃ x,encL r = x:=⟨_,rfl⟩
 obtain ⟨F,hF⟩ : ∃ x,zgA r = x:=⟨_,rfl⟩
 rw [hEE,hEL]
 simp only [hEE,hEL,hF] at HE1 HE2 HE3
 rw [hF] at HFO
 obtain ⟨k,hk⟩ : ∃ x,zbM r = x:=⟨_,rfl⟩
 rw [hk] at HF HFO hkk
 have HDL : Hid (r.den ≠ 1 → [k] ++ zhN r = [k] ++ zeb r.den):=fun h => by unfold zhN; rw [if_neg h]
 have HDO : Hid (r.den = 1 → [k] ++ zhN r = [k] ∧ zcp r.den ≤ 255):=fun h => by unfold zhN; rw [if_pos h,h,blen_one]; exact ⟨by simp,by decide⟩
 have HLD : Hid (zcp r.den ≤ 255 → ([k] ++ zhN r).length ≤ 257):=fun h => by
  unfold zhN
  split
  ·simp
  ·have : (zeb r.den).length ≤ 256:=by show (zcq _).length + 1 ≤ _; rw [zeE]; omega
   simp; omega
 obtain ⟨L5,hL5⟩ : ∃ x,[k] ++ zhN r = x:=⟨_,rfl⟩
 rw [hL5] at HFO HDL HDO HLD
 have hkc : (r.den = 1 ∧ (k = 1 ∨ k = 2)) ∨ (r.den ≠ 1 ∧ (k = 3 ∨ k = 4)):=by
  rw [hkk]
  by_cases h1 : r.den = 1
  ·exact .inl ⟨h1,by rw [if_pos h1]; split <;> simp⟩
  ·exact .inr ⟨h1,by rw [if_neg h1]; split <;> simp⟩
 have HKC:=lh9 hkc
 clear h hq hT bz hKe hz h0 hkk hEE hEL hF hk hL5 hkc
 go_enter Tryz.func13,Tryz.ntmps13
 go_wp2_with fail
 refine HF.out.mono ?_
 rintro e w1 ⟨rfl,hb⟩
 have hB:=zac bx1 hb
 have hBA:=(Below.refl w1.heap.size w1).alloc (Nat.le_refl _) (.cells #[.int .u8 (k : Int)] 5)
 have hsz1 : w.heap.size + 1 ≤ w1.heap.size:=Nat.le_trans (by simp) hb.size
 have HL:=lh9 (lit8 (B:=w.heap.size + 1) w1 k hsz1)
 have g1:=zad hBA (zad hb g1)
 have e1:=zad hBA (zad hb e1)
 have i1:=zad hBA (zad hb i1)
 have hB:=zac hB hBA
 have c0 : (w1.alloc (.cells #[.int .u8 (k : Int)] 5)).cell? ⟨w1.heap.size,0,none⟩ = some (.int .u8 (k : Int)):=(Blk.new w1 5 #[.int .u8 (k : Int)]).c1
 clear HF hb bx1 bx2 hBA
 go_upto_block 2 with fail
 generalize hW2 : w1.alloc (.cells #[.int .u8 (k : Int)] 5) = W2 at *
 have hsz2 : w.heap.size + 1 ≤ W2.heap.size:=by rw [← hW2]; simp; omega
 obtain ⟨q,hq⟩ : ∃ q,w1.heap.size = q:=⟨_,rfl⟩
 rw [hq] at HL c0 ⊢
 clear hW2 hq c0
 go_cut [4,5,12,13,14,15,16,17,18,19,20,21,22,23,24,25,26,27] (fun s4 s5 _ _ _ _ _ _ _ _ _ _ _ _ _ _ _ _ wx => ∃ v5,v5 = s4 ∧ s5 = .nilIface ∧ zcp r.den ≤ 255 ∧ zdz (w.heap.size + 1) wx v5 L5 ∧ Below w.heap.size w wx ∧ wx.cell? ⟨w.heap.size,0,none⟩ = some (.bool b) ∧ wx.cell? ⟨w.heap.size,1,none⟩ = some (.slice A n c) ∧ wx.cell? ⟨w.heap.size,2,none⟩ = some (.slice E u v))
 case first =>
  clear HNU HFO HE2 HE3 HZN HLD
  rcases HKC.out with ⟨h1,hk⟩ | ⟨h1,hk⟩
  ·obtain ⟨e5,hd⟩:=HDO.out h1
   clear HDE HKC HDO HDL HE1
   rcases hk with rfl | rfl
   ·go_wp2
    go_meet
    exact ⟨_,rfl,rfl,hd,(by rw [e5]; exact HL.out),hB,g1,e1,i1⟩
   ·go_wp2
    go_meet
    exact ⟨_,rfl,rfl,hd,(by rw [e5]; exact HL.out),hB,g1,e1,i1⟩
  ·have e5:=HDL.out h1
   clear HKC HDO HDL
   go_upto_block 1 with fail
   go_cut [12,13,14] (fun _ _ _ wx => wx = W2)
   case first =>
    rcases hk with rfl | rfl
    ·go_wp2
     go_meet
     exact rfl
    ·go_wp2
     go_meet
     exact rfl
   case rest =>
   obtain ⟨W3,hW3⟩ : ∃ x,x = wc:=⟨_,rfl⟩
   subst hW3
   subst hcut
   clear hk
   go_wp2_with fail
   refine (HDE.out _ hB).mono ?_
   rintro e w3 ⟨B3,m3,d3,rfl,hw3,hb3,hf3⟩
   have ha:=zcF.fresh (m:=m3) hf3 HL.out
   have hr3:=HL.out.below hb3
   have hB3:=zac hB hb3
   have g3:=zad hb3 g1
   have e3:=zad hb3 e1
   have i3:=zad hb3 i1
   have hn3 : m3 ≤ 67108864:=szw HZD hw3
   have hsz3:=hb3.size
   by_cases hD : zcp r.den ≤ 255
   ·have HP:=lh9 (zgH (w.heap.size + 1) _ [k] r.den ({ data:=#[100,105,118,105,115,111,114] }) B3 m3 d3 _ hr3 (by omega) (by simp) hw3 hn3 ha hD)
    have HR:=lh9 hr3
    have n0:=zaN
    clear HDE HE1 HL hB g1 e1 i1 hb3 hf3 ha hr3 hw3 HZD
    go_wp2_with fail
    refine HP.out.mono ?_
    rintro e w4 ⟨v4,rfl,hr4,hG⟩
    have hB4:=hG.belowOf HR.out hB3 (Nat.le_succ _)
    have g4:=hG.cell HR.out g3 (by show w.heap.size < _; omega)
    have e4:=hG.cell HR.out e3 (by show w.heap.size < _; omega)
    have i4:=hG.cell HR.out i3 (by show w.heap.size < _; omega)
    clear HP HR hG hB3 g3 e3 i3
    go_wp2
    go_meet
    exact ⟨_,rfl,rfl,hD,(by rw [e5]; exact hr4),hB4,g4,e4,i4⟩
   ·have HP:=lh9 (zhE (.slice (some ⟨q,0,none⟩) 1 1) r.den ({ data:=#[100,105,118,105,115,111,114] }) B3 m3 d3 _ hw3 hn3 hD)
    obtain ⟨rfl,rfl⟩:=HE1.out hD
    have n0:=zaM
    clear HDE HE1 HL hB g1 e1 i1 hb3 hf3 ha hr3 hw3 HZD
    go_wp2_with fail
    refine HP.out.mono ?_
    rintro e w4 ⟨et,ex,rfl,he,hb4⟩
    have HB:=lh9 (zac hB3 hb4)
    have HE:=lh9 he
    clear HP hB3 g3 e3 i3 he hb4
    go_wp2
    refine bodyPost_ret (v:=.tuple #[.slice none 0 0,.iface et ex]) (by simp [results,Tryz.results13,go_sem]) rfl ?_
    exact ⟨_,_,rfl,zdz.nil _ _,HE.out,HB.out⟩
 case rest =>
 obtain ⟨v5,rfl,rfl,hD,hr5,hB5,g5,e5,i5⟩:=hcut
 have hl5:=HLD.out hD
 have hlt5:=World.block_lt_of_cell? _ _ g5
 dsimp only at hlt5
 have HR5:=lh9 hr5
 clear HDE HE1 HL hB g1 e1 i1 HZD HDL HDO HLD HKC hr5
 go_wp2_with fail
 refine (HNU.out _ hB5).mono ?_
 rintro e w6 ⟨b6,B6,m6,d6,rfl,hw6,hb6⟩
 have HR6:=lh9 (HR5.out.below hb6)
 have hB6:=zac hB5 hb6
 have hsz6:=hb6.size
 have HAB:=lh9 (zhA r.num b6 B6 m6 d6 _ hw6 (szi HZN hw6))
 clear HNU HR5 hB5 g5 e5 i5 hw6 hb6
 go_wp2_with fail
 refine HAB.out.mono ?_
 rintro e w7 ⟨B7,m7,d7,rfl,hw7,hb7,hf7⟩
 have ha:=zcF.fresh (m:=m7) hf7 HR6.out
 have hr7:=HR6.out.below hb7
 have hB7:=zac hB6 hb7
 have hn7 : m7 ≤ 67108864:=szw HZN hw7
 have hsz7:=hb7.size
 by_cases hN : zcp r.num.natAbs ≤ 255
 ·have HP:=lh9 (zgH (w.heap.size + 1) _ L5 r.num.natAbs ({ data:=#[110,117,109,98,101,114] }) B7 m7 d7 _ hr7 (by omega) (by omega) hw7 hn7 ha hN)
  obtain ⟨rfl,rfl⟩:=HE3.out hD hN
  rw [← HFO.out] at HP
  have HR:=lh9 hr7
  have n0:=zaN
  clear HAB HR6 hB6 hb7 hf7 ha hr7 hw7 HZN HE2 HE3 HFO
  go_wp2_with fail
  refine HP.out.mono ?_
  rintro e w8 ⟨v8,rfl,hr8,hG⟩
  have HB:=lh9 (hG.belowOf HR.out hB7 (Nat.le_succ _))
  have HR8:=lh9 (hr8.up (B:=w.heap.size) (Nat.le_succ _))
  clear HP HR hG hB7 hr8
  go_wp2
  refine bodyPost_ret (v:=.tuple #[v8,.nilIface]) (by simp [results,Tryz.results13,go_sem]) rfl ?_
  exact ⟨_,_,rfl,HR8.out,zeH _,HB.out⟩
 ·have HP:=lh9 (zhE v5 r.num.natAbs ({ data:=#[110,117,109,98,101,114] }) B7 m7 d7 _ hw7 hn7 hN)
  obtain ⟨rfl,rfl⟩:=HE2.out hD hN
  have n0:=zaM
  clear HAB HR6 hB6 hb7 hf7 ha hr7 hw7 HZN HE2 HE3 HFO
  go_wp2_with fail
  refine HP.out.mono ?_
  rintro e w8 ⟨et,ex,rfl,he,hb8⟩
  have HB:=lh9 (zac hB7 hb8)
  have HE:=lh9 he
  clear HP hB7 he hb8
  go_wp2
  refine bodyPost_ret (v:=.tuple #[.slice none 0 0,.iface et ex]) (by simp [results,Tryz.results13,go_sem]) rfl ?_
  exact ⟨_,_,rfl,zdz.nil _ _,HE.out,HB.out⟩
theorem zmM (r : Rat) (b : Bool) (A : oA9) (n c : Nat) (E : oA9) (u v : Nat) (w : World) (hT : zam w) (h : zaF w r b A n c E u v) (hq : zbL n u) :
  Calls Tryz.prog 13 #[.agg #[.bool b,.slice A n c,.slice E u v]] w (zeX w r):=by
 by_cases h0 : r = 0
 ·exact zjE r b A n c E u v w hT h hq h0
 ·exact zje r b A n c E u v w hT h hq h0
theorem zhe (w : World) (l : List Nat) (cs : Array Value) (n : Nat) (hcs : cs.toList = zaq .u8 l) (hd : Dgs 256 l) (hl : l.length = n) (hn : n ≤ 1000) : zaB (w.alloc (.cells cs 5)) l (some ⟨w.heap.size,0,none⟩) n n:=by
 have hs : cs.size = n * 1:=by have:=congrArg List.length hcs; rw [zaC,Array.length_toList] at this; omega
 have h:=World.ownsRow_lit (base:=0) (e:=5) (size:=1) w cs n (Nat.zero_le _) (by unfold maxLen; omega) hs
 rw [hcs] at h
 obtain ⟨A,c,e,h1,h2,h3⟩:=zas.of_grown_own h
 cases e
 exact ⟨h3,hd,Nat.le_refl _,by omega⟩
theorem zla {l : List Nat} (h : l.all (fun d => decide (d < 256)) = true) : Dgs 256 l:=fun d hd => of_decide_eq_true (List.all_eq_true.1 h d hd)
theorem aw9_d1 (A : oA9) (w : World) (hT : zam w) (h : zaB w [4,1,2,1,3,9] A 6 6) : Calls Tryz.prog 18 #[.slice A 6 6] w (zbd w (.no,Rat.divInt (-3) 2,5)) :=
 zfp [4,1,2,1,3,9] A 6 6 w hT h (by decide) (by decide) rfl (by decide) (by decide) (by decide) (by decide) (by decide) (by decide)
theorem aw9_d2 (A : oA9) (w : World) (hT : zam w) (h : zaB w [3,1,2,1,4] A 5 5) : Calls Tryz.prog 18 #[.slice A 5 5] w (zbd w (.bare 91,0,0)) :=
 zfn [3,1,2,1,4] A 5 5 w hT h (by decide) (by decide) rfl (by decide) (by decide) (by decide) (by decide) (by decide)
theorem aw9_d3 (A : oA9) (w : World) (hT : zam w) (h : zaB w [3,1,2,2,1] A 5 5) : Calls Tryz.prog 18 #[.slice A 5 5] w (zbd w (.spot 90 zdF 3,0,0)) :=
 zfo [3,1,2,2,1] A 5 5 w hT h (by decide) (by decide) rfl (by decide) (by decide) (by decide)
theorem zoZ {K : Nat} (h : 0 < K) : Sz K 1:=zcr h
theorem aw9_r (w : World) (hT : zam w) : Calls Tryz.prog 20 #[.string { data:=#[49,47,120] }] w (zcX w (.spot 91 zef 2,0)) :=
 zhF [49,47,120] w hT (by decide) (fun _ => (show 1 = (zbB (zap [49,47,120])).natAbs from by decide) ▸ zoZ (by decide)) (fun h => absurd h (by decide)) (by decide) (by decide) (by decide)
theorem aw9_form : encE (Rat.divInt (-3) 2) = .no ∧ encL (Rat.divInt (-3) 2) = [4,1,2,1,3]:=zld (r:=Rat.divInt (-3) 2) (by decide) (by decide)
theorem aw9_text : zcg (Rat.divInt (-3) 2) = [45,51,47,50]:=by decide
def Tab9 (w : World) : Prop:=zam w ∧ zdw w
theorem Tab9.on {w w' : World} (h : Tab9 w) (hb : Below w.heap.size w w') : Tab9 w':=⟨h.1.on hb,h.2.below hb⟩
theorem ziN (w : World) (hT : Tab9 w) : Calls Tryz.prog 10 #[] w fun e w' => e = .returned (.bool true) ∧ Below w.heap.size w w':=by
 have HT:=lh9 (fun w' (hb : Below w.heap.size w w') => hT.on hb)
 have HF:=lh9 aw9_form
 have HX:=lh9 aw9_text
 have HZ : Hid (SzQ 1 (Rat.divInt (-3) 2)):=SzQ.made (K:=1) (by show (-3 : Int).natAbs < _; decide) (by show (2 : Int).natAbs < _; decide) (by decide)
 have HO:=lh9 (fun w' (h : zam w') => rat_of (-3) 2 w' h (by decide) (by decide) (by decide) (by decide) (by decide))
 obtain ⟨a,ha⟩ : ∃ a,Rat.divInt (-3) 2 = a:=⟨_,rfl⟩
 have H1:=lh9 aw9_d1
 rw [ha] at HF HX HZ HO H1
 clear hT ha
 go_enter Tryz.func10,Tryz.ntmps10
 have hB:=Below.refl w.heap.size w
 go_wp2_with fail
 refine (HO.out _ (HT.out _ hB).1).mono ?_
 rintro e w1 ⟨b1,A1,n1,c1,E1,u1,v1,rfl,hr1,hb⟩
 have hB:=zac hB hb
 obtain ⟨bx1,bx2,bz⟩:=zaz w1 33 #[.bool b1,.slice A1 n1 c1,.slice E1 u1 v1]
 have hB:=zac hB bx1
 have k1:=bx2
 have h1:=hr1.below bx1
 obtain ⟨g1,e1,i1⟩:=k1.c3
 clear bx1 bx2 bz hb hr1 HO
 go_upto_region 2 with fail
 generalize w1.alloc (.cells #[.bool b1,.slice A1 n1 c1,.slice E1 u1 v1] 33) = W1 at *
 obtain ⟨q1,hq1⟩ : ∃ q,w1.heap.size = q:=⟨_,rfl⟩
 rw [hq1] at k1 g1 e1 i1 ⊢
 clear hq1
 go_wp2_with fail
 refine (zmM a b1 A1 n1 c1 E1 u1 v1 _ (HT.out _ hB).1 h1 (szq HZ h1)).mono ?_
 rintro e w2 ⟨r2,ev2,rfl,hr2,he2,hb⟩
 rw [HF.out.1] at he2
 rw [HF.out.2] at hr2
 obtain rfl:=he2
 have hB:=zac hB hb
 have k1:=zae hb k1
 have h1:=h1.below hb
 clear hb g1 e1 i1
 obtain ⟨A2,c2,rfl,hc2,hc2m,hrd2⟩:=hr2.reads
 have h2 : zaB w2 [4,1,2,1,3] A2 5 c2:=⟨hrd2,zla (by decide),hc2,by unfold maxLen at hc2m; omega⟩
 clear hr2 hrd2 HF hc2 hc2m
 go_upto_region 3 with fail
 have hl:=zhe w2 [4,1,2,1,3,9] #[.int .u8 4,.int .u8 1,.int .u8 2,.int .u8 1,.int .u8 3,.int .u8 9] 6 rfl (zla (by decide)) rfl (by decide)
 have hbx:=(Below.refl w2.heap.size w2).alloc (Nat.le_refl _) (.cells #[.int .u8 4,.int .u8 1,.int .u8 2,.int .u8 1,.int .u8 3,.int .u8 9] 5)
 have k1:=zae hbx k1
 have h1:=h1.below hbx
 have h2:=h2.below hbx
 have hB:=zac hB hbx
 clear hbx
 go_wp2_with fail
 generalize w2.alloc (.cells #[.int .u8 4,.int .u8 1,.int .u8 2,.int .u8 1,.int .u8 3,.int .u8 9] 5) = X3 at *
 refine (H1.out _ _ (HT.out _ hB).1 hl).mono ?_
 rintro e w3 ⟨b3,A3,n3,c3,E3,u3,v3,ev3,rfl,hr3,he3,hb⟩
 have k1:=zae hb k1
 have h1:=h1.below hb
 have h2:=h2.below hb
 have hB:=zac hB hb
 obtain ⟨bx1,bx2,bz⟩:=zaz w3 33 #[.bool b3,.slice A3 n3 c3,.slice E3 u3 v3]
 have k1:=zae bx1 k1
 have h1:=h1.below bx1
 have h2:=h2.below bx1
 have hB:=zac hB bx1
 obtain rfl:=he3
 have k3:=bx2
 have h3:=hr3.below bx1
 clear bx1 bx2 bz hb hr3 hl H1
 go_upto_region 4 with fail
 generalize w3.alloc (.cells #[.bool b3,.slice A3 n3 c3,.slice E3 u3 v3] 33) = Y3 at *
 obtain ⟨q3,hq3⟩ : ∃ q,w3.heap.size = q:=⟨_,rfl⟩
 rw [hq3] at k3 ⊢
 clear hq3
 have hl:=zhe Y3 [3,1,2,1,4] #[.int .u8 3,.int .u8 1,.int .u8 2,.int .u8 1,.int .u8 4] 5 rfl (zla (by decide)) rfl (by decide)
 have hbx:=(Below.refl Y3.heap.size Y3).alloc (Nat.le_refl _) (.cells #[.int .u8 3,.int .u8 1,.int .u8 2,.int .u8 1,.int .u8 4] 5)
 have k1:=zae hbx k1
 have h1:=h1.below hbx
 have h2:=h2.below hbx
 have k3:=zae hbx k3
 have h3:=h3.below hbx
 have hB:=zac hB hbx
 clear hbx
 go_wp2_with fail
 generalize Y3.alloc (.cells #[.int .u8 3,.int .u8 1,.int .u8 2,.int .u8 1,.int .u8 4] 5) = X4 at *
 refine (aw9_d2 _ _ (HT.out _ hB).1 hl).mono ?_
 rintro e w4 ⟨b4,A4,n4,c4,E4,u4,v4,ev4,rfl,hr4,he4,hb⟩
 have k1:=zae hb k1
 have h1:=h1.below hb
 have h2:=h2.below hb
 have k3:=zae hb k3
 have h3:=h3.below hb
 have hB:=zac hB hb
 obtain ⟨bx1,bx2,bz⟩:=zaz w4 33 #[.bool b4,.slice A4 n4 c4,.slice E4 u4 v4]
 have k1:=zae bx1 k1
 have h1:=h1.below bx1
 have h2:=h2.below bx1
 have k3:=zae bx1 k3
 have h3:=h3.below bx1
 have hB:=zac hB bx1
 have he4:=he4.below bx1
 clear bx1 bx2 bz hb hr4 hl
 go_upto_region 5 with fail
 generalize w4.alloc (.cells #[.bool b4,.slice A4 n4 c4,.slice E4 u4 v4] 33) = Y4 at *
 obtain ⟨q4,hq4⟩ : ∃ q,w4.heap.size = q:=⟨_,rfl⟩
 rw [hq4] at ⊢
 clear hq4
 have hl:=zhe Y4 [3,1,2,2,1] #[.int .u8 3,.int .u8 1,.int .u8 2,.int .u8 2,.int .u8 1] 5 rfl (zla (by decide)) rfl (by decide)
 have hbx:=(Below.refl Y4.heap.size Y4).alloc (Nat.le_refl _) (.cells #[.int .u8 3,.int .u8 1,.int .u8 2,.int .u8 2,.int .u8 1] 5)
 have k1:=zae hbx k1
 have h1:=h1.below hbx
 have h2:=h2.below hbx
 have k3:=zae hbx k3
 have h3:=h3.below hbx
 have he4:=he4.below hbx
 have hB:=zac hB hbx
 clear hbx
 go_wp2_with fail
 generalize Y4.alloc (.cells #[.int .u8 3,.int .u8 1,.int .u8 2,.int .u8 2,.int .u8 1] 5) = X5 at *
 refine (aw9_d3 _ _ (HT.out _ hB).1 hl).mono ?_
 rintro e w5 ⟨b5,A5,n5,c5,E5,u5,v5,ev5,rfl,hr5,he5,hb⟩
 have k1:=zae hb k1
 have h1:=h1.below hb
 have h2:=h2.below hb
 have k3:=zae hb k3
 have h3:=h3.below hb
 have he4:=he4.below hb
 have hB:=zac hB hb
 obtain ⟨bx1,bx2,bz⟩:=zaz w5 33 #[.bool b5,.slice A5 n5 c5,.slice E5 u5 v5]
 have k1:=zae bx1 k1
 have h1:=h1.below bx1
 have h2:=h2.below bx1
 have k3:=zae bx1 k3
 have h3:=h3.below bx1
 have he4:=he4.below bx1
 have hB:=zac hB bx1
 have he5:=he5.below bx1
 clear bx1 bx2 bz hb hr5 hl
 go_upto_region 6 with fail
 generalize w5.alloc (.cells #[.bool b5,.slice A5 n5 c5,.slice E5 u5 v5] 33) = Y5 at *
 obtain ⟨q5,hq5⟩ : ∃ q,w5.heap.size = q:=⟨_,rfl⟩
 rw [hq5] at ⊢
 clear hq5
 go_wp2_with fail
 refine (aw9_r _ (HT.out _ hB).1).mono ?_
 rintro e w6 ⟨b6,A6,n6,c6,E6,u6,v6,ev6,rfl,hr6,he6,hb⟩
 have k1:=zae hb k1
 have h1:=h1.below hb
 have h2:=h2.below hb
 have k3:=zae hb k3
 have h3:=h3.below hb
 have he4:=he4.below hb
 have he5:=he5.below hb
 have hB:=zac hB hb
 obtain ⟨bx1,bx2,bz⟩:=zaz w6 33 #[.bool b6,.slice A6 n6 c6,.slice E6 u6 v6]
 have k1:=zae bx1 k1
 have h1:=h1.below bx1
 have h2:=h2.below bx1
 have k3:=zae bx1 k3
 have h3:=h3.below bx1
 have he4:=he4.below bx1
 have he5:=he5.below bx1
 have hB:=zac hB bx1
 have he6:=he6.below bx1
 clear bx1 bx2 bz hb hr6
 go_upto_region 7 with fail
 generalize w6.alloc (.cells #[.bool b6,.slice A6 n6 c6,.slice E6 u6 v6] 33) = Y6 at *
 have s1:=zeL (c:=c2) (P:=Tryz.prog) 42 9 5 Tryz.underlying42 Tryz.underlying5 Tryz.underlying9 h2.1
 obtain ⟨S2,hS2⟩ : ∃ x,strL [4,1,2,1,3] = x:=⟨_,rfl⟩
 have s2 : (S2.toList == [4,1,2,1,3]) = true:=zcN S2 [4,1,2,1,3] true (by rw [← hS2]; decide)
 rw [hS2] at s1
 obtain ⟨g1,e1,i1⟩:=k1.c3
 obtain ⟨g3,e3,i3⟩:=k3.c3
 have n0:=zaJ
 have TO : ∀ (w' : World) (v : Value),zcm w' (.bare 91) v → zdw w' → Calls Tryz.prog 33 #[v,.int .i64 91,.string { data:=#[] },.int .i64 0] w' fun e w'' => e = .returned (.bool true) ∧ Below w'.heap.size w' w'':=fun w' v h hg => zfH (.bare 91) v w' h hg trivial
 have TP : ∀ (w' : World) (v : Value),zcm w' (.spot 90 zdF 3) v → zdw w' → Calls Tryz.prog 33 #[v,.int .i64 90,.string { data:=#[110,117,109,98,101,114] },.int .i64 3] w' fun e w'' => e = .returned (.bool true) ∧ Below w'.heap.size w' w'':=fun w' v h hg => zfH (.spot 90 zdF 3) v w' h hg (.inl rfl)
 have TQ : ∀ (w' : World) (v : Value),zcm w' (.spot 91 zef 2) v → zdw w' → Calls Tryz.prog 33 #[v,.int .i64 91,.string { data:=#[100,105,118,105,115,111,114] },.int .i64 2] w' fun e w'' => e = .returned (.bool true) ∧ Below w'.heap.size w' w'':=fun w' v h hg => zfH (.spot 91 zef 2) v w' h hg (.inr rfl)
 have HTO:=lh9 TO
 have HTP:=lh9 TP
 have HTQ:=lh9 TQ
 have SM:=znd a a b3 A3 n3 c3 E3 u3 v3 b1 A1 n1 c1 E1 u1 v1 _ (HT.out _ hB).1 h3 h1 (szq HZ h3) (szq HZ h1)
 rw [decide_eq_true rfl] at SM
 have HSM:=lh9 SM
 have PT:=lh9 (fun w' (hb : Below Y6.heap.size Y6 w') (hB : Below w.heap.size w w') => zpH a b1 A1 n1 c1 E1 u1 v1 w' (HT.out _ hB).1 (h1.below hb) (szq HZ h1))
 rw [HX.out] at PT
 obtain ⟨S3,hS3⟩ : ∃ x,zau [45,51,47,50] = x:=⟨_,rfl⟩
 have s3 : (S3.toList == [45,51,47,50]) = true:=zcN S3 [45,51,47,50] true (by rw [← hS3]; decide)
 rw [hS3] at PT
 have hY:=Below.refl Y6.heap.size Y6
 clear hS2 hS3 TO TP TQ SM HX h1 h3 h2 HZ k3
 go_wp2_with fail
 refine HSM.out.mono ?_
 rintro e w7 ⟨rfl,hb⟩
 have k1:=zae hb k1
 have he4:=he4.below hb
 have he5:=he5.below hb
 have he6:=he6.below hb
 have hB:=zac hB hb
 have hY:=zac hY hb
 clear hb HSM g1 e1 i1 g3 e3 i3 s1
 go_wp2_with fail
 refine (HTO.out _ _ he4 (HT.out _ hB).2).mono ?_
 rintro e w8 ⟨rfl,hb⟩
 have k1:=zae hb k1
 have he5:=he5.below hb
 have he6:=he6.below hb
 have hB:=zac hB hb
 have hY:=zac hY hb
 clear hb HTO
 go_wp2_with fail
 refine (HTP.out _ _ he5 (HT.out _ hB).2).mono ?_
 rintro e w9 ⟨rfl,hb⟩
 have k1:=zae hb k1
 have he6:=he6.below hb
 have hB:=zac hB hb
 have hY:=zac hY hb
 obtain ⟨g1,e1,i1⟩:=k1.c3
 clear hb HTP
 go_wp2_with fail
 refine (PT.out _ hY hB).mono ?_
 rintro e w10 ⟨rfl,hb⟩
 have he6:=he6.below hb
 have hB:=zac hB hb
 clear hb PT k1 g1 e1 i1
 go_wp2_with fail
 refine (HTQ.out _ _ he6 (HT.out _ hB).2).mono ?_
 rintro e w11 ⟨rfl,hb⟩
 have hB:=zac hB hb
 clear hb HTQ
 go_wp2
 go_ret
 exact ⟨rfl,hB⟩
end Go.Proofs.YtfieheffipfahaaGreatDoor
