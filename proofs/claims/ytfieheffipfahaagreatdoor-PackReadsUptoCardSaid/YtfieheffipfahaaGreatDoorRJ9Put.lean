/- What this claim leans on. -/
import Derived.Test.YtfieheffipfahaaGreatDoorRJ9Lead
namespace Go.Proofs.YtfieheffipfahaaGreatDoor
open Go Go.RowKit
set_option maxHeartbeats 16000000
set_option maxRecDepth 100000
set_option linter.unusedVariables false
set_option linter.unusedSimpArgs false
theorem zck.cell2 {w w' : World} {v v' : Value} {p : Addr} {u : Value} (h : zck w v w' v') (hc : w.cell? p = some u) (hp : v.ownBlock ≠ some p.block) : w'.cell? p = some u :=
 (World.cell?_of_block (h.grown.block _ (World.block_lt_of_cell? w p hc) (fun e => hp e.symm))).trans hc
theorem zdz.not {B g : Nat} {w : World} {v : Value} {L : List Nat} (h : zdz B w v L) (hg : w.heap.size ≤ g) : v.ownBlock ≠ some g:=fun e => by have:=(h.lt g e).2; omega
theorem zck.not {w w' : World} {v v' : Value} {g : Nat} (h : zck w v w' v') (hn : v.ownBlock ≠ some g) (hg : g < w.heap.size) : v'.ownBlock ≠ some g:=fun e => by
 rcases h.at_ with h1 | h1
 ·exact hn (h1 ▸ e)
 ·have:=h1 g e; omega
def zlL (B : Nat) (w : World) (v : Value) (L : List Nat) (e : Ending) (w' : World) : Prop:=∃ v',e = .returned (.tuple #[v',.nilIface]) ∧ zdz B w' v' L ∧ zck w v w' v'
theorem zgH (B : Nat) (v : Value) (L : List Nat) (x : Nat) (s : ByteArray) (A : oA9) (n c : Nat) (w : World) (hv : zdz B w v L) (hb : B ≤ w.heap.size) (hL : L.length ≤ 1048576) (h : zaf w x A n c) (hn : n ≤ 67108864) (ha : zcF v A n) (hx : zcp x ≤ 255) :
  Calls Tryz.prog 44 #[v,.agg #[.slice A n c],.string s] w (zlL B w v (L ++ zeb x)):=by
 obtain ⟨bx1,bx2,bz⟩:=zaz w 29 #[.slice A n c]
 have HS:=lh9 (zff x A n c _ (h.below bx1) (by omega))
 have HY:=lh9 (fun w' A n c (h : zaf w' x A n c) hn => zlb x A n c w' h hn)
 have HE : Hid (L ++ zeb x = (L ++ [zcp x]) ++ zcq x):=by show _ = _; unfold zeb; simp
 have hle : (zcq x).length = zcp x:=zeE x
 have HN : (dg 256 x).length = zcp x:=rfl
 unfold zgX at HY
 rw [HN] at HS
 rw [hle] at HY
 obtain ⟨N,hN⟩ : ∃ N,zcp x = N:=⟨_,rfl⟩
 obtain ⟨D,hD⟩ : ∃ N,zcq x = N:=⟨_,rfl⟩
 obtain ⟨P,hP⟩ : ∃ N,L ++ zeb x = N:=⟨_,rfl⟩
 rw [hN] at HS hx hle
 rw [hN,hD] at HY
 rw [hD] at hle
 rw [hN,hD,hP] at HE
 rw [hP]
 have i1 : ¬ ((255 : Int) < (N : Int)):=by omega
 have i2 : IntKind.u8.wrap (N : Int) = (N : Int):=IntWalk.u8_in _ (by omega)
 have HV:=lh9 hv
 have HW:=lh9 h
 have HA:=lh9 ha
 have hnb:=hv.not (Nat.le_refl _)
 clear hv h ha hN hD hP HN bz
 go_enter Tryz.func44,Tryz.ntmps44
 obtain ⟨g1⟩ : _ ∧ True:=⟨bx2.c1,trivial⟩
 go_wp2_with fail
 refine HS.out.mono ?_
 rintro e w1 ⟨rfl,hb1⟩
 have hB:=zac bx1 hb1
 have g1:=zad hb1 bx2.c1
 have HV1:=lh9 (HV.out.below hB)
 have HW1:=lh9 (HW.out.below hB)
 have hsz:=hB.size
 have hlt:=World.block_lt_of_cell? _ _ g1
 have HG0:=lh9 (zck.below (v:=v) hB)
 clear HS hb1 bx1 bx2 HV HW
 go_upto_region 4 with fail
 have hBw:=(Below.refl w1.heap.size w1).drew
 refine rg (csc g1 csn) (fun hHeld => ?_)
 have HV1:=lh9 (HV1.out.below hBw)
 have HW1:=lh9 (HW1.out.below hBw)
 have HG0:=lh9 (HG0.out.trans (zck.below (v:=v) hBw))
 have hz1:=hBw.size
 generalize w1.drew = Wd at *
 clear hBw g1
 refine tk 0 ?_
 refine tk 1 ?_
 refine tk 2 ?_
 refine tk 5 ?_
 refine rc 3 (fun K hK => ?_)
 go_simp
 have HL:=lh9 ((Below.refl Wd.heap.size Wd).alloc (Nat.le_refl _) (.cells #[.int .u8 (N : Int)] 5))
 refine hK.out _ _ (hHeld.below HL.out) (fun hHeld => ?_); clear hK K
 try simp only [sb9]
 have HV2:=lh9 (HV1.out.below HL.out)
 have HW2:=lh9 (HW1.out.below HL.out)
 have HR2:=lh9 (lit8 (B:=B) Wd N (by omega))
 have HG1:=lh9 (HG0.out.trans (zck.below (v:=v) HL.out))
 obtain ⟨A2,c2,e2,-,-,hrd⟩:=HR2.out.reads
 cases e2
 have HRD:=lh9 hrd
 have hz2:=HL.out.size
 generalize Wd.alloc (.cells #[.int .u8 (N : Int)] 5) = W2 at *
 clear HV1 HW1 HG0 hrd HL HR2
 refine rc 4 (fun K hK => ?_)
 refine app8 (.tmp 17) (.tmp 20) B v L _ 1 1 [N] HV2.out HRD.out (by omega) (by omega) (fun v3 w3 hr3 hG3 => ?_)
 refine hK.out _ _ ⟨hG3.cell2 hHeld.1 hnb,trivial⟩ (fun hHeld => ?_); clear hK K
 try simp only [sb9]
 obtain ⟨hw3,ha3⟩:=HA.out.words HW2.out hG3
 have HG3:=lh9 (HG1.out.trans hG3)
 have hnb3:=hG3.not hnb (by show w.heap.size < _; omega)
 have hsz3:=HG3.out.grown.size
 have hlt3:=World.block_lt_of_cell? _ _ hHeld.1
 have HR3:=lh9 hr3
 have HYY:=lh9 (HY.out _ A n c hw3 (by omega))
 clear hG3 HG1 hw3 ha3 HY HA HW2 HV2 HRD hr3
 refine rc 6 (fun K hK => ?_)
 go_simp
 refine HYY.out.mono ?_
 rintro e w4 ⟨v4,rfl,hown4,hb4⟩
 obtain ⟨A4,c4,rfl,hc4,hc4m,hr4⟩:=zas.of_grown_own hown4
 refine hK.out _ _ (hHeld.below hb4) (fun hHeld => ?_); clear hK K
 try simp only [sb9]
 have HR4:=lh9 (HR3.out.below hb4)
 have HG4:=lh9 (HG3.out.trans (zck.below (v:=v3) hb4))
 have HRD4:=lh9 hr4
 have hsz4:=hb4.size
 clear HYY hown4 hr4 hc4 hc4m HR3 HG3
 refine rc 7 (fun K hK => ?_)
 refine app8 (.tmp 21) (.tmp 23) B v3 (L ++ [N]) _ N c4 D HR4.out HRD4.out (by simp; omega) (by omega) (fun v5 w5 hr5 hG5 => ?_)
 refine hK.out _ _ ⟨hG5.cell2 hHeld.1 hnb3,trivial⟩ (fun hHeld => ?_); clear hK K
 try simp only [sb9]
 have HG : Hid (zlL B w v P (.returned (.tuple #[v5,.nilIface])) w5):=⟨_,rfl,HE.out ▸ hr5,HG4.out.trans hG5⟩
 clear hG5 hr5 HR4 HG4 HRD4
 refine tk 8 ?_
 refine tk 9 ?_
 refine rdn ?_
 go_wp2
 refine bodyPost_ret (v:=.tuple #[v5,.nilIface]) (by simp [results,Tryz.results44,go_sem]) rfl ?_
 exact HG.out
def znz (w : World) (er : Er) (e : Ending) (w' : World) : Prop:=∃ (et : TypeId) (ex : Value),e = .returned (.tuple #[.slice none 0 0,.iface et ex]) ∧ zcm w' er (.iface et ex) ∧ Below w.heap.size w w'
theorem zhE (v : Value) (x : Nat) (s : ByteArray) (A : oA9) (n c : Nat) (w : World) (h : zaf w x A n c) (hn : n ≤ 67108864) (hx : ¬ zcp x ≤ 255) :
  Calls Tryz.prog 44 #[v,.agg #[.slice A n c],.string s] w (znz w (.spot 3 s ((zcp x : Nat) : Int))):=by
 obtain ⟨bx1,bx2,bz⟩:=zaz w 29 #[.slice A n c]
 have HS:=lh9 (zff x A n c _ (h.below bx1) (by omega))
 have HN : (dg 256 x).length = zcp x:=rfl
 rw [HN] at HS
 obtain ⟨N,hN⟩ : ∃ N,zcp x = N:=⟨_,rfl⟩
 rw [hN] at HS hx ⊢
 have i1 : (255 : Int) < (N : Int):=by omega
 clear h hN HN bz hn
 go_enter Tryz.func44,Tryz.ntmps44
 have g1:=bx2.c1
 go_wp2_with fail
 refine HS.out.mono ?_
 rintro e w1 ⟨rfl,hb1⟩
 have hB:=zac bx1 hb1
 clear HS hb1 bx1 bx2 g1
 go_wp2_with fail
 refine (zdp 3 s (N : Int) _).mono ?_
 rintro e w2 ⟨et,ex,rfl,he,hb2⟩
 have hB2:=zac hB hb2
 have HE:=lh9 he
 clear hB hb2 he
 go_wp2
 refine bodyPost_ret (v:=.tuple #[.slice none 0 0,.iface et ex]) (by simp [results,Tryz.results44,go_sem]) rfl ?_
 exact ⟨_,_,rfl,HE.out,hB2⟩
theorem zji (z : Int) (baa : Bool) (Baa : oA9) (maa daa : Nat) (w : World) (hT : zam w) (haa : zaE w z baa Baa maa daa) (qaa : maa ≤ 268435456) :
  Calls Tryz.prog 71 #[.agg #[.bool baa,.slice Baa maa daa]] w (zcC w z):=by
 have HIC:=lh9 (zbh (T:=zam))
 have HGC:=lh9 zdW
 have HT:=lh9 (fun w' (hb : Below w.heap.size w w') => hT.on hb)
 have HTB:=HT
 obtain ⟨K,hKe⟩ : ∃ K,268435456 = K:=⟨_,rfl⟩
 have hKK : K ≤ 268435456:=by omega
 have hK0 : 0 < K:=by omega
 have HV:=lh9 (zpW z)
 obtain ⟨sb,hsb⟩ : ∃ s,decide (z < 0) = s:=⟨_,rfl⟩
 rw [hsb] at HV
 have HSB:=lh9 hsb
 clear hsb
 have HNaa:=lh9 (fun w' (b : Below w.heap.size w w') => haa.below b)
 have HZaa : Hid (Sz K z.natAbs):=Sz.of_words haa.words (by omega)
 clear haa qaa
 clear hT hKe
 go_enter Tryz.func71,Tryz.ntmps71
 have hB:=Below.refl w.heap.size w
 obtain ⟨bx1,bx2,bx3,bz⟩:=zbD w 31 31 #[.bool baa,.slice Baa maa daa] #[.bool false,.slice none 0 0]
 have hB:=zac hB bx1
 obtain ⟨g1,e1⟩:=bx2.c2
 have k2:=bx3
 clear bx1 bx2 bx3 bz
 go_wp2_with fail
 generalize (w.alloc (.cells #[.bool baa,.slice Baa maa daa] 31)).alloc (.cells #[.bool false,.slice none 0 0] 31) = W1 at *
 have C0:=lh9 (fun w' (h : Below W1.heap.size W1 w') => zaW (HSB.out) (HIC.out.belowI (z) baa Baa maa daa w' (HT.out _ (zac hB h)) (HNaa.out _ (zac hB h)) (szi HZaa (HNaa.out _ hB))))
 have HZ3 : Hid (Sz (K) (z.natAbs)):=HZaa.out
 have C1:=lh9 (fun w' (h : Below W1.heap.size W1 w') => HIC.out.abs (z) baa Baa maa daa w' (HT.out _ (zac hB h)) (HNaa.out _ (zac hB h)) (szi HZaa (HNaa.out _ hB)))
 have HZ4 : Hid (Sz (K) (zcD sb z.natAbs).natAbs):=(by rw [zfw]; exact HZ3.out)
 have C2:=lh9 (fun w' (h : Below W1.heap.size W1 w') B3 m3 d3 (hw3 : zaf w' (z.natAbs) B3 m3 d3) => HIC.out.new sb (z.natAbs) B3 m3 d3 w' (HT.out _ (zac hB h)) hw3 (szw HZ3 hw3))
 have hBw:=(Below.refl W1.heap.size W1).drew
 refine rg (csc g1 (csc e1 csn)) (fun hHeld => ?_)
 refine tk 0 ?_
 refine tk 2 ?_
 refine rc 1 (fun K hK => ?_)
 go_simp
 go_at_call 83; (with_reducible refine (C0.out _ hBw).mono ?_); rintro e wa2 ⟨rfl,hb⟩; have hBw:=zac hBw hb; refine hK.out _ _ (Cs.below hHeld hb) (fun hHeld => ?_); clear hK K hb
 try simp only [sb9]
 refine rc 3 (fun K hK => ?_)
 go_simp
 go_at_call 28; (with_reducible refine (C1.out _ hBw).mono ?_); rintro e wa3 ⟨B3,m3,d3,rfl,hw3,hb⟩; have hBw:=zac hBw hb; refine hK.out _ _ (Cs.below hHeld hb) (fun hHeld => ?_); clear hK K hb
 try simp only [sb9]
 refine rc 4 (fun K hK => ?_)
 go_simp
 go_at_call 38; (with_reducible refine (C2.out _ hBw _ _ _ hw3).mono ?_); rintro e wa4 ⟨b4,B4,m4,d4,rfl,hw4,hb⟩; have hBw:=zac hBw hb; have hw3:=hw3.below hb; refine hK.out _ _ (Cs.below hHeld hb) (fun hHeld => ?_); clear hK K hb
 try simp only [sb9]
 obtain ⟨sc0,sf0,sc1,sf1⟩:=st2 (zae hBw k2) (.bool b4)
 refine rc 5 (fun K hK => ?_)
 go_simp
 refine hK.out _ _ (cs2 (.bool b4) (.slice B4 m4 d4) hHeld) (fun hHeld => ?_); clear hK K
 try simp only [sb9]
 refine rdn ?_
 have hB:=zac hB hBw
 have g1:=zad hBw g1
 have e1:=zad hBw e1
 have k2:=zae hBw k2
 have HN3:=lh9 hw3
 have HN4:=lh9 hw4
 clear hBw hHeld hw3 hw4 C0 C1 C2
 obtain ⟨r0,r1⟩:=(sn2 k2 (.bool b4) (.slice B4 m4 d4)).c2
 have HG:=lh9 (gi2 (zaE.to8 HV.out HN4.out) k2 hB (by omega))
 go_wp2
 refine bodyPost_ret (v:=.agg #[.bool b4,.slice B4 m4 d4]) (by simp [results,Tryz.results71,go_sem,r0,r1]) rfl ?_
 exact HG.out
theorem znc (r : Rat) (baa : Bool) (Baa : oA9) (maa daa : Nat) (Eaa : oA9) (uaa vaa : Nat) (w : World) (hT : zam w) (haa : zaF w r baa Baa maa daa Eaa uaa vaa) (qaa : zbL maa uaa) (hd : r.den = 1) :
  Calls Tryz.prog 31 #[.agg #[.bool baa,.slice Baa maa daa,.slice Eaa uaa vaa]] w (fun e w' => e = .returned (.bool true) ∧ Below w.heap.size w w'):=by
 have HIC:=lh9 (zbh (T:=zam))
 have HGC:=lh9 zdW
 have HT:=lh9 (fun w' (hb : Below w.heap.size w w') => hT.on hb)
 have HTB:=HT
 obtain ⟨K,hKe⟩ : ∃ K,67108864 = K:=⟨_,rfl⟩
 have hKK : K ≤ 67108864:=by omega
 have hK0 : 0 < K:=by omega
 have HNaa:=lh9 (fun w' (b : Below w.heap.size w w') => haa.below b)
 obtain ⟨xaa,hxaa,hxwaa⟩:=haa.2
 have HXaa:=lh9 hxaa
 have HZaa : Hid (SzQ K r):=zbu haa qaa hKe
 have HZaap : Hid (Sz K r.num.natAbs):=HZaa.out.num
 have HZaaq : Hid (Sz K xaa):=zaV HZaa.out.den hxaa
 have HNaap:=lh9 (fun w' (b : Below w.heap.size w w') => haa.1.below b)
 have HNaaq:=lh9 (fun w' (b : Below w.heap.size w w') => hxwaa.below b)
 clear haa qaa hxaa hxwaa
 have HX0:=lh9 (zgi HXaa.out hd)
 clear hT hKe hd
 go_enter Tryz.func31,Tryz.ntmps31
 have hB:=Below.refl w.heap.size w
 obtain ⟨bx1,bx2,bz⟩:=zaz w 33 #[.bool baa,.slice Baa maa daa,.slice Eaa uaa vaa]
 have hB:=zac hB bx1
 obtain ⟨g1,e1,i1⟩:=bx2.c3
 clear bx1 bx2 bz
 go_wp2_with fail
 generalize w.alloc (.cells #[.bool baa,.slice Baa maa daa,.slice Eaa uaa vaa] 33) = W1 at *
 (with_reducible refine (zch HX0.out (HNaaq.out _ hB)).mono ?_)
 rintro e wc2 ⟨rfl,hb⟩
 have hB:=zac hB hb
 have g1:=zad hb g1
 have e1:=zad hb e1
 have i1:=zad hb i1
 clear hb 
 go_wp2
 go_ret
 exact ⟨by first | rfl | simp,hB⟩
theorem znb (r : Rat) (baa : Bool) (Baa : oA9) (maa daa : Nat) (Eaa : oA9) (uaa vaa : Nat) (w : World) (hT : zam w) (haa : zaF w r baa Baa maa daa Eaa uaa vaa) (qaa : zbL maa uaa) (hd : r.den ≠ 1) :
  Calls Tryz.prog 31 #[.agg #[.bool baa,.slice Baa maa daa,.slice Eaa uaa vaa]] w (fun e w' => e = .returned (.bool false) ∧ Below w.heap.size w w'):=by
 have HIC:=lh9 (zbh (T:=zam))
 have HGC:=lh9 zdW
 have HT:=lh9 (fun w' (hb : Below w.heap.size w w') => hT.on hb)
 have HTB:=HT
 obtain ⟨K,hKe⟩ : ∃ K,67108864 = K:=⟨_,rfl⟩
 have hKK : K ≤ 67108864:=by omega
 have hK0 : 0 < K:=by omega
 have HNaa:=lh9 (fun w' (b : Below w.heap.size w w') => haa.below b)
 obtain ⟨xaa,hxaa,hxwaa⟩:=haa.2
 have HXaa:=lh9 hxaa
 have HZaa : Hid (SzQ K r):=zbu haa qaa hKe
 have HZaap : Hid (Sz K r.num.natAbs):=HZaa.out.num
 have HZaaq : Hid (Sz K xaa):=zaV HZaa.out.den hxaa
 have HNaap:=lh9 (fun w' (b : Below w.heap.size w w') => haa.1.below b)
 have HNaaq:=lh9 (fun w' (b : Below w.heap.size w w') => hxwaa.below b)
 clear haa qaa hxaa hxwaa
 have HX0:=lh9 (zed HXaa.out hd).1
 clear hT hKe hd
 go_enter Tryz.func31,Tryz.ntmps31
 have hB:=Below.refl w.heap.size w
 obtain ⟨bx1,bx2,bz⟩:=zaz w 33 #[.bool baa,.slice Baa maa daa,.slice Eaa uaa vaa]
 have hB:=zac hB bx1
 obtain ⟨g1,e1,i1⟩:=bx2.c3
 clear bx1 bx2 bz
 go_wp2_with fail
 generalize w.alloc (.cells #[.bool baa,.slice Baa maa daa,.slice Eaa uaa vaa] 33) = W1 at *
 (with_reducible refine (zcd HX0.out (HNaaq.out _ hB)).mono ?_)
 rintro e wc2 ⟨rfl,hb⟩
 have hB:=zac hB hb
 have g1:=zad hb g1
 have e1:=zad hb e1
 have i1:=zad hb i1
 clear hb 
 go_wp2
 go_ret
 exact ⟨by first | rfl | simp,hB⟩
theorem zbt (r : Rat) (baa : Bool) (Baa : oA9) (maa daa : Nat) (Eaa : oA9) (uaa vaa : Nat) (w : World) (hT : zam w) (haa : zaF w r baa Baa maa daa Eaa uaa vaa) (qaa : zbL maa uaa) :
  Calls Tryz.prog 31 #[.agg #[.bool baa,.slice Baa maa daa,.slice Eaa uaa vaa]] w (fun e w' => e = .returned (.bool (decide (r.den = 1))) ∧ Below w.heap.size w w'):=by
 by_cases hd : r.den = 1
 ·rw [decide_eq_true hd]; exact znc r baa Baa maa daa Eaa uaa vaa w hT haa qaa hd
 ·rw [decide_eq_false hd]; exact znb r baa Baa maa daa Eaa uaa vaa w hT haa qaa hd
end Go.Proofs.YtfieheffipfahaaGreatDoor
