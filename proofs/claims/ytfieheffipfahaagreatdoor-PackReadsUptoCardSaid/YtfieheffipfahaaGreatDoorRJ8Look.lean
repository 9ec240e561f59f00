/- What this claim leans on. -/
import Derived.Test.YtfieheffipfahaaGreatDoorRJ9Put
namespace Go.Proofs.YtfieheffipfahaaGreatDoor
open Go Go.RowKit
set_option maxHeartbeats 16000000
set_option maxRecDepth 100000
set_option linter.unusedVariables false
set_option linter.unusedSimpArgs false
theorem zly (r : Rat) (baa : Bool) (Baa : oA9) (maa daa : Nat) (Eaa : oA9) (uaa vaa : Nat) (w : World) (hT : zam w) (haa : zaF w r baa Baa maa daa Eaa uaa vaa) (qaa : zbL maa uaa) (hd : r.den = 1) :
  Calls Tryz.prog 74 #[.agg #[.bool baa,.slice Baa maa daa,.slice Eaa uaa vaa]] w (zeA w r.den):=by
 have HIC:=lh9 (zbh (T:=zam))
 have HGC:=lh9 zdW
 have HT:=lh9 (fun w' (hb : Below w.heap.size w w') => hT.on hb)
 have HTB:=HT
 obtain ⟨K,hKe⟩ : ∃ K,67108864 = K:=⟨_,rfl⟩
 have hKK : K ≤ 67108864:=by omega
 have hK0 : 0 < K:=by omega
 have HNaa:=lh9 (fun w' (b : Below w.heap.size w w') => haa.below b)
 obtain ⟨xaa,hxaa,hxwaa⟩:=haa.2
 have HXaa:=lh9 hxaa
 have HZaa : Hid (SzQ K r):=zbu haa qaa hKe
 have HZaap : Hid (Sz K r.num.natAbs):=HZaa.out.num
 have HZaaq : Hid (Sz K xaa):=zaV HZaa.out.den hxaa
 have HNaap:=lh9 (fun w' (b : Below w.heap.size w w') => haa.1.below b)
 have HNaaq:=lh9 (fun w' (b : Below w.heap.size w w') => hxwaa.below b)
 clear haa qaa hxaa hxwaa
 have HD1:=lh9 hd
 clear hT hKe hd
 go_enter Tryz.func74,Tryz.ntmps74
 have hB:=Below.refl w.heap.size w
 obtain ⟨bx1,bx2,bx3,bz⟩:=zbD w 33 29 #[.bool baa,.slice Baa maa daa,.slice Eaa uaa vaa] #[.slice none 0 0]
 have hB:=zac hB bx1
 obtain ⟨g1,e1,i1⟩:=bx2.c3
 have k2:=bx3
 clear bx1 bx2 bx3 bz
 go_wp2_with fail
 generalize (w.alloc (.cells #[.bool baa,.slice Baa maa daa,.slice Eaa uaa vaa] 33)).alloc (.cells #[.slice none 0 0] 29) = W1 at *
 (with_reducible refine (zaW (decide_eq_true HD1.out) (zbt (r) baa Baa maa daa Eaa uaa vaa _ (HT.out _ hB) (HNaa.out _ hB) (szq HZaa (HNaa.out _ hB)))).mono ?_)
 rintro e wc2 ⟨rfl,hb⟩
 have hB:=zac hB hb
 have g1:=zad hb g1
 have e1:=zad hb e1
 have i1:=zad hb i1
 have k2:=zae hb k2
 clear hb 
 have lt1_2 : w.heap.size < wc2.heap.size:=World.block_lt_of_cell? wc2 ⟨w.heap.size,0,none⟩ g1
 have lt2_2 : w.heap.size + 1 < wc2.heap.size:=k2.lt
 have hq2:=hB.size
 obtain ⟨bx1,bx2,bz⟩:=zaz wc2 81 #[.int .u64 1]
 have hB:=zac hB bx1
 have g1:=zad bx1 g1
 have e1:=zad bx1 e1
 have i1:=zad bx1 i1
 have k2:=zae bx1 k2
 have k3:=bx2
 clear bx1 bx2 bz
 go_wp2_with fail
 generalize wc2.alloc (.cells #[.int .u64 1] 81) = W3 at *
 generalize wc2.heap.size = q3 at *
 have HZ4 : Hid (Sz (1) (1)):=(by show (1 : Nat) < 18446744073709551616 ^ 1; decide)
 (with_reducible refine (zby _ [1] _ _ 1 (1) k3 rfl rfl (zeG 1 (by decide)) rfl (by decide)).mono ?_)
 rintro e wc4 ⟨B4,m4,d4,rfl,hw4,hb,_⟩
 have hB:=zac hB hb
 have g1:=zad hb g1
 have e1:=zad hb e1
 have i1:=zad hb i1
 have k2:=zae hb k2
 have k3:=zae hb k3
 have HN4:=lh9 hw4
 clear hb hw4
 obtain ⟨sc0,sf0⟩:=st1 k2
 have r0:=(sn1 k2 (.slice B4 m4 d4)).c1
 have HG:=lh9 (gn1 (zaf.to8 HD1.out.symm HN4.out) k2 hB (by omega))
 go_wp2
 refine bodyPost_ret (v:=.agg #[.slice B4 m4 d4]) (by simp [results,Tryz.results74,go_sem,r0]) rfl ?_
 exact HG.out
theorem zlx (r : Rat) (baa : Bool) (Baa : oA9) (maa daa : Nat) (Eaa : oA9) (uaa vaa : Nat) (w : World) (hT : zam w) (haa : zaF w r baa Baa maa daa Eaa uaa vaa) (qaa : zbL maa uaa) (hd : r.den ≠ 1) :
  Calls Tryz.prog 74 #[.agg #[.bool baa,.slice Baa maa daa,.slice Eaa uaa vaa]] w (zeA w r.den):=by
 have HIC:=lh9 (zbh (T:=zam))
 have HGC:=lh9 zdW
 have HT:=lh9 (fun w' (hb : Below w.heap.size w w') => hT.on hb)
 have HTB:=HT
 obtain ⟨K,hKe⟩ : ∃ K,67108864 = K:=⟨_,rfl⟩
 have hKK : K ≤ 67108864:=by omega
 have hK0 : 0 < K:=by omega
 have HNaa:=lh9 (fun w' (b : Below w.heap.size w w') => haa.below b)
 obtain ⟨xaa,hxaa,hxwaa⟩:=haa.2
 have HXaa:=lh9 hxaa
 have HZaa : Hid (SzQ K r):=zbu haa qaa hKe
 have HZaap : Hid (Sz K r.num.natAbs):=HZaa.out.num
 have HZaaq : Hid (Sz K xaa):=zaV HZaa.out.den hxaa
 have HNaap:=lh9 (fun w' (b : Below w.heap.size w w') => haa.1.below b)
 have HNaaq:=lh9 (fun w' (b : Below w.heap.size w w') => hxwaa.below b)
 clear haa qaa hxaa hxwaa
 have HD1:=lh9 hd
 have HD2:=lh9 (zed HXaa.out hd).2
 clear hT hKe hd
 go_enter Tryz.func74,Tryz.ntmps74
 have hB:=Below.refl w.heap.size w
 obtain ⟨bx1,bx2,bx3,bz⟩:=zbD w 33 29 #[.bool baa,.slice Baa maa daa,.slice Eaa uaa vaa] #[.slice none 0 0]
 have hB:=zac hB bx1
 obtain ⟨g1,e1,i1⟩:=bx2.c3
 have k2:=bx3
 clear bx1 bx2 bx3 bz
 go_wp2_with fail
 generalize (w.alloc (.cells #[.bool baa,.slice Baa maa daa,.slice Eaa uaa vaa] 33)).alloc (.cells #[.slice none 0 0] 29) = W1 at *
 (with_reducible refine (zaW (decide_eq_false HD1.out) (zbt (r) baa Baa maa daa Eaa uaa vaa _ (HT.out _ hB) (HNaa.out _ hB) (szq HZaa (HNaa.out _ hB)))).mono ?_)
 rintro e wc2 ⟨rfl,hb⟩
 have hB:=zac hB hb
 have g1:=zad hb g1
 have e1:=zad hb e1
 have i1:=zad hb i1
 have k2:=zae hb k2
 clear hb 
 obtain ⟨sc0,sf0⟩:=st1 k2
 have r0:=(sn1 k2 (.slice Eaa uaa vaa)).c1
 have HG:=lh9 (gn1 (zaf.to8 HD2.out (HNaaq.out _ hB)) k2 hB (by omega))
 go_wp2
 refine bodyPost_ret (v:=.agg #[.slice Eaa uaa vaa]) (by simp [results,Tryz.results74,go_sem,r0]) rfl ?_
 exact HG.out
theorem zjh (r : Rat) (baa : Bool) (Baa : oA9) (maa daa : Nat) (Eaa : oA9) (uaa vaa : Nat) (w : World) (hT : zam w) (haa : zaF w r baa Baa maa daa Eaa uaa vaa) (qaa : zbL maa uaa) :
  Calls Tryz.prog 74 #[.agg #[.bool baa,.slice Baa maa daa,.slice Eaa uaa vaa]] w (zeA w r.den):=by
 by_cases hd : r.den = 1
 ·exact zly r baa Baa maa daa Eaa uaa vaa w hT haa qaa hd
 ·exact zlx r baa Baa maa daa Eaa uaa vaa w hT haa qaa hd
theorem of_row2 (x : Nat) (A : oA9) (n c : Nat) (w : World) (h : zaf w x A n c) (hn : n ≤ 1099511627776) : Calls Tryz.prog 34 #[.slice A n c] w (zaR w x):=by
 have k:=zcP A n c _ w h.1 (zbE (by decide) x) h.2.1 h.2.2 hn
 rwa [zbZ (by decide)] at k
theorem gn2 {w W W3 : World} {x g : Nat} {t : TypeId} {A : oA9} {n c : Nat} {q : oA9} {r s : Nat} (h : zaf W x A n c) (hf : zdX W3 A) (h3 : w.heap.size ≤ W3.heap.size) (k : Blk W g t #[.slice q r s]) (hB : Below w.heap.size w W) (hg : w.heap.size ≤ g) : zaR w x (.returned (.agg #[.slice A n c])) (W.setCell ⟨g,0,none⟩ (.slice A n c)) :=
 ⟨_,_,_,rfl,zak h k (NoU.s1 _ _ _) (zaP _ _ _),bl1 _ hg hB,fun ad e => Nat.le_trans h3 (hf ad e)⟩
theorem zhJ (r : Rat) (baa : Bool) (Baa : oA9) (maa daa : Nat) (Eaa : oA9) (uaa vaa : Nat) (w : World) (hT : zam w) (haa : zaF w r baa Baa maa daa Eaa uaa vaa) (qaa : zbL maa uaa) :
  Calls Tryz.prog 30 #[.agg #[.bool baa,.slice Baa maa daa,.slice Eaa uaa vaa]] w (zaR w r.den):=by
 have HIC:=lh9 (zbh (T:=zam))
 have HGC:=lh9 zdW
 have HT:=lh9 (fun w' (hb : Below w.heap.size w w') => hT.on hb)
 have HTB:=HT
 obtain ⟨K,hKe⟩ : ∃ K,67108864 = K:=⟨_,rfl⟩
 have hKK : K ≤ 67108864:=by omega
 have hK0 : 0 < K:=by omega
 have HNaa:=lh9 (fun w' (b : Below w.heap.size w w') => haa.below b)
 obtain ⟨xaa,hxaa,hxwaa⟩:=haa.2
 have HXaa:=lh9 hxaa
 have HZaa : Hid (SzQ K r):=zbu haa qaa hKe
 have HZaap : Hid (Sz K r.num.natAbs):=HZaa.out.num
 have HZaaq : Hid (Sz K xaa):=zaV HZaa.out.den hxaa
 have HNaap:=lh9 (fun w' (b : Below w.heap.size w w') => haa.1.below b)
 have HNaaq:=lh9 (fun w' (b : Below w.heap.size w w') => hxwaa.below b)
 clear haa qaa hxaa hxwaa
 clear hT hKe
 go_enter Tryz.func30,Tryz.ntmps30
 have hB:=Below.refl w.heap.size w
 obtain ⟨bx1,bx2,bx3,bz⟩:=zbD w 33 29 #[.bool baa,.slice Baa maa daa,.slice Eaa uaa vaa] #[.slice none 0 0]
 have hB:=zac hB bx1
 obtain ⟨g1,e1,i1⟩:=bx2.c3
 have k2:=bx3
 clear bx1 bx2 bx3 bz
 go_wp2_with fail
 generalize (w.alloc (.cells #[.bool baa,.slice Baa maa daa,.slice Eaa uaa vaa] 33)).alloc (.cells #[.slice none 0 0] 29) = W1 at *
 have HZ3 : Hid (Sz (K) (r.den)):=SzQ.den HZaa.out
 (with_reducible refine (zjh (r) baa Baa maa daa Eaa uaa vaa _ (HT.out _ hB) (HNaa.out _ hB) (szq HZaa (HNaa.out _ hB))).mono ?_)
 rintro e wc2 ⟨B3,m3,d3,rfl,hw3,hb⟩
 have hB:=zac hB hb
 have g1:=zad hb g1
 have e1:=zad hb e1
 have i1:=zad hb i1
 have k2:=zae hb k2
 have HN3:=lh9 hw3
 clear hb hw3
 go_wp2_with fail
 have HZ4 : Hid (Sz (K) (r.den)):=HZ3.out
 (with_reducible refine (zqi (r.den) B3 m3 d3 _ HN3.out (szw HZ3 HN3.out)).mono ?_)
 rintro e wc3 ⟨B4,m4,d4,rfl,hw4,hb⟩
 have hB:=zac hB hb
 have g1:=zad hb g1
 have e1:=zad hb e1
 have i1:=zad hb i1
 have k2:=zae hb k2
 have HN3:=lh9 (HN3.out.below hb)
 have HN4:=lh9 hw4
 clear hb hw4
 go_wp2_with fail
 have HZ5 : Hid (Sz (K) (r.den)):=HZ4.out
 (with_reducible refine (of_row2 (r.den) B4 m4 d4 _ HN4.out (szw HZ4 HN4.out)).mono ?_)
 rintro e wc4 ⟨B5,m5,d5,rfl,hw5,hb,hf5⟩
 have hq3:=hB.size
 have hB:=zac hB hb
 have g1:=zad hb g1
 have e1:=zad hb e1
 have i1:=zad hb i1
 have k2:=zae hb k2
 have HN3:=lh9 (HN3.out.below hb)
 have HN4:=lh9 (HN4.out.below hb)
 have HN5:=lh9 hw5
 clear hb hw5
 obtain ⟨sc0,sf0⟩:=st1 k2
 have r0:=(sn1 k2 (.slice B5 m5 d5)).c1
 have HG:=lh9 (gn2 (HN5.out) hf5 hq3 k2 hB (by omega))
 go_wp2
 refine bodyPost_ret (v:=.agg #[.slice B5 m5 d5]) (by simp [results,Tryz.results30,go_sem,r0]) rfl ?_
 exact HG.out
theorem zhX (r : Rat) (baa : Bool) (Baa : oA9) (maa daa : Nat) (Eaa : oA9) (uaa vaa : Nat) (w : World) (hT : zam w) (haa : zaF w r baa Baa maa daa Eaa uaa vaa) (qaa : zbL maa uaa) :
  Calls Tryz.prog 30 #[.agg #[.bool baa,.slice Baa maa daa,.slice Eaa uaa vaa]] w (zeA w r.den) :=
 (zhJ r baa Baa maa daa Eaa uaa vaa w hT haa qaa).mono fun _ _ ⟨A,n,c,e,h,hb,_⟩ => ⟨A,n,c,e,h,hb⟩
theorem zhZ (r : Rat) (baa : Bool) (Baa : oA9) (maa daa : Nat) (Eaa : oA9) (uaa vaa : Nat) (w : World) (hT : zam w) (haa : zaF w r baa Baa maa daa Eaa uaa vaa) (qaa : zbL maa uaa) :
  Calls Tryz.prog 27 #[.agg #[.bool baa,.slice Baa maa daa,.slice Eaa uaa vaa]] w (zcC w r.num):=by
 have HIC:=lh9 (zbh (T:=zam))
 have HGC:=lh9 zdW
 have HT:=lh9 (fun w' (hb : Below w.heap.size w w') => hT.on hb)
 have HTB:=HT
 obtain ⟨K,hKe⟩ : ∃ K,67108864 = K:=⟨_,rfl⟩
 have hKK : K ≤ 67108864:=by omega
 have hK0 : 0 < K:=by omega
 have HNaa:=lh9 (fun w' (b : Below w.heap.size w w') => haa.below b)
 obtain ⟨xaa,hxaa,hxwaa⟩:=haa.2
 have HXaa:=lh9 hxaa
 have HZaa : Hid (SzQ K r):=zbu haa qaa hKe
 have HZaap : Hid (Sz K r.num.natAbs):=HZaa.out.num
 have HZaaq : Hid (Sz K xaa):=zaV HZaa.out.den hxaa
 have HNaap:=lh9 (fun w' (b : Below w.heap.size w w') => haa.1.below b)
 have HNaaq:=lh9 (fun w' (b : Below w.heap.size w w') => hxwaa.below b)
 clear haa qaa hxaa hxwaa
 clear hT hKe
 go_enter Tryz.func27,Tryz.ntmps27
 have hB:=Below.refl w.heap.size w
 obtain ⟨bx1,bx2,bx3,bz⟩:=zbD w 33 31 #[.bool baa,.slice Baa maa daa,.slice Eaa uaa vaa] #[.bool false,.slice none 0 0]
 have hB:=zac hB bx1
 obtain ⟨g1,e1,i1⟩:=bx2.c3
 have k2:=bx3
 clear bx1 bx2 bx3 bz
 go_wp2_with fail
 generalize (w.alloc (.cells #[.bool baa,.slice Baa maa daa,.slice Eaa uaa vaa] 33)).alloc (.cells #[.bool false,.slice none 0 0] 31) = W1 at *
 have HZ3 : Hid (Sz (K) (r.num).natAbs):=HZaap.out
 (with_reducible refine (zji (r.num) baa Baa maa daa _ (HT.out _ hB) (HNaap.out _ hB) (szi HZaap (HNaap.out _ hB))).mono ?_)
 rintro e wc2 ⟨b3,B3,m3,d3,rfl,hw3,hb⟩
 have hB:=zac hB hb
 have g1:=zad hb g1
 have e1:=zad hb e1
 have i1:=zad hb i1
 have k2:=zae hb k2
 have HN3:=lh9 hw3
 clear hb hw3
 obtain ⟨sc0,sf0,sc1,sf1⟩:=st2 k2 (.bool b3)
 obtain ⟨r0,r1⟩:=(sn2 k2 (.bool b3) (.slice B3 m3 d3)).c2
 have HG:=lh9 (gi2 (HN3.out) k2 hB (by omega))
 go_wp2
 refine bodyPost_ret (v:=.agg #[.bool b3,.slice B3 m3 d3]) (by simp [results,Tryz.results27,go_sem,r0,r1]) rfl ?_
 exact HG.out
theorem zoo (r : Rat) (baa : Bool) (Baa : oA9) (maa daa : Nat) (Eaa : oA9) (uaa vaa : Nat) (w : World) (hT : zam w) (haa : zaF w r baa Baa maa daa Eaa uaa vaa) (qaa : zbL maa uaa) (v : Int) (hv : zeg r.num = v) :
  Calls Tryz.prog 70 #[.agg #[.bool baa,.slice Baa maa daa,.slice Eaa uaa vaa]] w (zdo w v):=by
 have HIC:=lh9 (zbh (T:=zam))
 have HGC:=lh9 zdW
 have HT:=lh9 (fun w' (hb : Below w.heap.size w w') => hT.on hb)
 have HTB:=HT
 obtain ⟨K,hKe⟩ : ∃ K,67108864 = K:=⟨_,rfl⟩
 have hKK : K ≤ 67108864:=by omega
 have hK0 : 0 < K:=by omega
 have HV:=lh9 hv
 have HNaa:=lh9 (fun w' (b : Below w.heap.size w w') => haa.below b)
 obtain ⟨xaa,hxaa,hxwaa⟩:=haa.2
 have HXaa:=lh9 hxaa
 have HZaa : Hid (SzQ K r):=zbu haa qaa hKe
 have HZaap : Hid (Sz K r.num.natAbs):=HZaa.out.num
 have HZaaq : Hid (Sz K xaa):=zaV HZaa.out.den hxaa
 have HNaap:=lh9 (fun w' (b : Below w.heap.size w w') => haa.1.below b)
 have HNaaq:=lh9 (fun w' (b : Below w.heap.size w w') => hxwaa.below b)
 clear haa qaa hxaa hxwaa
 clear hT hKe hv
 go_enter Tryz.func70,Tryz.ntmps70
 have hB:=Below.refl w.heap.size w
 obtain ⟨bx1,bx2,bz⟩:=zaz w 33 #[.bool baa,.slice Baa maa daa,.slice Eaa uaa vaa]
 have hB:=zac hB bx1
 obtain ⟨g1,e1,i1⟩:=bx2.c3
 clear bx1 bx2 bz
 go_wp2_with fail
 generalize w.alloc (.cells #[.bool baa,.slice Baa maa daa,.slice Eaa uaa vaa] 33) = W1 at *
 (with_reducible refine (zbr (v:=v) (HV.out) (HIC.out.sign (r.num) baa Baa maa daa _ (HT.out _ hB) (HNaap.out _ hB) (szi HZaap (HNaap.out _ hB)))).mono ?_)
 rintro e wc2 ⟨rfl,hb⟩
 have hB:=zac hB hb
 have g1:=zad hb g1
 have e1:=zad hb e1
 have i1:=zad hb i1
 clear hb 
 go_wp2
 go_ret
 exact ⟨by first | rfl | simp,hB⟩
theorem zdR (r : Rat) (baa : Bool) (Baa : oA9) (maa daa : Nat) (Eaa : oA9) (uaa vaa : Nat) (w : World) (hT : zam w) (haa : zaF w r baa Baa maa daa Eaa uaa vaa) (qaa : zbL maa uaa) :
  Calls Tryz.prog 70 #[.agg #[.bool baa,.slice Baa maa daa,.slice Eaa uaa vaa]] w (zdo w (zhS r)):=by
 exact zoo r baa Baa maa daa Eaa uaa vaa w hT haa qaa (zhS r) rfl
theorem zoq (r : Rat) (baa : Bool) (Baa : oA9) (maa daa : Nat) (Eaa : oA9) (uaa vaa : Nat) (w : World) (hT : zam w) (haa : zaF w r baa Baa maa daa Eaa uaa vaa) (qaa : zbL maa uaa) (h0 : r = 0) :
  Calls Tryz.prog 26 #[.agg #[.bool baa,.slice Baa maa daa,.slice Eaa uaa vaa]] w (fun e w' => e = .returned (.bool true) ∧ Below w.heap.size w w'):=by
 have HIC:=lh9 (zbh (T:=zam))
 have HGC:=lh9 zdW
 have HT:=lh9 (fun w' (hb : Below w.heap.size w w') => hT.on hb)
 have HTB:=HT
 obtain ⟨K,hKe⟩ : ∃ K,67108864 = K:=⟨_,rfl⟩
 have hKK : K ≤ 67108864:=by omega
 have hK0 : 0 < K:=by omega
 have HNaa:=lh9 (fun w' (b : Below w.heap.size w w') => haa.below b)
 obtain ⟨xaa,hxaa,hxwaa⟩:=haa.2
 have HXaa:=lh9 hxaa
 have HZaa : Hid (SzQ K r):=zbu haa qaa hKe
 have HZaap : Hid (Sz K r.num.natAbs):=HZaa.out.num
 have HZaaq : Hid (Sz K xaa):=zaV HZaa.out.den hxaa
 have HNaap:=lh9 (fun w' (b : Below w.heap.size w w') => haa.1.below b)
 have HNaaq:=lh9 (fun w' (b : Below w.heap.size w w') => hxwaa.below b)
 clear haa qaa hxaa hxwaa
 have HV : Hid (zhS r = 0):=by show _ = _; rw [h0]; rfl
 clear hT hKe h0
 go_enter Tryz.func26,Tryz.ntmps26
 have hB:=Below.refl w.heap.size w
 obtain ⟨bx1,bx2,bz⟩:=zaz w 33 #[.bool baa,.slice Baa maa daa,.slice Eaa uaa vaa]
 have hB:=zac hB bx1
 obtain ⟨g1,e1,i1⟩:=bx2.c3
 clear bx1 bx2 bz
 go_wp2_with fail
 generalize w.alloc (.cells #[.bool baa,.slice Baa maa daa,.slice Eaa uaa vaa] 33) = W1 at *
 (with_reducible refine (zbr (v:=0) (HV.out) (zdR (r) baa Baa maa daa Eaa uaa vaa _ (HT.out _ hB) (HNaa.out _ hB) (szq HZaa (HNaa.out _ hB)))).mono ?_)
 rintro e wc2 ⟨rfl,hb⟩
 have hB:=zac hB hb
 have g1:=zad hb g1
 have e1:=zad hb e1
 have i1:=zad hb i1
 clear hb 
 go_wp2
 go_ret
 exact ⟨by first | rfl | simp,hB⟩
theorem zop (r : Rat) (baa : Bool) (Baa : oA9) (maa daa : Nat) (Eaa : oA9) (uaa vaa : Nat) (w : World) (hT : zam w) (haa : zaF w r baa Baa maa daa Eaa uaa vaa) (qaa : zbL maa uaa) (h0 : r ≠ 0) :
  Calls Tryz.prog 26 #[.agg #[.bool baa,.slice Baa maa daa,.slice Eaa uaa vaa]] w (fun e w' => e = .returned (.bool false) ∧ Below w.heap.size w w'):=by
 have HIC:=lh9 (zbh (T:=zam))
 have HGC:=lh9 zdW
 have HT:=lh9 (fun w' (hb : Below w.heap.size w w') => hT.on hb)
 have HTB:=HT
 obtain ⟨K,hKe⟩ : ∃ K,67108864 = K:=⟨_,rfl⟩
 have hKK : K ≤ 67108864:=by omega
 have hK0 : 0 < K:=by omega
 have HNaa:=lh9 (fun w' (b : Below w.heap.size w w') => haa.below b)
 obtain ⟨xaa,hxaa,hxwaa⟩:=haa.2
 have HXaa:=lh9 hxaa
 have HZaa : Hid (SzQ K r):=zbu haa qaa hKe
 have HZaap : Hid (Sz K r.num.natAbs):=HZaa.out.num
 have HZaaq : Hid (Sz K xaa):=zaV HZaa.out.den hxaa
 have HNaap:=lh9 (fun w' (b : Below w.heap.size w w') => haa.1.below b)
 have HNaaq:=lh9 (fun w' (b : Below w.heap.size w w') => hxwaa.below b)
 clear haa qaa hxaa hxwaa
 obtain ⟨sg,hsg⟩ : ∃ s,zhS r = s:=⟨_,rfl⟩
 have HV:=lh9 hsg
 have kb1 : (sg == 0) = false:=by
  rw [beq_eq_false_iff_ne]
  intro h9
  rw [h9] at hsg
  refine h0 (Rat.num_eq_zero.1 ?_)
  unfold zhS zeg at hsg
  split at hsg
  ·omega
  ·split at hsg <;> omega
 clear hT hKe h0 hsg
 go_enter Tryz.func26,Tryz.ntmps26
 have hB:=Below.refl w.heap.size w
 obtain ⟨bx1,bx2,bz⟩:=zaz w 33 #[.bool baa,.slice Baa maa daa,.slice Eaa uaa vaa]
 have hB:=zac hB bx1
 obtain ⟨g1,e1,i1⟩:=bx2.c3
 clear bx1 bx2 bz
 go_wp2_with fail
 generalize w.alloc (.cells #[.bool baa,.slice Baa maa daa,.slice Eaa uaa vaa] 33) = W1 at *
 (with_reducible refine (zbr (v:=sg) (HV.out) (zdR (r) baa Baa maa daa Eaa uaa vaa _ (HT.out _ hB) (HNaa.out _ hB) (szq HZaa (HNaa.out _ hB)))).mono ?_)
 rintro e wc2 ⟨rfl,hb⟩
 have hB:=zac hB hb
 have g1:=zad hb g1
 have e1:=zad hb e1
 have i1:=zad hb i1
 clear hb 
 go_wp2
 go_ret
 exact ⟨by first | rfl | simp,hB⟩
theorem zeu (r : Rat) (baa : Bool) (Baa : oA9) (maa daa : Nat) (Eaa : oA9) (uaa vaa : Nat) (w : World) (hT : zam w) (haa : zaF w r baa Baa maa daa Eaa uaa vaa) (qaa : zbL maa uaa) :
  Calls Tryz.prog 26 #[.agg #[.bool baa,.slice Baa maa daa,.slice Eaa uaa vaa]] w (fun e w' => e = .returned (.bool (decide (r = 0))) ∧ Below w.heap.size w w'):=by
 by_cases h0 : r = 0
 ·rw [decide_eq_true h0]; exact zoq r baa Baa maa daa Eaa uaa vaa w hT haa qaa h0
 ·rw [decide_eq_false h0]; exact zop r baa Baa maa daa Eaa uaa vaa w hT haa qaa h0
end Go.Proofs.YtfieheffipfahaaGreatDoor
