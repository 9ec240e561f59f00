/- What this claim leans on. -/
import Derived.Test.YtfieheffipfahaaGreatDoorRJ9First
namespace Go.Proofs.YtfieheffipfahaaGreatDoor
open Go Go.RowKit
set_option maxHeartbeats 16000000
set_option maxRecDepth 100000
set_option linter.unusedVariables false
set_option linter.unusedSimpArgs false
theorem zjs {w : World} {l : List Nat} {k : Nat} {B : oA9} {m d : Nat} (hd : Dgs 256 l) (h : zai w (zaj l k) B m d) : m ≤ 256:=by
 rw [h.len]
 have h1:=znq (l:=zce l k) (fun d hd' => hd d (List.mem_of_mem_drop (List.mem_of_mem_take hd')))
 have h2:=hd.getD (by decide) k
 have h3 : (zce l k).length ≤ l.getD k 0:=by unfold zce; rw [List.length_take]; omega
 exact Nat.le_trans h1 (by omega)
theorem znf (l : List Nat) (A : oA9) (n c : Nat) (w : World) (h : zaB w l A n c) (hn : n ≤ 2147483648) :
  Calls Tryz.prog 19 #[.slice A n c] w (zjK w (zdf l)):=by
 have HBY:=lh9 (fun w' (hb : Below w.heap.size w w') => h.below hb)
 have hln:=h.len
 have HDG:=lh9 h.2.1
 obtain ⟨bx1,k2,k4,bz⟩:=zbD w 40 49 #[.bool false,.slice none 0 0,.slice none 0 0] #[.int .i64 0,.string { data:=#[] },.int .i64 0]
 have hB:=bx1
 obtain ⟨dt,hdt⟩ : ∃ x,zdf l = x:=⟨_,rfl⟩
 rw [hdt]
 go_enter Tryz.func19,Tryz.ntmps19
 go_upto_region 1 with fail
 generalize (w.alloc (.cells #[.bool false,.slice none 0 0,.slice none 0 0] 40)).alloc (.cells #[.int .i64 0,.string { data:=#[] },.int .i64 0] 49) = W2 at *
 obtain ⟨by1,kr,k5,bz2⟩:=zbD W2 3 40 #[.int .i64 1] #[.bool false,.slice none 0 0,.slice (some ⟨W2.heap.size,0,none⟩) 1 1]
 have hB:=zac hB by1
 have k2:=zae by1 k2
 have k4:=zae by1 k4
 clear bx1 by1
 go_upto_region 2 with fail
 generalize (W2.alloc (.cells #[.int .i64 1] 3)).alloc (.cells #[.bool false,.slice none 0 0,.slice (some ⟨W2.heap.size,0,none⟩) 1 1] 40) = W at *
 obtain ⟨g,hg⟩ : ∃ g,W2.heap.size = g:=⟨_,rfl⟩
 rw [hg] at kr k5 bz bz2 ⊢
 have hz : zde W 0 false none 0 0 (some ⟨g,0,none⟩) 1 1:=⟨⟨rfl,zbN W⟩,zcO kr⟩
 clear hg kr bz2
 by_cases h0 : l = []
 ·have hn0 : n = 0:=by rw [← hln,h0]; rfl
  subst hn0
  obtain rfl : dt = (.bare 90,0,0):=hdt.symm.trans (by rw [h0]; rfl)
  obtain ⟨g5,e5,i5⟩:=k5.c3
  obtain ⟨⟨sc0,sf0,sc1,sf1,sc2,sf2⟩,⟨sd0,sg0,sd1,sg1,sd2,sg2⟩,kA,kB⟩:=zhl k2 k4 (by omega) (.bool false) (.slice none 0 0) (.slice (some ⟨g,0,none⟩) 1 1) (.int .i64 90) (.string { data:=#[] }) (.int .i64 0)
  obtain ⟨r0,r1,r2⟩:=kA.c3
  obtain ⟨r3,r4,r5⟩:=kB.c3
  have HK:=lh9 (zeq hz k2 k4 (by omega) hB (Nat.le_refl _) (Nat.le_succ _) (.int .i64 90) (.string { data:=#[] }) (.int .i64 0))
  clear kA kB k2 k4 k5 hz hB h HBY HDG hdt
  go_wp2
  refine bodyPost_ret (v:=.tuple #[.agg #[.bool false,.slice none 0 0,.slice (some ⟨g,0,none⟩) 1 1],.int .i64 0,.agg #[.int .i64 90,.string { data:=#[] },.int .i64 0]]) (by simp [results,Tryz.results19,go_sem,r0,r1,r2,r3,r4,r5]) rfl ?_
  exact ⟨_,_,_,_,_,_,_,rfl,HK.out.1,HK.out.2⟩
 have hp : 0 < n:=by rw [← hln]; exact List.length_pos_iff.2 h0
 obtain ⟨gb,ob,ib,eA,hgb,hx256,gby0⟩:=h.first hp
 subst eA
 have hx256:=hx256
 have i0 : ((n : Int) == 0) = false:=by rw [beq_eq_false_iff_ne]; omega
 have ip : (0 : Int) < (n : Int):=by omega
 have HGB:=lh9 gby0
 have gby:=zad hB gby0
 by_cases h4 : 4 < l.getD 0 0
 ·obtain rfl : dt = (.bare 91,0,0):=hdt.symm.trans (by unfold zdf; rw [if_neg h0,if_pos h4])
  obtain ⟨x,hx⟩ : ∃ x,l.getD 0 0 = x:=⟨_,rfl⟩
  rw [hx] at gby h4
  have j4 : (4 : Int) < (x : Int):=by omega
  clear gby0 hx hx256
  obtain ⟨g5,e5,i5⟩:=k5.c3
  obtain ⟨⟨sc0,sf0,sc1,sf1,sc2,sf2⟩,⟨sd0,sg0,sd1,sg1,sd2,sg2⟩,kA,kB⟩:=zhl k2 k4 (by omega) (.bool false) (.slice none 0 0) (.slice (some ⟨g,0,none⟩) 1 1) (.int .i64 91) (.string { data:=#[] }) (.int .i64 0)
  obtain ⟨r0,r1,r2⟩:=kA.c3
  obtain ⟨r3,r4,r5⟩:=kB.c3
  have HK:=lh9 (zeq hz k2 k4 (by omega) hB (Nat.le_refl _) (Nat.le_succ _) (.int .i64 91) (.string { data:=#[] }) (.int .i64 0))
  clear kA kB k2 k4 k5 hz hB h HBY HDG hdt HGB
  go_wp2
  refine bodyPost_ret (v:=.tuple #[.agg #[.bool false,.slice none 0 0,.slice (some ⟨g,0,none⟩) 1 1],.int .i64 0,.agg #[.int .i64 91,.string { data:=#[] },.int .i64 0]]) (by simp [results,Tryz.results19,go_sem,r0,r1,r2,r3,r4,r5]) rfl ?_
  exact ⟨_,_,_,_,_,_,_,rfl,HK.out.1,HK.out.2⟩
 have H1:=lh9 (fun hz h3 he => dec_1 h0 h4 hz h3 he)
 have H2:=lh9 (fun hz h1 he => dec_2 h0 h4 hz h1 he)
 have H3:=lh9 (fun hz h1 he hb => dec_3 h0 h4 hz h1 he hb)
 have H4:=lh9 (fun hz h1 he hb => dec_4 h0 h4 hz h1 he hb)
 by_cases hz0 : l.getD 0 0 = 0
 ·obtain rfl : dt = (.no,0,1):=hdt.symm.trans (by unfold zdf; rw [if_neg h0,if_neg h4,if_pos hz0])
  rw [hz0] at gby
  have gby : W.cell? ⟨gb,ob,ib⟩ = some (.int .u8 0):=gby
  clear gby0 hx256 H1 H2 H3 H4
  obtain ⟨g5,e5,i5⟩:=k5.c3
  obtain ⟨⟨sc0,sf0,sc1,sf1,sc2,sf2⟩,⟨sd0,sg0,sd1,sg1,sd2,sg2⟩,kA,kB⟩:=zhl k2 k4 (by omega) (.bool false) (.slice none 0 0) (.slice (some ⟨g,0,none⟩) 1 1) (.int .i64 0) (.string { data:=#[] }) (.int .i64 0)
  obtain ⟨r0,r1,r2⟩:=kA.c3
  obtain ⟨r3,r4,r5⟩:=kB.c3
  have HK:=lh9 (zeq hz k2 k4 (by omega) hB (Nat.le_refl _) (Nat.le_succ _) (.int .i64 0) (.string { data:=#[] }) (.int .i64 0))
  clear kA kB k2 k4 k5 hz hB h HBY HDG hdt HGB
  go_wp2
  refine bodyPost_ret (v:=.tuple #[.agg #[.bool false,.slice none 0 0,.slice (some ⟨g,0,none⟩) 1 1],.int .i64 1,.agg #[.int .i64 0,.string { data:=#[] },.int .i64 0]]) (by simp [results,Tryz.results19,go_sem,r0,r1,r2,r3,r4,r5]) rfl ?_
  exact ⟨_,_,_,_,_,_,_,rfl,HK.out.1,HK.out.2⟩
 have H1:=lh9 (H1.out hz0)
 have H2:=lh9 (H2.out hz0)
 have H3:=lh9 (H3.out hz0)
 have H4:=lh9 (H4.out hz0)
 have HAT : Hid ((3 ≤ l.getD 0 0 → atN l = 1 + (1 + l.getD 1 0) ∧ zhO l = zaj l 1) ∧ (¬ 3 ≤ l.getD 0 0 → atN l = 1 ∧ zhO l = 1) ∧ atN l ≤ 258):=by
  have:=h.2.1.getD (by decide) 1
  unfold Hid atN zhO zat
  refine ⟨fun h => ?_,fun h => ?_,?_⟩
  ·rw [if_pos h,if_pos h]; exact ⟨by omega,rfl⟩
  ·rw [if_neg h,if_neg h]; exact ⟨rfl,rfl⟩
  ·split <;> omega
 have HBD : Hid (badN l = (decide (3 ≤ l.getD 0 0) && (decide (zhO l = 1) || !decide (Nat.gcd (zaj l (atN l)) (zhO l) = 1)))):=rfl
 have HSG : Hid (sgnN l = (decide (l.getD 0 0 = 2) || decide (l.getD 0 0 = 4))):=rfl
 have HU : Hid (l.getD 1 0 < 256):=h.2.1.getD (by decide) 1
 have hu2:=h.2.1.getD (by decide) (atN l)
 obtain ⟨x,hx⟩ : ∃ x,l.getD 0 0 = x:=⟨_,rfl⟩
 obtain ⟨a,ha⟩ : ∃ x,atN l = x:=⟨_,rfl⟩
 obtain ⟨dd,hdd⟩ : ∃ x,zhO l = x:=⟨_,rfl⟩
 obtain ⟨bad,hbad⟩ : ∃ x,badN l = x:=⟨_,rfl⟩
 obtain ⟨sg,hsg⟩ : ∃ x,sgnN l = x:=⟨_,rfl⟩
 simp only [hx,ha,hdd,hbad,hsg,hdt] at gby h4 hz0 H1 H2 H3 H4 HAT HBD HSG hu2
 obtain ⟨y,hy⟩ : ∃ y,l.getD 1 0 = y:=⟨_,rfl⟩
 rw [hy] at HAT HU
 have j4 : ¬ (4 : Int) < (x : Int):=by omega
 have j0 : ((x : Int) == 0) = false:=by rw [beq_eq_false_iff_ne]; omega
 have j1 : (1 : Int) < 2:=by decide
 have hwx : W.heap.size = W.heap.size:=rfl
 clear h gby0 hx hx256 hdd ha hbad hsg hdt h0
 obtain ⟨bw1,kw,bzw⟩:=zaz W 3 #[.int .i64 1]
 have hB:=zac hB bw1
 have k2:=zae bw1 k2
 have k4:=zae bw1 k4
 have k5:=zae bw1 k5
 have hz:=hz.below bw1
 have hd1:=zcO kw
 have gby:=zad bw1 gby
 clear bw1 kw bzw hwx
 go_upto_region 10 with fail
 generalize W.alloc (.cells #[.int .i64 1] 3) = W4 at *
 obtain ⟨g1,hg1⟩ : ∃ g,W.heap.size = g:=⟨_,rfl⟩
 rw [hg1] at hd1 ⊢
 clear hg1
 go_upto_if 37 with fail
 have hW:=Below.refl W4.heap.size W4
 go_cut [6,7,8,9,10,38,39,40,41,42,43,44,45,46,47,48,49,50,51,52,53,54] (fun s6 s7 _ _ _ _ _ _ _ _ _ _ _ _ _ _ _ _ _ _ _ _ wx => ∃ (D : oA9) (m d : Nat),s6 = .int .i64 ((a : Nat) : Int) ∧ s7 = .slice D m d ∧ zai wx dd D m d ∧ m ≤ 256 ∧ dd ≠ 0 ∧ (3 ≤ x → zax l 1 = 0) ∧ Below W4.heap.size W4 wx)
 case first =>
  clear H2 H3 H4 HBD HSG
  by_cases h3 : 3 ≤ x
  ·have j3 : (3 : Int) ≤ (x : Int):=by omega
   obtain ⟨ha3,hd3⟩:=HAT.out.1 h3
   have hu:=HU.out
   by_cases he : zax l 1 = 0
   ·have HT:=lh9 (zfV l 1 1 (some ⟨gb,ob,ib⟩) n c W4 (HBY.out _ hB) hn he rfl)
    rw [hy,← hd3] at HT
    have hts:=fun w' B m d (h : zai w' dd B m d) => zjs HDG.out (hd3 ▸ h)
    have HTS:=lh9 hts
    have hdd0 : dd ≠ 0:=by rw [hd3]; exact (zhj he).1
    have j5 : IntKind.i64.wrap (1 + ((1 + y : Nat) : Int)) = 1 + ((1 + y : Nat) : Int):=IntWalk.i64_in _ (by omega)
    have j6 : (1 : Int) + ((1 + y : Nat) : Int) = (a : Int):=by omega
    have j7 : IntKind.i64.wrap (a : Int) = (a : Int):=IntWalk.i64_in _ (by omega)
    obtain ⟨u,hu9⟩ : ∃ u,1 + y = u:=⟨_,rfl⟩
    rw [hu9] at HT j5 j6
    clear hts hd3 ha3 hu9 HAT HU hd1 k2 k4 k5 hz H1 HBY HDG hu
    go_wp2_with fail
    refine HT.out.mono ?_
    rintro e w5 ⟨B5,m5,d5,rfl,hh9,hb5⟩
    have hh5:=hh9 rfl
    clear hh9
    have hm5:=HTS.out _ _ _ _ hh5
    clear HT HTS
    go_wp2
    go_meet
    exact ⟨_,_,_,by first | rfl | rw [j6],rfl,hh5,hm5,hdd0,fun _ => he,hb5⟩
   ·have HT:=lh9 (zgO l 1 1 (some ⟨gb,ob,ib⟩) n c W4 (HBY.out _ hB) hn (by decide) he rfl)
    obtain rfl : dt = (.spot (zax l 1) zef 1,0,0):=H1.out h3 he
    have j5 : (zax l 1 == 0) = false:=by rw [beq_eq_false_iff_ne]; exact he
    have j6 : (zax l 1 != 0) = true:=by rw [bne_iff_ne]; exact he
    clear hd3 ha3 HAT HU hd1 H1 hu
    go_wp2_with fail
    refine HT.out.mono ?_
    rintro e w5 ⟨B5,m5,d5,rfl,-,hb5⟩
    have hB:=zac hB hb5
    have k2:=zae hb5 k2
    have k4:=zae hb5 k4
    have k5:=zae hb5 k5
    have hz:=hz.below hb5
    clear HT hb5 hW
    obtain ⟨g5,e5,i5⟩:=k5.c3
    obtain ⟨⟨sc0,sf0,sc1,sf1,sc2,sf2⟩,⟨sd0,sg0,sd1,sg1,sd2,sg2⟩,kA,kB⟩:=zhl k2 k4 (by omega) (.bool false) (.slice none 0 0) (.slice (some ⟨g,0,none⟩) 1 1) (.int .i64 (zax l 1)) (.string { data:=#[100,105,118,105,115,111,114] }) (.int .i64 1)
    obtain ⟨r0,r1,r2⟩:=kA.c3
    obtain ⟨r3,r4,r5⟩:=kB.c3
    have HK:=lh9 (zeq hz k2 k4 (by omega) hB (Nat.le_refl _) (Nat.le_succ _) (.int .i64 (zax l 1)) (.string { data:=#[100,105,118,105,115,111,114] }) (.int .i64 1))
    clear kA kB k2 k4 k5 hz hB HBY HDG
    go_wp2
    refine bodyPost_ret (v:=.tuple #[.agg #[.bool false,.slice none 0 0,.slice (some ⟨g,0,none⟩) 1 1],.int .i64 0,.agg #[.int .i64 (zax l 1),.string { data:=#[100,105,118,105,115,111,114] },.int .i64 1]]) (by simp [results,Tryz.results19,go_sem,r0,r1,r2,r3,r4,r5]) rfl ?_
    exact ⟨_,_,_,_,_,_,_,rfl,HK.out.1,HK.out.2⟩
  ·obtain ⟨ha3,hd3⟩:=HAT.out.2.1 h3
   subst ha3
   subst hd3
   have j3 : ¬ (3 : Int) ≤ (x : Int):=by omega
   clear HAT HU k2 k4 k5 hz H1 HBY HDG
   go_wp2
   go_meet
   exact ⟨_,_,_,rfl,rfl,hd1,by omega,by decide,fun h => absurd h h3,hW⟩
 case rest =>
 obtain ⟨D,m,d,rfl,rfl,hd1,hm,hdd0,h13,hb⟩:=hcut
 obtain ⟨V,hV⟩ : ∃ x,x = wc:=⟨_,rfl⟩
 subst hV
 have hB:=zac hB hb
 have k2:=zae hb k2
 have k4:=zae hb k4
 have k5:=zae hb k5
 have hz:=hz.below hb
 have gby:=zad hb gby
 have ha258:=HAT.out.2.2
 have HAT1 : Hid (¬ 3 ≤ x → dd = 1):=fun h => (HAT.out.2.1 h).2
 clear hW hb HAT HU H1
 by_cases he : zax l a = 0
 case neg =>
  have HT:=lh9 (zgO l a (a : Int) (some ⟨gb,ob,ib⟩) n c V (HBY.out _ hB) hn (by omega) he rfl)
  obtain rfl : dt = (.spot (zax l a) zdF ((a : Nat) : Int),0,0):=H2.out h13 he
  have j5 : (zax l a == 0) = false:=by rw [beq_eq_false_iff_ne]; exact he
  have j6 : (zax l a != 0) = true:=by rw [bne_iff_ne]; exact he
  clear H2 H3 H4 hd1
  go_wp2_with fail
  refine HT.out.mono ?_
  rintro e w5 ⟨B5,m5,d5,rfl,-,hb5⟩
  have hB:=zac hB hb5
  have k2:=zae hb5 k2
  have k4:=zae hb5 k4
  have k5:=zae hb5 k5
  have hz:=hz.below hb5
  clear HT hb5
  obtain ⟨g5,e5,i5⟩:=k5.c3
  obtain ⟨⟨sc0,sf0,sc1,sf1,sc2,sf2⟩,⟨sd0,sg0,sd1,sg1,sd2,sg2⟩,kA,kB⟩:=zhl k2 k4 (by omega) (.bool false) (.slice none 0 0) (.slice (some ⟨g,0,none⟩) 1 1) (.int .i64 (zax l a)) (.string { data:=#[110,117,109,98,101,114] }) (.int .i64 (a : Int))
  obtain ⟨r0,r1,r2⟩:=kA.c3
  obtain ⟨r3,r4,r5⟩:=kB.c3
  have HK:=lh9 (zeq hz k2 k4 (by omega) hB (Nat.le_refl _) (Nat.le_succ _) (.int .i64 (zax l a)) (.string { data:=#[110,117,109,98,101,114] }) (.int .i64 (a : Int)))
  clear kA kB k2 k4 k5 hz hB HBY HDG
  go_wp2
  refine bodyPost_ret (v:=.tuple #[.agg #[.bool false,.slice none 0 0,.slice (some ⟨g,0,none⟩) 1 1],.int .i64 0,.agg #[.int .i64 (zax l a),.string { data:=#[110,117,109,98,101,114] },.int .i64 (a : Int)]]) (by simp [results,Tryz.results19,go_sem,r0,r1,r2,r3,r4,r5]) rfl ?_
  exact ⟨_,_,_,_,_,_,_,rfl,HK.out.1,HK.out.2⟩
 case pos =>
 have HT:=lh9 (zfV l a (a : Int) (some ⟨gb,ob,ib⟩) n c V (HBY.out _ hB) hn he rfl)
 obtain ⟨u2,hu9⟩ : ∃ u,1 + l.getD a 0 = u:=⟨_,rfl⟩
 rw [hu9] at HT
 have jen : (a : Int) + (u2 : Int) = ((zat l a : Nat) : Int):=by rw [← hu9]; unfold zat; omega
 clear hu9
 have hp0:=(zhj he).1
 have hen:=(zhj he).2
 have HTS:=lh9 (fun w' B m d (h : zai w' (zaj l a) B m d) => zjs HDG.out h)
 clear H2
 go_wp2_with fail
 refine HT.out.mono ?_
 rintro e w5 ⟨B5,m5,d5,rfl,hh9,hb⟩
 have hh5:=hh9 rfl
 clear hh9
 have hm5:=HTS.out _ _ _ _ hh5
 have hB:=zac hB hb
 have k2:=zae hb k2
 have k4:=zae hb k4
 have k5:=zae hb k5
 have hz:=hz.below hb
 have gby:=zad hb gby
 have hd1:=hd1.below hb
 have hW:=Below.refl w5.heap.size w5
 clear HT HTS hb
 go_upto_region 19 with fail
 go_cut [68,69,70,71,72,73,74,75,76,77,78,79,80,81,82] (fun _ _ _ _ _ _ _ _ _ _ _ _ _ _ s82 wx => s82 = .bool bad ∧ Below w5.heap.size w5 wx)
 case first =>
  have hbd:=HBD.out
  clear H3 H4 HSG HBD k2 k4 k5 hz
  by_cases h3 : 3 ≤ x
  ·have j3 : (3 : Int) ≤ (x : Int):=by omega
   rw [decide_eq_true h3,Bool.true_and] at hbd
   obtain ⟨o,ho⟩ : ∃ o,decide (dd = 1) = o:=⟨_,rfl⟩
   rw [ho] at hbd
   have HON:=lh9 (zfu D m d w5 hd1 (by omega) ho)
   have HGC:=lh9 (zgN (zaj l a) dd B5 D m5 m d5 d w5 hh5 hd1 (by omega) (by omega))
   have HGS : Hid (∀ w' B m d,zai w' (Nat.gcd (zaj l a) dd) B m d → m ≤ 1099511627776):=fun w' B m d h => by
    rw [h.len]
    have h1 : Nat.gcd (zaj l a) dd ≤ zaj l a:=Nat.le_of_dvd (Nat.pos_of_ne_zero hp0) (Nat.gcd_dvd_left _ _)
    have h2:=zbe (b:=65536) (by decide) h1
    have h3:=hh5.len
    omega
   clear hd1 hh5 h3 ho HBY HDG
   cases o with
   | true =>
     rw [Bool.true_or] at hbd
     subst hbd
     clear HGC
     go_wp2_with fail
     refine HON.out.mono ?_
     rintro e w6 ⟨rfl,hw6⟩
     subst hw6
     clear HON
     go_wp2
     go_meet
     exact ⟨rfl,hW⟩
   | false =>
     rw [Bool.false_or] at hbd
     go_wp2_with fail
     refine HON.out.mono ?_
     rintro e w6 ⟨rfl,hw6⟩
     subst hw6
     clear HON
     go_wp2_with fail
     refine HGC.out.mono ?_
     rintro e w7 ⟨B7,m7,d7,rfl,hh7,hb7⟩
     obtain ⟨p,hp9⟩ : ∃ p,decide (Nat.gcd (zaj l a) dd = 1) = p:=⟨_,rfl⟩
     rw [hp9] at hbd
     have HO2:=lh9 (zfu B7 m7 d7 w7 hh7 (HGS.out _ _ _ _ hh7) hp9)
     have hW:=zac hW hb7
     clear HGC hh7 hb7 HGS hp9
     go_wp2_with fail
     refine HO2.out.mono ?_
     rintro e w8 ⟨rfl,hw8⟩
     subst hw8
     subst hbd
     clear HO2
     go_wp2
     go_meet
     exact ⟨rfl,hW⟩
  ·have j3 : ¬ (3 : Int) ≤ (x : Int):=by omega
   rw [decide_eq_false h3,Bool.false_and] at hbd
   subst hbd
   clear hd1 hh5 h3 HBY HDG
   go_wp2
   go_meet
   exact ⟨rfl,hW⟩
 case rest =>
 obtain ⟨rfl,hb⟩:=hcut
 obtain ⟨V3,hV3⟩ : ∃ x,x = wc:=⟨_,rfl⟩
 subst hV3
 have hB:=zac hB hb
 have k2:=zae hb k2
 have k4:=zae hb k4
 have k5:=zae hb k5
 have hz:=hz.below hb
 have gby:=zad hb gby
 have hd1:=hd1.below hb
 have hh5:=hh5.below hb
 clear hW hb
 cases bad with
 | true =>
   obtain rfl : dt = (.bare 91,0,0):=H3.out h13 he rfl
   clear H3 H4 hd1 hh5 HSG HBD
   obtain ⟨g5,e5,i5⟩:=k5.c3
   obtain ⟨⟨sc0,sf0,sc1,sf1,sc2,sf2⟩,⟨sd0,sg0,sd1,sg1,sd2,sg2⟩,kA,kB⟩:=zhl k2 k4 (by omega) (.bool false) (.slice none 0 0) (.slice (some ⟨g,0,none⟩) 1 1) (.int .i64 91) (.string { data:=#[] }) (.int .i64 0)
   obtain ⟨r0,r1,r2⟩:=kA.c3
   obtain ⟨r3,r4,r5⟩:=kB.c3
   have HK:=lh9 (zeq hz k2 k4 (by omega) hB (Nat.le_refl _) (Nat.le_succ _) (.int .i64 91) (.string { data:=#[] }) (.int .i64 0))
   clear kA kB k2 k4 k5 hz hB HBY HDG
   go_wp2
   refine bodyPost_ret (v:=.tuple #[.agg #[.bool false,.slice none 0 0,.slice (some ⟨g,0,none⟩) 1 1],.int .i64 0,.agg #[.int .i64 91,.string { data:=#[] },.int .i64 0]]) (by simp [results,Tryz.results19,go_sem,r0,r1,r2,r3,r4,r5]) rfl ?_
   exact ⟨_,_,_,_,_,_,_,rfl,HK.out.1,HK.out.2⟩
 | false =>
   obtain rfl : dt = (.no,Rat.divInt (sg9 sg (zaj l a)) ((dd : Nat) : Int),zat l a):=H4.out h13 he rfl
   have hgc : Nat.gcd (zaj l a) dd = 1:=by
    have h2:=HBD.out
    by_cases h3 : 3 ≤ x
    ·rw [decide_eq_true h3,Bool.true_and] at h2
     have h4:=(Bool.or_eq_false_iff.1 h2.symm).2
     simpa using h4
    ·rw [HAT1.out h3,Nat.gcd_one_right]
   have hmf:=lh9 (made_fin (s:=sg) hdd0 hgc)
   have HN7:=lh9 (zdS sg (zaj l a) B5 m5 d5 V3 hh5 (by omega))
   have jew : IntKind.i64.wrap ((zat l a : Nat) : Int) = ((zat l a : Nat) : Int):=IntWalk.i64_in _ (by omega)
   have hsg:=HSG.out
   clear H3 H4 HBD HSG hgc hh5
   by_cases hx2 : x = 2
   ·have j7 : ((x : Int) == 2) = true:=by rw [beq_iff_eq]; omega
    rw [decide_eq_true hx2,Bool.true_or] at hsg
    subst hsg
    go_wp2_with fail
    refine HN7.out.mono ?_
    rintro e w9 ⟨b8,B8,m8,d8,rfl,hw8,hb⟩
    have hB:=zac hB hb
    have k2:=zae hb k2
    have k4:=zae hb k4
    have k5:=zae hb k5
    have hz:=hz.below hb
    have hd1:=hd1.below hb
    have hq8 : zde w9 (Rat.divInt (sg9 true (zaj l a)) ((dd : Nat) : Int)) b8 B8 m8 d8 D m d:=⟨zbC.to hmf.out.1.symm hw8,zai.to hmf.out.2.symm hd1⟩
    clear HN7 hb hw8 hd1 hmf
    obtain ⟨g5,e5,i5⟩:=k5.c3
    obtain ⟨⟨sc0,sf0,sc1,sf1,sc2,sf2⟩,⟨sd0,sg0,sd1,sg1,sd2,sg2⟩,kA,kB⟩:=zhl k2 k4 (by omega) (.bool b8) (.slice B8 m8 d8) (.slice D m d) (.int .i64 0) (.string { data:=#[] }) (.int .i64 0)
    obtain ⟨r0,r1,r2⟩:=kA.c3
    obtain ⟨r3,r4,r5⟩:=kB.c3
    have HK:=lh9 (zeq hq8 k2 k4 (by omega) hB (Nat.le_refl _) (Nat.le_succ _) (.int .i64 0) (.string { data:=#[] }) (.int .i64 0))
    clear kA kB k2 k4 k5 hz hB HBY HDG hq8
    go_wp2
    refine bodyPost_ret (v:=.tuple #[.agg #[.bool b8,.slice B8 m8 d8,.slice D m d],.int .i64 ((zat l a : Nat) : Int),.agg #[.int .i64 0,.string { data:=#[] },.int .i64 0]]) (by simp [results,Tryz.results19,go_sem,r0,r1,r2,r3,r4,r5]) rfl ?_
    exact ⟨_,_,_,_,_,_,_,rfl,HK.out.1,HK.out.2⟩
   ·have j7 : ((x : Int) == 2) = false:=by rw [beq_eq_false_iff_ne]; omega
    have j8 : ((x : Int) == 4) = sg:=by
     rw [hsg,decide_eq_false hx2,Bool.false_or]
     by_cases hx4 : x = 4
     ·rw [decide_eq_true hx4,beq_iff_eq]; omega
     ·rw [decide_eq_false hx4,beq_eq_false_iff_ne]; omega
    clear hsg
    go_wp2_with fail
    refine HN7.out.mono ?_
    rintro e w9 ⟨b8,B8,m8,d8,rfl,hw8,hb⟩
    have hB:=zac hB hb
    have k2:=zae hb k2
    have k4:=zae hb k4
    have k5:=zae hb k5
    have hz:=hz.below hb
    have hd1:=hd1.below hb
    have hq8 : zde w9 (Rat.divInt (sg9 sg (zaj l a)) ((dd : Nat) : Int)) b8 B8 m8 d8 D m d:=⟨zbC.to hmf.out.1.symm hw8,zai.to hmf.out.2.symm hd1⟩
    clear HN7 hb hw8 hd1 hmf
    obtain ⟨g5,e5,i5⟩:=k5.c3
    obtain ⟨⟨sc0,sf0,sc1,sf1,sc2,sf2⟩,⟨sd0,sg0,sd1,sg1,sd2,sg2⟩,kA,kB⟩:=zhl k2 k4 (by omega) (.bool b8) (.slice B8 m8 d8) (.slice D m d) (.int .i64 0) (.string { data:=#[] }) (.int .i64 0)
    obtain ⟨r0,r1,r2⟩:=kA.c3
    obtain ⟨r3,r4,r5⟩:=kB.c3
    have HK:=lh9 (zeq hq8 k2 k4 (by omega) hB (Nat.le_refl _) (Nat.le_succ _) (.int .i64 0) (.string { data:=#[] }) (.int .i64 0))
    clear kA kB k2 k4 k5 hz hB HBY HDG hq8
    go_wp2
    refine bodyPost_ret (v:=.tuple #[.agg #[.bool b8,.slice B8 m8 d8,.slice D m d],.int .i64 ((zat l a : Nat) : Int),.agg #[.int .i64 0,.string { data:=#[] },.int .i64 0]]) (by simp [results,Tryz.results19,go_sem,r0,r1,r2,r3,r4,r5]) rfl ?_
    exact ⟨_,_,_,_,_,_,_,rfl,HK.out.1,HK.out.2⟩
end Go.Proofs.YtfieheffipfahaaGreatDoor
