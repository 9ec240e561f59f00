/- What this claim leans on. -/
import Derived.Test.YtfieheffipfahaaGreatDoorRJ9Text
namespace Go.Proofs.YtfieheffipfahaaGreatDoor
open Go Go.RowKit
set_option maxHeartbeats 16000000
set_option maxRecDepth 100000
set_option linter.unusedVariables false
set_option linter.unusedSimpArgs false
theorem zpT (s : List UInt8) (w : World) (hs : s.length ≤ 65536) :
  Calls Tryz.prog 21 #[.string (zau s)] w (zlM w (zbT s)):=by
 have HCH:=lh9 (zjZ s)
 have HCE:=lh9 (zmo s)
 have hhl:=congrArg List.length (zaZ s)
 rw [List.length_append] at hhl
 have HIX:=lh9 (fun k (hk : k < s.length) w => zgT (P:=Tryz.prog) Tryz.underlying9 (zau s) k (by rw [zay]; exact hk) w)
 simp only [zaI] at HIX
 have s1 : ∀ w,(Instr.slice 9 (.string (zau s)) none (some (.int .i64 ((zap s).length : Int))) none).run Tryz.prog w = .ok (.string (zau (zap s))) w:=fun w => by
  have:=zjq (P:=Tryz.prog) Tryz.underlying9 s (zap s).length (by omega) w
  rw [zka] at this; exact this
 have HS3 : Hid (zba s ≠ [] → ∀ w,(Instr.slice 9 (.string (zau s)) (some (.int .i64 (((zap s).length : Int) + 1))) none none).run Tryz.prog w = .ok (.string (zau (zaw s))) w):=fun hr w => by
  have:=zew (P:=Tryz.prog) Tryz.underlying9 s ((zap s).length + 1) (zmp s hr) w
  rw [zkB] at this; exact this
 have HNH:=lh9 (neg_head (zap s))
 have HBN:=lh9 (zir (zap s))
 have HI0 : Hid (zap s ≠ [] → ∀ w,(Instr.index 9 (.string (zau (zap s))) (.int .i64 0)).run Tryz.prog w = .ok (.int .u8 (((zap s).getD 0 0).toNat : Nat)) w):=fun hne w => by
  have:=zgT (P:=Tryz.prog) Tryz.underlying9 (zau (zap s)) 0 (by rw [zay]; exact List.length_pos_iff.2 hne) w
  rw [zaI] at this; exact this
 have HQ1 : Hid (((zau (zap s)).toList == []) = decide (zap s = [])):=zcN (zau (zap s)) [] _ rfl
 have HS2 : Hid (zcQ (zap s) = true → ∀ w,(Instr.slice 9 (.string (zau (zap s))) (some (.int .i64 1)) none none).run Tryz.prog w = .ok (.string (zau (zbc (zap s)))) w):=fun hn w => by
  obtain ⟨hb,hl⟩:=(zir (zap s)).1 hn
  rw [hb]
  exact zew (P:=Tryz.prog) Tryz.underlying9 (zap s) 1 hl w
 have hbl : (zbc (zap s)).length ≤ (zap s).length:=by unfold zbc; split <;> simp
 have HR1:=lh9 (fun w => zkv (zau (zbc (zap s))) w (by rw [zay]; omega))
 have htl : (zaw s).length ≤ s.length:=by unfold zaw; rw [List.length_drop]; omega
 have HR2:=lh9 (fun w => zkv (zau (zaw s)) w (by rw [zay]; omega))
 simp only [zaI] at HR1 HR2
 have HOI : Hid (okI (zap s) = (okR (zbc (zap s)) && !(zcQ (zap s) && decide (zaG (zbc (zap s)) = 0)))):=rfl
 have HVS:=lh9 (val_sg (zap s))
 have HY1 : Hid (okR (zbc (zap s)) = true → Sz 4096 (zaG (zbc (zap s)))):=fun h => zdJ h (by omega)
 have HY2 : Hid (okR (zaw s) = true → Sz 4096 (zaG (zaw s))):=fun h => zdJ h (by omega)
 have D1:=lh9 (@rd_1 s)
 have D2:=lh9 (@rd_2 s)
 have D3:=lh9 (@rd_3 s)
 have D4:=lh9 (@rd_4 s)
 obtain ⟨rt,hrt⟩ : ∃ x,zbT s = x:=⟨_,rfl⟩
 obtain ⟨H,hH⟩ : ∃ x,(zap s).length = x:=⟨_,rfl⟩
 obtain ⟨HD,hHD⟩ : ∃ x,zau (zap s) = x:=⟨_,rfl⟩
 obtain ⟨BD,hBD⟩ : ∃ x,zau (zbc (zap s)) = x:=⟨_,rfl⟩
 obtain ⟨TL,hTL⟩ : ∃ x,zau (zaw s) = x:=⟨_,rfl⟩
 obtain ⟨nb,hnb⟩ : ∃ x,zcQ (zap s) = x:=⟨_,rfl⟩
 obtain ⟨okB,hokB⟩ : ∃ x,okR (zbc (zap s)) = x:=⟨_,rfl⟩
 obtain ⟨xB,hxB⟩ : ∃ x,zaG (zbc (zap s)) = x:=⟨_,rfl⟩
 obtain ⟨ok,hok⟩ : ∃ x,okI (zap s) = x:=⟨_,rfl⟩
 obtain ⟨zv,hzv⟩ : ∃ x,zbB (zap s) = x:=⟨_,rfl⟩
 obtain ⟨okT,hokT⟩ : ∃ x,okR (zaw s) = x:=⟨_,rfl⟩
 obtain ⟨dT,hdT⟩ : ∃ x,zaG (zaw s) = x:=⟨_,rfl⟩
 obtain ⟨N,hN⟩ : ∃ x,s.length = x:=⟨_,rfl⟩
 have HBH : Hid (nb = false → BD = HD):=fun h => by rw [← hBD,← hHD,(zir (zap s)).2 (hnb.trans h)]
 have hsz : (zau s).size = N:=by rw [zay]; exact hN
 simp only [hrt,hH,hHD,hBD,hTL,hnb,hokB,hxB,hok,hzv,hokT,hdT,hN] at HCH HCE HIX s1 HS3 HNH HI0 HQ1 HS2 HR1 HR2 HOI HVS HY1 HY2 D1 D2 D3 D4 hs hhl
 rw [hrt]
 have HTE:=lh9 (fun q : Rat => str_eql (zau (zcg q)) (zau s) _ rfl)
 simp only [zaI] at HTE
 obtain ⟨S,hS⟩ : ∃ x,zau s = x:=⟨_,rfl⟩
 simp only [hS] at HIX s1 HS3 hsz HTE
 rw [hS]
 clear hrt hH hHD hBD hTL hnb hokB hxB hok hzv hokT hdT hN hbl htl hS
 obtain ⟨bx1,k2,k4,bz⟩:=zbD w 40 49 #[.bool false,.slice none 0 0,.slice none 0 0] #[.int .i64 0,.string { data:=#[] },.int .i64 0]
 have hB:=bx1
 go_enter Tryz.func21,Tryz.ntmps21
 go_upto_region 1 with fail
 generalize (w.alloc (.cells #[.bool false,.slice none 0 0,.slice none 0 0] 40)).alloc (.cells #[.int .i64 0,.string { data:=#[] },.int .i64 0] 49) = W2 at *
 obtain ⟨by1,kr,k5,bz2⟩:=zbD W2 3 40 #[.int .i64 1] #[.bool false,.slice none 0 0,.slice (some ⟨W2.heap.size,0,none⟩) 1 1]
 have hB:=zac hB by1
 have k2:=zae by1 k2
 have k4:=zae by1 k4
 clear bx1 by1
 go_upto_region 2 with fail
 generalize (W2.alloc (.cells #[.int .i64 1] 3)).alloc (.cells #[.bool false,.slice none 0 0,.slice (some ⟨W2.heap.size,0,none⟩) 1 1] 40) = W at *
 obtain ⟨g,hg⟩ : ∃ g,W2.heap.size = g:=⟨_,rfl⟩
 rw [hg] at kr k5 bz bz2 ⊢
 have hz : zde W 0 false none 0 0 (some ⟨g,0,none⟩) 1 1:=⟨⟨rfl,zbN W⟩,zcO kr⟩
 clear hg kr bz2
 go_upto_block 0 with fail
 go_cut [5] (fun s5 wx => s5 = .int .i64 ((H : Nat) : Int) ∧ wx = W)
 case first =>
  clear k2 k4 k5 hz hB HNH HBN HI0 HQ1 HS2 HR1 HR2 HOI HVS HY1 HY2 D1 D2 D3 D4 HBH HTE s1 HS3
  go_wp2_with fail
  go_loopg [5] (H + 1) (fun gg c wr => ∃ k : Nat,k ≤ H ∧ H < gg + k ∧ c = .int .i64 (k : Int) ∧ wr = W)
  case atStart => exact ⟨0,Nat.zero_le _,by omega,rfl,rfl⟩
  case round =>
   obtain ⟨k,hk,hgk,rfl,hwr⟩:=hrel
   subst hwr
   have i1 : (0 : Int) ≤ (k : Int):=by omega
   by_cases hlt : k < H
   ·obtain ⟨hkN,hc⟩:=HCH.out k hlt
    have ix:=HIX.out k hkN
    obtain ⟨c,hcc⟩ : ∃ c,(s.getD k 0).toNat = c:=⟨_,rfl⟩
    simp only [hcc] at ix
    rw [hcc] at hc
    have t1 : ((c : Int) != 47) = true:=by rw [bne_iff_ne]; omega
    have t2 : ((c : Int) == 47) = false:=by rw [beq_eq_false_iff_ne]; omega
    have i2 : (k : Int) < (N : Int):=by omega
    have i3 : IntKind.i64.wrap ((k : Int) + 1) = (k : Int) + 1:=IntWalk.i64_in _ (by omega)
    clear hcc hc
    go_wp2
    go_roundg (H - k)
    case measure => omega
    case rel => exact ⟨k + 1,by omega,by omega,by go_num,rfl⟩
   ·have hkH : k = H:=by omega
    subst hkH
    rcases HCE.out with ⟨hN,-⟩ | ⟨hN,-,hc⟩
    ·have i2 : ¬ (k : Int) < (N : Int):=by omega
     go_wp2
     go_meet
     exact ⟨by rw [hN],rfl⟩
    ·have ix:=HIX.out k hN
     simp only [hc] at ix
     have i2 : (k : Int) < (N : Int):=by omega
     go_wp2
     go_meet
     exact ⟨rfl,rfl⟩
 case rest =>
 obtain ⟨rfl,hwc⟩:=hcut
 subst hwc
 clear HCH HIX
 go_upto_region 6 with fail
 clear s1
 go_cut [7] (fun s7 wx => s7 = .bool nb ∧ wx = wc)
 case first =>
  have q1:=HQ1.out
  by_cases hh : zap s = []
  ·rw [decide_eq_true hh] at q1
   have ng:=HNH.out.1 hh
   subst ng
   go_wp2
   go_meet
   exact ⟨rfl,rfl⟩
  ·rw [decide_eq_false hh] at q1
   have ng:=HNH.out.2 hh
   have ix:=HI0.out hh
   obtain ⟨c,hcc⟩ : ∃ c,((zap s).getD 0 0).toNat = c:=⟨_,rfl⟩
   simp only [hcc] at ix
   rw [hcc] at ng
   by_cases hc : c = 45
   ·rw [decide_eq_true hc] at ng
    subst ng
    have t1 : ((c : Int) == 45) = true:=by rw [beq_iff_eq]; omega
    clear hcc hc
    go_wp2
    go_meet
    exact ⟨rfl,rfl⟩
   ·rw [decide_eq_false hc] at ng
    subst ng
    have t1 : ((c : Int) == 45) = false:=by rw [beq_eq_false_iff_ne]; omega
    clear hcc hc
    go_wp2
    go_meet
    exact ⟨rfl,rfl⟩
 case rest =>
 obtain ⟨rfl,hwc⟩:=hcut
 subst hwc
 clear HNH HI0 HQ1
 go_upto_if 37 with fail
 go_cut [6] (fun s6 wx => s6 = .string BD ∧ wx = wc)
 case first =>
  cases nb
  ·have e9:=HBH.out rfl
   subst e9
   go_wp2
   go_meet
   exact ⟨rfl,rfl⟩
  ·have s2:=HS2.out rfl
   go_wp2
   go_meet
   exact ⟨rfl,rfl⟩
 case rest =>
 obtain ⟨rfl,hwc⟩:=hcut
 subst hwc
 clear HS2 HBH HBN
 go_wp2_with fail
 refine (HR1.out _).mono ?_
 rintro e w3 ⟨A5,n5,c5,rfl,hw5,hb⟩
 have hB:=zac hB hb
 have k2:=zae hb k2
 have k4:=zae hb k4
 have k5:=zae hb k5
 have hz:=hz.below hb
 clear hb HR1
 go_upto_region 10 with fail
 go_cut [54] (fun s54 wx => s54 = .bool (!ok) ∧ wx = w3)
 case first =>
  have ho:=HOI.out
  clear k2 k4 k5 hz hB
  cases okB with
  | false =>
    rw [Bool.false_and] at ho
    subst ho
    go_wp2
    go_meet
    exact ⟨rfl,rfl⟩
  | true =>
    rw [Bool.true_and] at ho
    rw [if_pos rfl] at hw5
    cases nb with
    | false =>
      rw [Bool.false_and] at ho
      subst ho
      go_wp2
      go_meet
      exact ⟨rfl,rfl⟩
    | true =>
      rw [Bool.true_and] at ho
      by_cases hx : xB = 0
      ·rw [decide_eq_true hx] at ho
       subst ho
       have hn5:=zen hw5 hx
       subst hn5
       go_wp2
       go_meet
       exact ⟨rfl,rfl⟩
      ·rw [decide_eq_false hx] at ho
       subst ho
       have hn5:=zfG hw5 hx
       have t1 : ((n5 : Int) == 0) = false:=by rw [beq_eq_false_iff_ne]; omega
       go_wp2
       go_meet
       exact ⟨rfl,rfl⟩
 case rest =>
 obtain ⟨rfl,hwc⟩:=hcut
 subst hwc
 cases ok with
 | false =>
   rw [Bool.not_false]
   obtain rfl : rt = (.spot 91 zdF 0,0):=D1.out (by first | rfl | trivial)
   clear D1 D2 D3 D4 hw5
   obtain ⟨g5,e5,i5⟩:=k5.c3
   obtain ⟨⟨sc0,sf0,sc1,sf1,sc2,sf2⟩,⟨sd0,sg0,sd1,sg1,sd2,sg2⟩,kA,kB⟩:=zhl k2 k4 (by omega) (.bool false) (.slice none 0 0) (.slice (some ⟨g,0,none⟩) 1 1) (.int .i64 91) (.string { data:=#[110,117,109,98,101,114] }) (.int .i64 0)
   obtain ⟨r0,r1,r2⟩:=kA.c3
   obtain ⟨r3,r4,r5⟩:=kB.c3
   have HK:=lh9 (zeq hz k2 k4 (by omega) hB (Nat.le_refl _) (Nat.le_succ _) (.int .i64 91) (.string { data:=#[110,117,109,98,101,114] }) (.int .i64 0))
   clear kA kB k2 k4 k5 hz hB HVS HR2 HS3 HTE HCE HY2
   go_wp2
   refine bodyPost_ret (v:=.tuple #[.agg #[.bool false,.slice none 0 0,.slice (some ⟨g,0,none⟩) 1 1],.agg #[.int .i64 91,.string { data:=#[110,117,109,98,101,114] },.int .i64 0]]) (by simp [results,Tryz.results21,go_sem,r0,r1,r2,r3,r4,r5]) rfl ?_
   exact ⟨_,_,_,_,_,_,_,rfl,HK.out.1,HK.out.2⟩
 | true =>
 rw [Bool.not_true]
 have hokb : okB = true:=(Bool.and_eq_true_iff.1 HOI.out.symm).1
 subst hokb
 rw [if_pos rfl] at hw5
 have HZZ:=lh9 (HY1.out rfl)
 have HN7:=lh9 (zdS nb xB A5 n5 c5 wc hw5 (by have:=HZZ.out.holds' hw5; omega))
 clear D1 HOI HY1 hw5
 go_wp2_with fail
 refine HN7.out.mono ?_
 rintro e w4 ⟨b6,B6,m6,d6,rfl,hz6,hb⟩
 have hB:=zac hB hb
 have k2:=zae hb k2
 have k4:=zae hb k4
 have k5:=zae hb k5
 have hz:=hz.below hb
 have hz6 : zbC w4 zv b6 B6 m6 d6:=zbC.to HVS.out.symm hz6
 obtain ⟨bx1,kz,bz2⟩:=zaz w4 38 #[.bool b6,.slice B6 m6 d6]
 have hb:=bx1
 have hB:=zac hB hb
 have k2:=zae hb k2
 have k4:=zae hb k4
 have k5:=zae hb k5
 have hz:=hz.below hb
 have hz6:=hz6.below hb
 clear hb bx1 bz2 HN7
 go_upto_region 13 with fail
 generalize w4.alloc (.cells #[.bool b6,.slice B6 m6 d6] 38) = W5 at *
 obtain ⟨qz,hqz⟩ : ∃ q,w4.heap.size = q:=⟨_,rfl⟩
 rw [hqz] at kz ⊢
 clear hqz
 rcases HCE.out with ⟨hHN,hr⟩ | ⟨hHN,hr,-⟩
 ·obtain rfl : rt = (.no,((zv : Int) : Rat)):=D2.out (by first | rfl | trivial) hr
  have j1 : ((H : Int) == (N : Int)) = true:=by rw [beq_iff_eq]; omega
  obtain ⟨gz,ez⟩:=kz.c2
  clear D2 D3 D4 HR2 HS3 HTE HCE hHN
  go_upto_region 14 with fail
  obtain ⟨bx1,kr,bz2⟩:=zaz W5 3 #[.int .i64 1]
  have hb:=bx1
  have hB:=zac hB hb
  have k2:=zae hb k2
  have k4:=zae hb k4
  have k5:=zae hb k5
  have hz:=hz.below hb
  have hz6:=hz6.below hb
  have gz:=zad hb gz
  have ez:=zad hb ez
  have hq8 : zde (W5.alloc (.cells #[.int .i64 1] 3)) ((zv : Int) : Rat) b6 B6 m6 d6 (some ⟨W5.heap.size,0,none⟩) 1 1:=⟨zbC.to (Rat.num_intCast zv).symm hz6,zai.to (Rat.den_intCast zv).symm (zcO kr)⟩
  clear hb bx1 bz2 kr hz6 kz
  have hq59:=hB.size
  obtain ⟨⟨sc0,sf0,sc1,sf1,sc2,sf2⟩,⟨sd0,sg0,sd1,sg1,sd2,sg2⟩,kA,kB⟩:=zhl k2 k4 (by omega) (.bool b6) (.slice B6 m6 d6) (.slice (some ⟨W5.heap.size,0,none⟩) 1 1) (.int .i64 0) (.string { data:=#[] }) (.int .i64 0)
  obtain ⟨r0,r1,r2⟩:=kA.c3
  obtain ⟨r3,r4,r5⟩:=kB.c3
  have HK:=lh9 (zeq hq8 k2 k4 (by omega) hB (Nat.le_refl _) (Nat.le_succ _) (.int .i64 0) (.string { data:=#[] }) (.int .i64 0))
  clear kA kB k2 k4 k5 hz hB HVS HY2 hq8 gz ez
  go_wp2
  refine bodyPost_ret (v:=.tuple #[.agg #[.bool b6,.slice B6 m6 d6,.slice (some ⟨W5.heap.size,0,none⟩) 1 1],.agg #[.int .i64 0,.string { data:=#[] },.int .i64 0]]) (by simp [results,Tryz.results21,go_sem,r0,r1,r2,r3,r4,r5]) rfl ?_
  exact ⟨_,_,_,_,_,_,_,rfl,HK.out.1,HK.out.2⟩
 ·have j1 : ((H : Int) == (N : Int)) = false:=by rw [beq_eq_false_iff_ne]; omega
  have j2 : IntKind.i64.wrap ((H : Int) + 1) = (H : Int) + 1:=IntWalk.i64_in _ (by omega)
  have s3:=HS3.out hr
  clear D2 HS3 HCE
  go_wp2_with fail
  refine (HR2.out _).mono ?_
  rintro e w6 ⟨A7,n7,c7,rfl,hw7,hb⟩
  have hB:=zac hB hb
  have k2:=zae hb k2
  have k4:=zae hb k4
  have k5:=zae hb k5
  have hz:=hz.below hb
  have hz6:=hz6.below hb
  have kz:=zae hb kz
  clear hb HR2 s3
  obtain ⟨bb,hbb⟩ : ∃ bb,(!okT || decide (dT = 0)) = bb:=⟨_,rfl⟩
  have HBB:=lh9 hbb
  clear hbb
  go_upto_region 16 with fail
  go_cut [82] (fun s82 wx => s82 = .bool bb ∧ wx = w6)
  case first =>
   have ho:=HBB.out
   clear k2 k4 k5 hz hB hz6 kz
   cases okT with
   | false =>
     have hbt : bb = true:=ho.symm
     subst hbt
     go_wp2
     go_meet
     exact ⟨rfl,rfl⟩
   | true =>
     rw [if_pos rfl] at hw7
     by_cases hd : dT = 0
     ·have hbt : bb = true:=by rw [← ho,decide_eq_true hd]; rfl
      subst hbt
      have hn7:=zen hw7 hd
      subst hn7
      go_wp2
      go_meet
      exact ⟨rfl,rfl⟩
     ·have hbt : bb = false:=by rw [← ho,decide_eq_false hd]; rfl
      subst hbt
      have hn7:=zfG hw7 hd
      have t1 : ((n7 : Int) == 0) = false:=by rw [beq_eq_false_iff_ne]; omega
      go_wp2
      go_meet
      exact ⟨rfl,rfl⟩
  case rest =>
  obtain ⟨rfl,hwc⟩:=hcut
  subst hwc
  cases bb with
  | true =>
    obtain rfl : rt = (.spot 91 zef (((H + 1 : Nat)) : Int),0):=D3.out (by first | rfl | trivial) hr (by
     have h9:=HBB.out
     cases hT : okT
     ·exact .inl (by first | rfl | trivial)
     ·rw [hT] at h9; exact .inr (of_decide_eq_true (by simpa using h9)))
    clear D3 D4 hw7 hz6 kz HTE
    obtain ⟨g5,e5,i5⟩:=k5.c3
    obtain ⟨⟨sc0,sf0,sc1,sf1,sc2,sf2⟩,⟨sd0,sg0,sd1,sg1,sd2,sg2⟩,kA,kB⟩:=zhl k2 k4 (by omega) (.bool false) (.slice none 0 0) (.slice (some ⟨g,0,none⟩) 1 1) (.int .i64 91) (.string { data:=#[100,105,118,105,115,111,114] }) (.int .i64 ((H : Int) + 1))
    obtain ⟨r0,r1,r2⟩:=kA.c3
    obtain ⟨r3,r4,r5⟩:=kB.c3
    have HK:=lh9 (zeq hz k2 k4 (by omega) hB (Nat.le_refl _) (Nat.le_succ _) (.int .i64 91) (.string { data:=#[100,105,118,105,115,111,114] }) (.int .i64 ((H : Int) + 1)))
    clear kA kB k2 k4 k5 hz hB HVS HY2
    go_wp2
    refine bodyPost_ret (v:=.tuple #[.agg #[.bool false,.slice none 0 0,.slice (some ⟨g,0,none⟩) 1 1],.agg #[.int .i64 91,.string { data:=#[100,105,118,105,115,111,114] },.int .i64 ((H : Int) + 1)]]) (by simp [results,Tryz.results21,go_sem,r0,r1,r2,r3,r4,r5]) rfl ?_
    exact ⟨_,_,_,_,_,_,_,rfl,HK.out.1,HK.out.2⟩
  | false =>
  have hT1 : okT = true:=by
   have h9:=HBB.out
   cases okT
   ·cases h9
   ·rfl
  subst hT1
  have hd0 : dT ≠ 0:=of_decide_eq_false (by have h9:=HBB.out; simpa using h9)
  rw [if_pos rfl] at hw7
  have hsd:=HY2.out (by first | rfl | trivial)
  have hsz9 : Sz 4096 zv.natAbs:=by rw [HVS.out,zfM]; exact HZZ.out
  have hdi : ((dT : Nat) : Int) ≠ 0:=by omega
  have HSQ : Hid (SzQ 4096 (Rat.divInt zv ((dT : Nat) : Int))):=SzQ.made hsz9 (by rw [Int.natAbs_natCast]; exact hsd) (by decide)
  have D5:=lh9 (D4.out (by first | rfl | trivial) hr (by first | rfl | trivial) hd0)
  have HN8:=lh9 (fun w' (h : zai w' dT A7 n7 c7) => zdS false dT A7 n7 c7 w' h (by have:=hsd.holds' h; omega))
  have HN9:=lh9 (fun b B m d w' (h : zbC w' zv b6 B6 m6 d6) (h2 : zbC w' ((dT : Nat) : Int) b B m d) => ref8_new zv ((dT : Nat) : Int) b6 B6 m6 d6 b B m d 4096 4096 w' hsz9 h (by rw [Int.natAbs_natCast]; exact hsd) h2 (by decide) (by decide) hdi)
  have HTQ:=lh9 (HTE.out (Rat.divInt zv ((dT : Nat) : Int)))
  obtain ⟨qv,hqv⟩ : ∃ q,Rat.divInt zv ((dT : Nat) : Int) = q:=⟨_,rfl⟩
  rw [hqv] at HSQ D5 HTQ
  simp only [hqv] at HN9
  clear D3 D4 HTE hqv hdi hsd hsz9 hd0 HBB HY2 HVS HZZ hr hHN
  obtain ⟨gz,ez⟩:=kz.c2
  have hW:=Below.refl wc.heap.size wc
  go_upto_region 18 with fail
  go_cut [12] (fun s12 wx => ∃ (q : Nat) (b : Bool) (B : oA9) (m d : Nat) (E : oA9) (u v : Nat),s12 = .pointer (some ⟨q,0,none⟩) ∧ Blk wx q 40 #[.bool b,.slice B m d,.slice E u v] ∧ zde wx qv b B m d E u v ∧ Below wc.heap.size wc wx)
  case first =>
   have hqz:=kz.lt
   clear k2 k4 k5 hz kz hB D5 HTQ
   have hBw:=(Below.refl wc.heap.size wc).drew
   refine rg (csc gz (csc ez csn)) (fun hHeld => ?_)
   have hW:=zac hW hBw
   have hz6:=hz6.below hBw
   have hw7:=hw7.below hBw
   clear gz ez
   generalize wc.drew = Wd at *
   clear hBw
   refine tk 0 ?_
   refine tk 1 ?_
   refine rc2 2 4 (fun K hK => ?_) (fun K hK => ?_)
   ·go_simp
    refine (HN8.out _ hw7).mono ?_
    rintro e w7 ⟨b8,B8,m8,d8,rfl,hw8,hb⟩
    refine hK.out _ _ (hHeld.below hb) (fun hHeld => ?_); clear hK K
    try simp only [sb9]
    have hw8 : zbC w7 ((dT : Nat) : Int) b8 B8 m8 d8:=zbC.to (sgI_f dT) hw8
    have hW:=zac hW hb
    have hz6:=hz6.below hb
    clear hb hw7
    refine rc2 3 4 (fun K hK => ?_) (fun K hK => ?_)
    ·go_simp
     refine (HN9.out _ _ _ _ _ hz6 hw8).mono ?_
     rintro e w8 ⟨b9,B9,m9,d9,E9,u9,v9,rfl,hq9,hb⟩
     refine hK.out _ _ (hHeld.below hb) (fun hHeld => ?_); clear hK K
     try simp only [sb9]
     have hW:=zac hW hb
     clear hb hz6 hw8
     refine rc 4 (fun K hK => ?_)
     go_simp
     obtain ⟨hba,-,-⟩:=zaz w8 40 #[.bool false,.slice none 0 0,.slice none 0 0]
     obtain ⟨hbf,kqf,-⟩:=zaz w8 40 #[.bool b9,.slice B9 m9 d9,.slice E9 u9 v9]
     have hH0:=hHeld.below hbf
     have hW:=zac hW hbf
     have hq9:=hq9.below hbf
     refine hK.out _ _ (hHeld.below hba) (fun hHeld => ?_); clear hK K
     try simp only [sb9]
     clear hba hbf
     refine rc 5 (fun K hK => ?_)
     go_simp
     refine hK.out _ _ hH0 (fun hHeld => ?_); clear hK K
     try simp only [sb9]
     refine rdn ?_
     go_wp2
     go_meet
     exact ⟨_,_,_,_,_,_,_,_,rfl,kqf,hq9,hW⟩
    ·go_simp
     have hsq:=hW.size
     obtain ⟨hba,kq,-⟩:=zaz w7 40 #[.bool false,.slice none 0 0,.slice none 0 0]
     refine hK.out _ _ (hHeld.below hba) (fun hHeld => ?_); clear hK K
     try simp only [sb9]
     have hW:=zac hW hba
     have hz6:=hz6.below hba
     have hw8:=hw8.below hba
     clear hba
     refine rc 3 (fun K hK => ?_)
     go_simp
     refine (HN9.out _ _ _ _ _ hz6 hw8).mono ?_
     rintro e w8 ⟨b9,B9,m9,d9,E9,u9,v9,rfl,hq9,hb⟩
     refine hK.out _ _ (hHeld.below hb) (fun hHeld => ?_); clear hK K
     try simp only [sb9]
     have hW:=zac hW hb
     have kq:=zae hb kq
     clear hb hz6 hw8
     refine rc 5 (fun K hK => ?_)
     obtain ⟨sc0,sf0,sc1,sf1,sc2,sf2⟩:=st3 kq (.bool b9) (.slice B9 m9 d9)
     go_simp
     refine hK.out _ _ (cs3 _ _ _ hHeld (by simp only [OffL,and_true]; omega)) (fun hHeld => ?_); clear hK K
     try simp only [sb9]
     refine rdn ?_
     go_wp2
     go_meet
     exact ⟨_,_,_,_,_,_,_,_,rfl,sn3 kq _ _ _,zfK hq9 kq zdE (zcy _ _ _ _ _),bl3 _ _ _ (by omega) hW⟩
   ·go_simp
    have hsq:=hW.size
    obtain ⟨hba,kq,-⟩:=zaz Wd 40 #[.bool false,.slice none 0 0,.slice none 0 0]
    refine hK.out _ _ (hHeld.below hba) (fun hHeld => ?_); clear hK K
    try simp only [sb9]
    have hW:=zac hW hba
    have hz6:=hz6.below hba
    have hw7:=hw7.below hba
    clear hba
    refine rc 2 (fun K hK => ?_)
    go_simp
    refine (HN8.out _ hw7).mono ?_
    rintro e w7 ⟨b8,B8,m8,d8,rfl,hw8,hb⟩
    refine hK.out _ _ (hHeld.below hb) (fun hHeld => ?_); clear hK K
    try simp only [sb9]
    have hw8 : zbC w7 ((dT : Nat) : Int) b8 B8 m8 d8:=zbC.to (sgI_f dT) hw8
    have hW:=zac hW hb
    have hz6:=hz6.below hb
    have kq:=zae hb kq
    clear hb hw7
    refine rc 3 (fun K hK => ?_)
    go_simp
    refine (HN9.out _ _ _ _ _ hz6 hw8).mono ?_
    rintro e w8 ⟨b9,B9,m9,d9,E9,u9,v9,rfl,hq9,hb⟩
    refine hK.out _ _ (hHeld.below hb) (fun hHeld => ?_); clear hK K
    try simp only [sb9]
    have hW:=zac hW hb
    have kq:=zae hb kq
    clear hb hz6 hw8
    refine rc 5 (fun K hK => ?_)
    obtain ⟨sc0,sf0,sc1,sf1,sc2,sf2⟩:=st3 kq (.bool b9) (.slice B9 m9 d9)
    go_simp
    refine hK.out _ _ (cs3 _ _ _ hHeld (by simp only [OffL,and_true]; omega)) (fun hHeld => ?_); clear hK K
    try simp only [sb9]
    refine rdn ?_
    go_wp2
    go_meet
    exact ⟨_,_,_,_,_,_,_,_,rfl,sn3 kq _ _ _,zfK hq9 kq zdE (zcy _ _ _ _ _),bl3 _ _ _ (by omega) hW⟩
  case rest =>
  obtain ⟨q,b,B,m,d,E,u,v,rfl,kq,hq9,hb⟩:=hcut
  have hB:=zac hB hb
  have k2:=zae hb k2
  have k4:=zae hb k4
  have k5:=zae hb k5
  have hz:=hz.below hb
  clear hb hW HN8 HN9 hz6 hw7 gz ez kz
  obtain ⟨gq0,gq1,gq2⟩:=kq.c3
  have HT9:=lh9 (zpU qv b B m d E u v _ hq9 (szh9 HSQ.out.1 hq9.1.2 (by decide)) (szh9 HSQ.out.2 hq9.2 (by decide)))
  clear HSQ kq
  go_wp2_with fail
  refine HT9.out.mono ?_
  rintro e w9 ⟨rfl,hb⟩
  have hB:=zac hB hb
  have k2:=zae hb k2
  have k4:=zae hb k4
  have k5:=zae hb k5
  have hz:=hz.below hb
  have hq9:=hq9.below hb
  have gq0:=zad hb gq0
  have gq1:=zad hb gq1
  have gq2:=zad hb gq2
  clear hb HT9
  by_cases he : zcg qv = s
  ·obtain rfl : rt = (.no,qv):=D5.out.1 he
   have tx:=HTQ.out.trans (@decide_eq_true _ _ he)
   have tx2 : ((zau (zcg qv)).toList != S.toList) = false:=by rw [bne,tx]; rfl
   clear D5 HTQ he
   skip
   obtain ⟨⟨sc0,sf0,sc1,sf1,sc2,sf2⟩,⟨sd0,sg0,sd1,sg1,sd2,sg2⟩,kA,kB⟩:=zhl k2 k4 (by omega) (.bool b) (.slice B m d) (.slice E u v) (.int .i64 0) (.string { data:=#[] }) (.int .i64 0)
   obtain ⟨r0,r1,r2⟩:=kA.c3
   obtain ⟨r3,r4,r5⟩:=kB.c3
   have HK:=lh9 (zeq hq9 k2 k4 (by omega) hB (Nat.le_refl _) (Nat.le_succ _) (.int .i64 0) (.string { data:=#[] }) (.int .i64 0))
   clear kA kB k2 k4 k5 hz hB 
   go_wp2
   refine bodyPost_ret (v:=.tuple #[.agg #[.bool b,.slice B m d,.slice E u v],.agg #[.int .i64 0,.string { data:=#[] },.int .i64 0]]) (by simp [results,Tryz.results21,go_sem,r0,r1,r2,r3,r4,r5]) rfl ?_
   exact ⟨_,_,_,_,_,_,_,rfl,HK.out.1,HK.out.2⟩
  ·obtain rfl : rt = (.bare 91,0):=D5.out.2 he
   have tx:=HTQ.out.trans (@decide_eq_false _ _ he)
   have tx2 : ((zau (zcg qv)).toList != S.toList) = true:=by rw [bne,tx]; rfl
   clear D5 HTQ he hq9 gq0 gq1 gq2
   obtain ⟨g5,e5,i5⟩:=k5.c3
   obtain ⟨⟨sc0,sf0,sc1,sf1,sc2,sf2⟩,⟨sd0,sg0,sd1,sg1,sd2,sg2⟩,kA,kB⟩:=zhl k2 k4 (by omega) (.bool false) (.slice none 0 0) (.slice (some ⟨g,0,none⟩) 1 1) (.int .i64 91) (.string { data:=#[] }) (.int .i64 0)
   obtain ⟨r0,r1,r2⟩:=kA.c3
   obtain ⟨r3,r4,r5⟩:=kB.c3
   have HK:=lh9 (zeq hz k2 k4 (by omega) hB (Nat.le_refl _) (Nat.le_succ _) (.int .i64 91) (.string { data:=#[] }) (.int .i64 0))
   clear kA kB k2 k4 k5 hz hB 
   go_wp2
   refine bodyPost_ret (v:=.tuple #[.agg #[.bool false,.slice none 0 0,.slice (some ⟨g,0,none⟩) 1 1],.agg #[.int .i64 91,.string { data:=#[] },.int .i64 0]]) (by simp [results,Tryz.results21,go_sem,r0,r1,r2,r3,r4,r5]) rfl ?_
   exact ⟨_,_,_,_,_,_,_,rfl,HK.out.1,HK.out.2⟩
end Go.Proofs.YtfieheffipfahaaGreatDoor
