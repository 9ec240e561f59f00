/- What this claim leans on. -/
import Derived.Test.YtghpdeciaaagnaaGreatDoorIJ8Form
import Derived.Test.YtghpdeciaaagnaaGreatDoorIJ8Look
namespace Go.Proofs.YtghpdeciaaagnaaGreatDoor
open Go Go.RowKit
set_option maxHeartbeats 16000000
set_option maxRecDepth 100000
set_option linter.unusedVariables false
set_option linter.unusedSimpArgs false
theorem zjQ (p:Int)(q:Int)(baa:Bool)(Baa:oA9)(maa daa:Nat)(bab:Bool)(Bab:oA9)(mab dab:Nat)(w:World)(hT:zai w)(haa:zaG w p baa Baa maa daa)(hab:zaG w q bab Bab mab dab)(qaa:maa<=67108864)(qab:mab<=67108864)(h0:q=0):
  Calls Tryz.prog 175 #[.agg #[.bool baa,.slice Baa maa daa],.agg #[.bool bab,.slice Bab mab dab]] w (zbD w 0 false):=by
 have HIC:=lh9 (zbV (T:=zai))
 have HT:=lh9 (λw' (hb:Below w.heap.size w w')=>hT.on hb)
 have HTB:=HT
 obtain⟨K,hKe⟩:∃K,67108864=K:=⟨_,rfl⟩
 have hKK:K<=67108864:=by omega
 have hK0:0<K:=by omega
 have HS0:Hid (ziB q=0):=by show _=_;rw [h0];rfl
 have HZaa:Hid (Sz K p.natAbs):=Sz.of_words haa.words (by omega)
 clear haa qaa
 have HNab:=lh9 (λw' (b:Below w.heap.size w w')=>hab.below b)
 have HZab:Hid (Sz K q.natAbs):=Sz.of_words hab.words (by omega)
 clear hab qab
 clear hT hKe h0
 go_enter Tryz.func175,Tryz.ntmps175
 have hB:=Below.refl w.heap.size w
 obtain⟨bx1,bx2,bx3,bx4,bz⟩:=zbL w 39 39 41 #[.bool baa,.slice Baa maa daa] #[.bool bab,.slice Bab mab dab] #[.bool false,.slice none 0 0,.slice none 0 0]
 have hB:=zab hB bx1
 obtain⟨g1,e1⟩:=bx2.c2
 obtain⟨g2,e2⟩:=bx3.c2
 have k3:=bx4
 clear bx1 bx2 bx3 bx4 bz
 go_wp2_with fail
 generalize ((w.alloc (.cells #[.bool baa,.slice Baa maa daa] 39)).alloc (.cells #[.bool bab,.slice Bab mab dab] 39)).alloc (.cells #[.bool false,.slice none 0 0,.slice none 0 0] 41)=W1 at*
 (with_reducible refine(zct (v:=0) (HS0.out) (HIC.out.sign (q) bab Bab mab dab _ (HT.out _ hB) (HNab.out _ hB) (szi HZab (HNab.out _ hB)))).mono ?_)
 rintro e wc2 ⟨rfl,hb⟩
 have hB:=zab hB hb
 have g1:=zac hb g1
 have e1:=zac hb e1
 have g2:=zac hb g2
 have e2:=zac hb e2
 have k3:=zaa hb k3
 clear hb 
 have HN4:=lh9 (zfR wc2)
 obtain⟨sc0,sf0,sc1,sf1,sc2,sf2⟩:=st3 k3 (.bool false) (.slice none 0 0)
 obtain⟨r0,r1,r2⟩:=(sn3 k3 (.bool false) (.slice none 0 0) (.slice none 0 0)).c3
 have HG:=lh9 (gb3 false (HN4.out) k3 hB (by omega))
 go_wp2
 refine bodyPost_ret (v:=.tuple #[.agg #[.bool false,.slice none 0 0,.slice none 0 0],.bool false]) (by simp [results,Tryz.results175,go_sem,r0,r1,r2]) rfl ?_
 exact HG.out
theorem zpI (p:Int)(q:Int)(baa:Bool)(Baa:oA9)(maa daa:Nat)(bab:Bool)(Bab:oA9)(mab dab:Nat)(w:World)(hT:zai w)(haa:zaG w p baa Baa maa daa)(hab:zaG w q bab Bab mab dab)(qaa:maa<=67108864)(qab:mab<=67108864)(h0:q≠0):
  Calls Tryz.prog 175 #[.agg #[.bool baa,.slice Baa maa daa],.agg #[.bool bab,.slice Bab mab dab]] w (zbD w (Rat.divInt p q) true):=by
 have HIC:=lh9 (zbV (T:=zai))
 have HGC:=lh9 zca
 have HT:=lh9 (λw' (hb:Below w.heap.size w w')=>hT.on hb)
 have HTB:=HT
 obtain⟨K,hKe⟩:∃K,67108864=K:=⟨_,rfl⟩
 have hKK:K<=67108864:=by omega
 have hK0:0<K:=by omega
 have HMP:=lh9 (zoJ p q h0)
 obtain⟨sp,hsp⟩:∃s,decide (p<0)=s:=⟨_,rfl⟩
 obtain⟨sq,hsq⟩:∃s,decide (q<0)=s:=⟨_,rfl⟩
 rw [hsp,hsq] at HMP
 have HSP:=lh9 hsp
 have HSQ:=lh9 hsq
 obtain⟨sg,hsg⟩:∃s,ziB q=s:=⟨_,rfl⟩
 have HSG:=lh9 hsg
 have kb1:(sg==0)=false:=by
  rw [beq_eq_false_iff_ne]
  intro h9
  rw [h9] at hsg
  unfold ziB at hsg
  (repeat' split at hsg)<;>omega
 clear hsp hsq hsg
 have HNaa:=lh9 (λw' (b:Below w.heap.size w w')=>haa.below b)
 have HZaa:Hid (Sz K p.natAbs):=Sz.of_words haa.words (by omega)
 clear haa qaa
 have HNab:=lh9 (λw' (b:Below w.heap.size w w')=>hab.below b)
 have HZab:Hid (Sz K q.natAbs):=Sz.of_words hab.words (by omega)
 clear hab qab
 clear hT hKe h0
 go_enter Tryz.func175,Tryz.ntmps175
 have hB:=Below.refl w.heap.size w
 obtain⟨bx1,bx2,bx3,bx4,bz⟩:=zbL w 39 39 41 #[.bool baa,.slice Baa maa daa] #[.bool bab,.slice Bab mab dab] #[.bool false,.slice none 0 0,.slice none 0 0]
 have hB:=zab hB bx1
 obtain⟨g1,e1⟩:=bx2.c2
 obtain⟨g2,e2⟩:=bx3.c2
 have k3:=bx4
 clear bx1 bx2 bx3 bx4 bz
 go_wp2_with fail
 generalize ((w.alloc (.cells #[.bool baa,.slice Baa maa daa] 39)).alloc (.cells #[.bool bab,.slice Bab mab dab] 39)).alloc (.cells #[.bool false,.slice none 0 0,.slice none 0 0] 41)=W1 at*
 (with_reducible refine(zct (v:=sg) (HSG.out) (HIC.out.sign (q) bab Bab mab dab _ (HT.out _ hB) (HNab.out _ hB) (szi HZab (HNab.out _ hB)))).mono ?_)
 rintro e wc2 ⟨rfl,hb⟩
 have hB:=zab hB hb
 have g1:=zac hb g1
 have e1:=zac hb e1
 have g2:=zac hb g2
 have e2:=zac hb e2
 have k3:=zaa hb k3
 clear hb 
 go_wp2_with fail
 have HZ4:Hid (Sz (K) (p.natAbs)):=HZaa.out
 have C0:=lh9 (λw' (h:Below wc2.heap.size wc2 w')=>HIC.out.abs (p) baa Baa maa daa w' (HT.out _ (zab hB h)) (HNaa.out _ (zab hB h)) (szi HZaa (HNaa.out _ hB)))
 have HZ5:Hid (Sz (K) (q.natAbs)):=HZab.out
 have C1:=lh9 (λw' (h:Below wc2.heap.size wc2 w')=>HIC.out.abs (q) bab Bab mab dab w' (HT.out _ (zab hB h)) (HNab.out _ (zab hB h)) (szi HZab (HNab.out _ hB)))
 have HZ6:Hid (Sz (K) (p.natAbs / Nat.gcd p.natAbs q.natAbs)):=Sz.of_le HZ4.out (Nat.div_le_self _ _)
 have HZ7:Hid (Sz (K) (q.natAbs / Nat.gcd p.natAbs q.natAbs)):=Sz.of_le HZ5.out (Nat.div_le_self _ _)
 have C2:=lh9 (λw' (h:Below wc2.heap.size wc2 w') B4 m4 d4 (hw4:zad w' (p.natAbs) B4 m4 d4) B5 m5 d5 (hw5:zad w' (q.natAbs) B5 m5 d5)=>HGC.out.reduce (p.natAbs) (q.natAbs) B4 B5 m4 m5 d4 d5 w' hw4 hw5 (szw HZ4 hw4) (szw HZ5 hw5) (HTB.out _ (zab hB h)))
 have lt3_m2:=k3.lt
 have GG:=lh9 (λw' (h:Below wc2.heap.size wc2 w')=>(csc (zac h g1) (csc (zac h e1) (csc (zac h g2) (csc (zac h e2) csn)))))
 refine rgB (λhHeld=>?_)
 refine tl 0 GG.out ?_
 refine tl 2 GG.out ?_
 refine zcl (L:=#[true,true,true,true,true,true,true,true,true,true,true,true])
  (J:=fun a0 l a w' => ∃ (fl1 fl3 fl4 fl5 fl6 fl7 fl8 fl9 fl10 fl11 : Bool) (B4 : oA9) (m4 d4 : Nat) (B5 : oA9) (m5 d5 : Nat) (B6 : oA9) (m6 d6 : Nat) (B7 : oA9) (m7 d7 ad8 ad9 : Nat),l = #[true,fl1,true,fl3,fl4,fl5,fl6,fl7,fl8,fl9,fl10,fl11] ∧ zdJ [14,16,17,12,18,19,6,7] a0 a ∧ Hid (Below wc2.heap.size wc2 w') ∧
    Hid (Gd fl1 (a.tmps.getD 14 undef=.agg #[.slice B4 m4 d4]/\zad w' (p.natAbs) B4 m4 d4))/\
    Hid (Gd fl3 (a.tmps.getD 16 undef=.agg #[.slice B5 m5 d5]/\zad w' (q.natAbs) B5 m5 d5))/\
    Hid (Gd fl4 (a.tmps.getD 17 undef=.tuple #[.agg #[.slice B6 m6 d6],.agg #[.slice B7 m7 d7]]/\zad w' (p.natAbs / Nat.gcd p.natAbs q.natAbs) B6 m6 d6/\zad w' (q.natAbs / Nat.gcd p.natAbs q.natAbs) B7 m7 d7))/\
    Hid (Gd fl5 (a.tmps.getD 12 undef=.tuple #[.agg #[.slice B6 m6 d6],.agg #[.slice B7 m7 d7]]))/\
    Hid (Gd fl6 (a.tmps.getD 18 undef=.agg #[.slice B6 m6 d6]))/\
    Hid (Gd fl7 (a.tmps.getD 19 undef=.agg #[.slice B7 m7 d7]))/\
    Hid (Gd fl8 (a.tmps.getD 6 undef=.pointer (some ⟨ad8,0,none⟩)/\wc2.heap.size<=ad8/\Blk w' ad8 37 (bif fl10 then #[.slice B6 m6 d6] else #[.slice none 0 0])))/\
    Hid (Gd fl9 (a.tmps.getD 7 undef=.pointer (some ⟨ad9,0,none⟩)/\wc2.heap.size<=ad9/\Blk w' ad9 37 (bif fl11 then #[.slice B7 m7 d7] else #[.slice none 0 0])))/\
    Hid (Gd fl8 (Gd fl9 (ad8≠ad9)))/\
    Hid (Gd fl3 (fl1=true))/\
    Hid (Gd fl4 (fl1=true))/\
    Hid (Gd fl4 (fl3=true))/\
    Hid (Gd fl5 (fl4=true))/\
    Hid (Gd fl6 (fl5=true))/\
    Hid (Gd fl7 (fl5=true))/\
    Hid (Gd fl10 (fl4=true))/\
    Hid (Gd fl10 (fl6=true))/\
    Hid (Gd fl10 (fl8=true))/\
    Hid (Gd fl11 (fl7=true))/\
    Hid (Gd fl11 (fl9=true))/\
    Hid (Gd fl11 (fl10=true)))
  (by rfl) ?_ ?_ ?_
 ·exact⟨false,false,false,false,false,false,false,false,false,false,none,0,0,none,0,0,none,0,0,none,0,0,0,0,by kernel_rfl,zdJ.refl _ _,hHeld,Gd.no,Gd.no,Gd.no,Gd.no,Gd.no,Gd.no,Gd.no,Gd.no,Gd.no,Gd.no,Gd.no,Gd.no,Gd.no,Gd.no,Gd.no,Gd.no,Gd.no,Gd.no,Gd.no,Gd.no,Gd.no⟩
 ·intro OPS Ac0 Q0 hO hAs hA
  have RB13:Ac0.tmps.getD 13 undef=.agg #[.bool baa,.slice Baa maa daa]:=(hA 13 undef).trans (by kernel_rfl)
  have RB15:Ac0.tmps.getD 15 undef=.agg #[.bool bab,.slice Bab mab dab]:=(hA 15 undef).trans (by kernel_rfl)
  have hsz:Ac0.tmps.size=28:=hAs.trans (by kernel_rfl)
  clear hAs hA
  refine⟨?_,?_⟩
  ·rintro l a w' ⟨fl1,fl3,fl4,fl5,fl6,fl7,fl8,fl9,fl10,fl11,B4,m4,d4,B5,m5,d5,B6,m6,d6,B7,m7,d7,ad8,ad9,rfl,-⟩ hr
   obtain rfl:fl1=true:=als 1 hr hO
   obtain rfl:fl3=true:=als 3 hr hO
   obtain rfl:fl4=true:=als 4 hr hO
   obtain rfl:fl5=true:=als 5 hr hO
   obtain rfl:fl6=true:=als 6 hr hO
   obtain rfl:fl7=true:=als 7 hr hO
   obtain rfl:fl8=true:=als 8 hr hO
   obtain rfl:fl9=true:=als 9 hr hO
   obtain rfl:fl10=true:=als 10 hr hO
   obtain rfl:fl11=true:=als 11 hr hO
   rfl
  ·rintro l a w' i ⟨fl1,fl3,fl4,fl5,fl6,fl7,fl8,fl9,fl10,fl11,B4,m4,d4,B5,m5,d5,B6,m6,d6,B7,m7,d7,ad8,ad9,rfl,HKp,hBi,qf1,qf3,qf4,qf5,qf6,qf7,qf8,qf9,qn8_9,qd3_1,qd4_1,qd4_3,qd5_4,qd6_5,qd7_5,qd10_4,qd10_6,qd10_8,qd11_7,qd11_9,qd11_10⟩ hne hi
   have hlt:i<12:=by have:=zdZ hi;rw [hO] at this;exact this
   rcases (show i=0\/i=1\/i=2\/i=3\/i=4\/i=5\/i=6\/i=7\/i=8\/i=9\/i=10\/i=11 by omega) with rfl|rfl|rfl|rfl|rfl|rfl|rfl|rfl|rfl|rfl|rfl|rfl
   ·cases (zak hi:true=false)
   ·obtain rfl:fl1=false:=zak hi
    obtain rfl:fl3=false:=Gd.off qd3_1.out
    obtain rfl:fl4=false:=Gd.off qd4_1.out
    obtain rfl:fl5=false:=Gd.off qd5_4.out
    obtain rfl:fl6=false:=Gd.off qd6_5.out
    obtain rfl:fl7=false:=Gd.off qd7_5.out
    obtain rfl:fl10=false:=Gd.off qd10_4.out
    obtain rfl:fl11=false:=Gd.off qd11_7.out
    have rd13:=HKp.get 13 (by decide) RB13
    refine wog hO (λK' hK=>?_)
    go_simp
    refine(C0.out w' hBi.out).mono ?_
    rintro e w2 ⟨nB4,nm4,nd4,rfl,nhw4,hb⟩
    exact hK.out _ _ ⟨zab hBi.out hb,true,false,false,false,false,false,fl8,fl9,false,false,nB4,nm4,nd4,B5,m5,d5,B6,m6,d6,B7,m7,d7,ad8,ad9,by rfl,HKp.put (by decide) _,zab hBi.out hb,Gd.yes ⟨zaZ (HKp.lt (by rw [hsz];decide)) _,nhw4⟩,Gd.no,Gd.no,Gd.no,Gd.no,Gd.no,kq qf8.out λh=>⟨h.1,zaa hb h.2⟩,kq qf9.out λh=>⟨h.1,zaa hb h.2⟩,qn8_9,Gd.no,Gd.no,Gd.no,Gd.no,Gd.no,Gd.no,Gd.no,Gd.no,Gd.no,Gd.no,Gd.no,Gd.no⟩
   ·cases (zak hi:true=false)
   ·obtain rfl:fl3=false:=zak hi
    obtain rfl:fl1=true:=rdp 1 1 hi hO
    obtain rfl:fl4=false:=Gd.off qd4_3.out
    obtain rfl:fl5=false:=Gd.off qd5_4.out
    obtain rfl:fl6=false:=Gd.off qd6_5.out
    obtain rfl:fl7=false:=Gd.off qd7_5.out
    obtain rfl:fl10=false:=Gd.off qd10_4.out
    obtain rfl:fl11=false:=Gd.off qd11_7.out
    have rd15:=HKp.get 15 (by decide) RB15
    refine wog hO (λK' hK=>?_)
    go_simp
    refine(C1.out w' hBi.out).mono ?_
    rintro e w2 ⟨nB5,nm5,nd5,rfl,nhw5,hb⟩
    exact hK.out _ _ ⟨zab hBi.out hb,true,true,false,false,false,false,fl8,fl9,false,false,B4,m4,d4,nB5,nm5,nd5,B6,m6,d6,B7,m7,d7,ad8,ad9,by rfl,HKp.put (by decide) _,zab hBi.out hb,kq qf1.out λh=>(h).below hb,Gd.yes ⟨zaZ (HKp.lt (by rw [hsz];decide)) _,nhw5⟩,Gd.no,Gd.no,Gd.no,Gd.no,kq qf8.out λh=>⟨h.1,zaa hb h.2⟩,kq qf9.out λh=>⟨h.1,zaa hb h.2⟩,qn8_9,λ_=>rfl,Gd.no,Gd.no,Gd.no,Gd.no,Gd.no,Gd.no,Gd.no,Gd.no,Gd.no,Gd.no,Gd.no⟩
   ·obtain rfl:fl4=false:=zak hi
    obtain rfl:fl1=true:=rdp 1 0 hi hO
    obtain rfl:fl3=true:=rdp 3 1 hi hO
    obtain rfl:fl5=false:=Gd.off qd5_4.out
    obtain rfl:fl6=false:=Gd.off qd6_5.out
    obtain rfl:fl7=false:=Gd.off qd7_5.out
    obtain rfl:fl10=false:=Gd.off qd10_4.out
    obtain rfl:fl11=false:=Gd.off qd11_7.out
    have rd14:=qf1.out.get.1
    have rd16:=qf3.out.get.1
    have hw4:=qf1.out.get.2
    have hw5:=qf3.out.get.2
    refine wog hO (λK' hK=>?_)
    go_simp
    refine(C2.out w' hBi.out _ _ _ hw4 _ _ _ hw5).mono ?_
    rintro e w2 ⟨nB6,nm6,nd6,nB7,nm7,nd7,rfl,nhw6,nhw7,hb⟩
    exact hK.out _ _ ⟨zab hBi.out hb,true,true,true,false,false,false,fl8,fl9,false,false,B4,m4,d4,B5,m5,d5,nB6,nm6,nd6,nB7,nm7,nd7,ad8,ad9,by rfl,HKp.put (by decide) _,zab hBi.out hb,kq qf1.out λh=>(h).below hb,kq qf3.out λh=>(h).below hb,Gd.yes ⟨zaZ (HKp.lt (by rw [hsz];decide)) _,nhw6,nhw7⟩,Gd.no,Gd.no,Gd.no,kq qf8.out λh=>⟨h.1,zaa hb h.2⟩,kq qf9.out λh=>⟨h.1,zaa hb h.2⟩,qn8_9,λ_=>rfl,λ_=>rfl,λ_=>rfl,Gd.no,Gd.no,Gd.no,Gd.no,Gd.no,Gd.no,Gd.no,Gd.no,Gd.no⟩
   ·obtain rfl:fl5=false:=zak hi
    obtain rfl:fl4=true:=rdp 4 0 hi hO
    obtain rfl:fl1=true:=qd4_1.out.get
    obtain rfl:fl3=true:=qd4_3.out.get
    obtain rfl:fl6=false:=Gd.off qd6_5.out
    obtain rfl:fl7=false:=Gd.off qd7_5.out
    obtain rfl:fl10=false:=Gd.off qd10_6.out
    obtain rfl:fl11=false:=Gd.off qd11_7.out
    have rd17:=qf4.out.get.1
    refine wog hO (λK' hK=>?_)
    refine zeM (x:=17) (Or.inl rfl) rd17 ?_
    exact hK.out _ _ ⟨hBi.out,true,true,true,true,false,false,fl8,fl9,false,false,B4,m4,d4,B5,m5,d5,B6,m6,d6,B7,m7,d7,ad8,ad9,by rfl,HKp.put (by decide) _,hBi.out,kq qf1.out λh=>(h),kq qf3.out λh=>(h),kq qf4.out λh=>⟨(h.1),(h.2)⟩,Gd.yes (zaZ (HKp.lt (by rw [hsz];decide)) _),Gd.no,Gd.no,kq qf8.out id,kq qf9.out id,qn8_9,λ_=>rfl,λ_=>rfl,λ_=>rfl,λ_=>rfl,Gd.no,Gd.no,Gd.no,Gd.no,Gd.no,Gd.no,Gd.no,Gd.no⟩
   ·obtain rfl:fl6=false:=zak hi
    obtain rfl:fl5=true:=rdp 5 0 hi hO
    obtain rfl:fl4=true:=qd5_4.out.get
    obtain rfl:fl1=true:=qd4_1.out.get
    obtain rfl:fl3=true:=qd4_3.out.get
    obtain rfl:fl10=false:=Gd.off qd10_6.out
    obtain rfl:fl11=false:=Gd.off qd11_10.out
    have rd12:=qf5.out.get
    refine wog hO (λK' hK=>?_)
    refine zbu (x:=12) (k:=0) rfl rd12 rfl ?_
    exact hK.out _ _ ⟨hBi.out,true,true,true,true,true,fl7,fl8,fl9,false,false,B4,m4,d4,B5,m5,d5,B6,m6,d6,B7,m7,d7,ad8,ad9,by rfl,HKp.put (by decide) _,hBi.out,kq qf1.out λh=>(h),kq qf3.out λh=>(h),kq qf4.out λh=>⟨(h.1),(h.2)⟩,kq0 qf5.out,Gd.yes (zaZ (HKp.lt (by rw [hsz];decide)) _),kq0 qf7.out,kq qf8.out id,kq qf9.out id,qn8_9,λ_=>rfl,λ_=>rfl,λ_=>rfl,λ_=>rfl,λ_=>rfl,λ_=>rfl,Gd.no,Gd.no,Gd.no,Gd.no,Gd.no,Gd.no⟩
   ·obtain rfl:fl7=false:=zak hi
    obtain rfl:fl5=true:=rdp 5 0 hi hO
    obtain rfl:fl4=true:=qd5_4.out.get
    obtain rfl:fl1=true:=qd4_1.out.get
    obtain rfl:fl3=true:=qd4_3.out.get
    obtain rfl:fl11=false:=Gd.off qd11_7.out
    have rd12:=qf5.out.get
    refine wog hO (λK' hK=>?_)
    refine zbu (x:=12) (k:=1) rfl rd12 rfl ?_
    exact hK.out _ _ ⟨hBi.out,true,true,true,true,fl6,true,fl8,fl9,fl10,false,B4,m4,d4,B5,m5,d5,B6,m6,d6,B7,m7,d7,ad8,ad9,by rfl,HKp.put (by decide) _,hBi.out,kq qf1.out λh=>(h),kq qf3.out λh=>(h),kq qf4.out λh=>⟨(h.1),(h.2)⟩,kq0 qf5.out,kq0 qf6.out,Gd.yes (zaZ (HKp.lt (by rw [hsz];decide)) _),kq qf8.out id,kq qf9.out id,qn8_9,λ_=>rfl,λ_=>rfl,λ_=>rfl,λ_=>rfl,λ_=>rfl,λ_=>rfl,λ_=>rfl,qd10_6,qd10_8,Gd.no,Gd.no,Gd.no⟩
   ·obtain rfl:fl8=false:=zak hi
    obtain rfl:fl10=false:=Gd.off qd10_8.out
    obtain rfl:fl11=false:=Gd.off qd11_10.out
    refine wog hO (λK' hK=>?_)
    go_simp
    have hb:=zcd w' (.cells #[.slice none 0 0] 37)
    exact hK.out _ _ ⟨zab hBi.out hb,fl1,fl3,fl4,fl5,fl6,fl7,true,fl9,false,false,B4,m4,d4,B5,m5,d5,B6,m6,d6,B7,m7,d7,w'.heap.size,ad9,by rfl,HKp.put (by decide) _,zab hBi.out hb,kq qf1.out λh=>(h).below hb,kq qf3.out λh=>(h).below hb,kq qf4.out λh=>⟨(h.1).below hb,(h.2).below hb⟩,kq0 qf5.out,kq0 qf6.out,kq0 qf7.out,Gd.yes ⟨zaZ (HKp.lt (by rw [hsz];decide)) _,hBi.out.size,Blk.new w' _ _⟩,kq qf9.out λh=>⟨h.1,zaa hb h.2⟩,Gd.yes (qf9.out.mono λh=>by have:=Blk.lt h.2.2;omega),qd3_1,qd4_1,qd4_3,qd5_4,qd6_5,qd7_5,Gd.no,Gd.no,Gd.no,Gd.no,Gd.no,Gd.no⟩
   ·obtain rfl:fl9=false:=zak hi
    obtain rfl:fl11=false:=Gd.off qd11_9.out
    refine wog hO (λK' hK=>?_)
    go_simp
    have hb:=zcd w' (.cells #[.slice none 0 0] 37)
    exact hK.out _ _ ⟨zab hBi.out hb,fl1,fl3,fl4,fl5,fl6,fl7,fl8,true,fl10,false,B4,m4,d4,B5,m5,d5,B6,m6,d6,B7,m7,d7,ad8,w'.heap.size,by rfl,HKp.put (by decide) _,zab hBi.out hb,kq qf1.out λh=>(h).below hb,kq qf3.out λh=>(h).below hb,kq qf4.out λh=>⟨(h.1).below hb,(h.2).below hb⟩,kq0 qf5.out,kq0 qf6.out,kq0 qf7.out,kq qf8.out λh=>⟨h.1,zaa hb h.2⟩,Gd.yes ⟨zaZ (HKp.lt (by rw [hsz];decide)) _,hBi.out.size,Blk.new w' _ _⟩,qf8.out.mono λh=>Gd.yes (by have:=Blk.lt h.2.2;omega),qd3_1,qd4_1,qd4_3,qd5_4,qd6_5,qd7_5,qd10_4,qd10_6,qd10_8,Gd.no,Gd.no,Gd.no⟩
   ·obtain rfl:fl10=false:=zak hi
    obtain rfl:fl1=true:=rdp 1 4 hi hO
    obtain rfl:fl3=true:=rdp 3 6 hi hO
    obtain rfl:fl4=true:=rdp 4 2 hi hO
    obtain rfl:fl5=true:=rdp 5 8 hi hO
    obtain rfl:fl6=true:=rdp 6 1 hi hO
    obtain rfl:fl8=true:=rdp 8 0 hi hO
    obtain rfl:fl9=true:=rdp 9 12 hi hO
    obtain rfl:fl11=false:=Gd.off qd11_10.out
    have rd6:=qf8.out.get.1
    have rd18:=qf6.out.get
    obtain⟨_,hg,hk⟩:=qf8.out.get
    have hk:Blk w' ad8 37 #[.slice none 0 0]:=hk
    obtain⟨sc0,sf0⟩:=st1 hk
    have hj0:=sn1 hk (.slice B6 m6 d6)
    have hBn:=bl1 (.slice B6 m6 d6) hg hBi.out
    refine wog hO (λK' hK=>?_)
    go_simp
    exact hK.out _ _ ⟨hBn,true,true,true,true,true,fl7,true,true,true,false,B4,m4,d4,B5,m5,d5,B6,m6,d6,B7,m7,d7,ad8,ad9,by rfl,HKp,hBn,qf1.out.mono λh=>⟨h.1,zat (h.2) hk zcv (zcg _ _ _)⟩,qf3.out.mono λh=>⟨h.1,zat (h.2) hk zcv (zcg _ _ _)⟩,qf4.out.mono λh=>⟨h.1,zat (h.2.1) hk zcv (zcg _ _ _),zat (h.2.2) hk zcv (zcg _ _ _)⟩,qf5.out.mono λh=>h,qf6.out.mono λh=>h,qf7.out.mono λh=>h,qf8.out.mono λh=>⟨h.1,h.2.1,hj0⟩,λhf9=>(λh=>⟨h.1,h.2.1,Blk.far (p:=⟨ad8,0,none⟩) (h.2.2) (Ne.symm (qn8_9.out rfl hf9)) (.slice B6 m6 d6)⟩) (qf9.out hf9),qn8_9,λ_=>rfl,λ_=>rfl,λ_=>rfl,λ_=>rfl,λ_=>rfl,λ_=>rfl,λ_=>rfl,λ_=>rfl,λ_=>rfl,Gd.no,Gd.no,Gd.no⟩
   ·obtain rfl:fl11=false:=zak hi
    obtain rfl:fl1=true:=rdp 1 4 hi hO
    obtain rfl:fl3=true:=rdp 3 6 hi hO
    obtain rfl:fl4=true:=rdp 4 7 hi hO
    obtain rfl:fl5=true:=rdp 5 8 hi hO
    obtain rfl:fl6=true:=rdp 6 9 hi hO
    obtain rfl:fl7=true:=rdp 7 1 hi hO
    obtain rfl:fl8=true:=rdp 8 11 hi hO
    obtain rfl:fl9=true:=rdp 9 0 hi hO
    obtain rfl:fl10=true:=rdp 10 2 hi hO
    have rd7:=qf9.out.get.1
    have rd19:=qf7.out.get
    obtain⟨_,hg,hk⟩:=qf9.out.get
    have hk:Blk w' ad9 37 #[.slice none 0 0]:=hk
    obtain⟨sc0,sf0⟩:=st1 hk
    have hj0:=sn1 hk (.slice B7 m7 d7)
    have hBn:=bl1 (.slice B7 m7 d7) hg hBi.out
    refine wog hO (λK' hK=>?_)
    go_simp
    exact hK.out _ _ ⟨hBn,true,true,true,true,true,true,true,true,true,true,B4,m4,d4,B5,m5,d5,B6,m6,d6,B7,m7,d7,ad8,ad9,by rfl,HKp,hBn,qf1.out.mono λh=>⟨h.1,zat (h.2) hk zcv (zcg _ _ _)⟩,qf3.out.mono λh=>⟨h.1,zat (h.2) hk zcv (zcg _ _ _)⟩,qf4.out.mono λh=>⟨h.1,zat (h.2.1) hk zcv (zcg _ _ _),zat (h.2.2) hk zcv (zcg _ _ _)⟩,qf5.out.mono λh=>h,qf6.out.mono λh=>h,qf7.out.mono λh=>h,λhf9=>(λh=>⟨h.1,h.2.1,Blk.far (p:=⟨ad9,0,none⟩) (h.2.2) (qn8_9.out hf9 rfl) (.slice B7 m7 d7)⟩) (qf8.out hf9),qf9.out.mono λh=>⟨h.1,h.2.1,hj0⟩,qn8_9,λ_=>rfl,λ_=>rfl,λ_=>rfl,λ_=>rfl,λ_=>rfl,λ_=>rfl,λ_=>rfl,λ_=>rfl,λ_=>rfl,λ_=>rfl,λ_=>rfl,λ_=>rfl⟩
 rintro a wm3 ⟨fl1,fl3,fl4,fl5,fl6,fl7,fl8,fl9,fl10,fl11,B4,m4,d4,B5,m5,d5,B6,m6,d6,B7,m7,d7,ad8,ad9,hl,HKp,hBi,qf1,qf3,qf4,qf5,qf6,qf7,qf8,qf9,qn8_9,qd3_1,qd4_1,qd4_3,qd5_4,qd6_5,qd7_5,qd10_4,qd10_6,qd10_8,qd11_7,qd11_9,qd11_10⟩
 have xx1:fl1=true:=gdl 1 hl
 subst xx1
 have xx3:fl3=true:=gdl 3 hl
 subst xx3
 have xx4:fl4=true:=gdl 4 hl
 subst xx4
 have xx5:fl5=true:=gdl 5 hl
 subst xx5
 have xx6:fl6=true:=gdl 6 hl
 subst xx6
 have xx7:fl7=true:=gdl 7 hl
 subst xx7
 have xx8:fl8=true:=gdl 8 hl
 subst xx8
 have xx9:fl9=true:=gdl 9 hl
 subst xx9
 have xx10:fl10=true:=gdl 10 hl
 subst xx10
 have xx11:fl11=true:=gdl 11 hl
 subst xx11
 obtain⟨rv1,hw4⟩:=qf1.out.get
 obtain⟨rv3,hw5⟩:=qf3.out.get
 obtain⟨rv4,hw6,hw7⟩:=qf4.out.get
 have rv5:=qf5.out.get
 have rv6:=qf6.out.get
 have rv7:=qf7.out.get
 obtain⟨rv8,hg8,hk8⟩:=qf8.out.get
 obtain⟨rv9,hg9,hk9⟩:=qf9.out.get
 obtain rfl:=HKp.eq [(14,.agg #[.slice B4 m4 d4]),(16,.agg #[.slice B5 m5 d5]),(17,.tuple #[.agg #[.slice B6 m6 d6],.agg #[.slice B7 m7 d7]]),(12,.tuple #[.agg #[.slice B6 m6 d6],.agg #[.slice B7 m7 d7]]),(18,.agg #[.slice B6 m6 d6]),(19,.agg #[.slice B7 m7 d7]),(6,.pointer (some ⟨ad8,0,none⟩)),(7,.pointer (some ⟨ad9,0,none⟩))] rfl (by
  intro p hp
  simp only [List.mem_cons,List.not_mem_nil,or_false] at hp
  rcases hp with rfl|rfl|rfl|rfl|rfl|rfl|rfl|rfl
  ·exact rv1
  ·exact rv3
  ·exact rv4
  ·exact rv5
  ·exact rv6
  ·exact rv7
  ·exact rv8
  ·exact rv9)
 have hBv:=hBi.out
 clear hl hBi HKp qf1 qf3 qf4 qf5 qf6 qf7 qf8 qf9 qn8_9 qd3_1 qd4_1 qd4_3 qd5_4 qd6_5 qd7_5 qd10_4 qd10_6 qd10_8 qd11_7 qd11_9 qd11_10 rv1 rv3 rv4 rv5 rv6 rv7 rv8 rv9
 have hk8:Blk wm3 ad8 37 #[.slice B6 m6 d6]:=hk8
 have hk9:Blk wm3 ad9 37 #[.slice B7 m7 d7]:=hk9
 rw [show due #[true,true,true,true,true,true,true,true,true,true,true,true]=0 from rfl]
 simp only [zdp,List.foldl,Act.put,List.setIfInBounds_toArray,List.set_cons_zero,List.set_cons_succ]
 refine wpAnyH_done (by kernel_rfl) ?_ _
 refine NoPanic.normal ?_
 have hB:=zab hB hBv
 have g1:=zac hBv g1
 have e1:=zac hBv e1
 have g2:=zac hBv g2
 have e2:=zac hBv e2
 have k3:=zaa hBv k3
 obtain⟨ad8_8,hga⟩:∃x,x=ad8:=⟨_,rfl⟩
 subst hga
 have g8:=hk8.c1
 obtain⟨ad9_9,hga⟩:∃x,x=ad9:=⟨_,rfl⟩
 subst hga
 have g9:=hk9.c1
 have HN6:=lh9 hw6
 have HN7:=lh9 hw7
 clear hBv hk8 hk9 hw4 hw5 hw6 hw7 GG
 clear C0 C1 C2
 go_wp2_with fail
 have C0:=lh9 (λw' (h:Below wm3.heap.size wm3 w')=>zay (HSP.out) (HIC.out.belowI (p) baa Baa maa daa w' (HT.out _ (zab hB h)) (HNaa.out _ (zab hB h)) (szi HZaa (HNaa.out _ hB))))
 have C1:=lh9 (λw' (h:Below wm3.heap.size wm3 w')=>zay (HSQ.out) (HIC.out.belowI (q) bab Bab mab dab w' (HT.out _ (zab hB h)) (HNab.out _ (zab hB h)) (szi HZab (HNab.out _ hB))))
 have C2:=lh9 (λw' (h:Below wm3.heap.size wm3 w')=>zdY (Rat.divInt p q) (!(sp==sq)) (p.natAbs / Nat.gcd p.natAbs q.natAbs) (q.natAbs / Nat.gcd p.natAbs q.natAbs) B6 m6 d6 B7 m7 d7 w' (HT.out _ (zab hB h)) (HN6.out.below h) (HN7.out.below h) (szw HZ6 HN6.out) (szw HZ7 HN7.out) (HMP.out.1) (HMP.out.2))
 have hBw:=(Below.refl wm3.heap.size wm3).drew
 refine rg (csc g1 (csc e1 (csc g2 (csc e2 (csc g8 (csc g9 csn)))))) (λhHeld=>?_)
 refine tk 0 ?_
 refine tk 2 ?_
 refine tk 5 ?_
 refine tk 6 ?_
 refine rc 1 (λK hK=>?_)
 go_simp
 go_at_call 107;(with_reducible refine(C0.out _ hBw).mono ?_);rintro e wa4 ⟨rfl,hb⟩;have hBw:=zab hBw hb;refine hK.out _ _ (Cs.below hHeld hb) (λhHeld=>?_);clear hK K hb
 try simp only [sb9]
 refine rc 3 (λK hK=>?_)
 go_simp
 go_at_call 107;(with_reducible refine(C1.out _ hBw).mono ?_);rintro e wa5 ⟨rfl,hb⟩;have hBw:=zab hBw hb;refine hK.out _ _ (Cs.below hHeld hb) (λhHeld=>?_);clear hK K hb
 try simp only [sb9]
 refine tk 4 ?_
 refine rc 7 (λK hK=>?_)
 go_simp
 go_at_call 106;(with_reducible refine(C2.out _ hBw).mono ?_);rintro e wa6 ⟨b10,B10,m10,d10,E10,u10,v10,rfl,hw10,hb⟩;have hBw:=zab hBw hb;refine hK.out _ _ (Cs.below hHeld hb) (λhHeld=>?_);clear hK K hb
 try simp only [sb9]
 obtain⟨sc0,sf0,sc1,sf1,sc2,sf2⟩:=st3 (zaa hBw k3) (.bool b10) (.slice B10 m10 d10)
 refine rc 8 (λK hK=>?_)
 go_simp
 refine hK.out _ _ (cs3 (.bool b10) (.slice B10 m10 d10) (.slice E10 u10 v10) hHeld) (λhHeld=>?_);clear hK K
 try simp only [sb9]
 refine tk 9 ?_
 refine rdn ?_
 have hB:=zab hB hBw
 have g1:=zac hBw g1
 have e1:=zac hBw e1
 have g2:=zac hBw g2
 have e2:=zac hBw e2
 have k3:=zaa hBw k3
 have g8:=zac hBw g8
 have g9:=zac hBw g9
 have HN10:=lh9 hw10
 clear hBw hHeld hw10 C0 C1 C2
 obtain⟨r0,r1,r2⟩:=(sn3 k3 (.bool b10) (.slice B10 m10 d10) (.slice E10 u10 v10)).c3
 have HG:=lh9 (gb3 true (HN10.out) k3 hB (by omega))
 go_wp2
 refine bodyPost_ret (v:=.tuple #[.agg #[.bool b10,.slice B10 m10 d10,.slice E10 u10 v10],.bool true]) (by simp [results,Tryz.results175,go_sem,r0,r1,r2]) rfl ?_
 exact HG.out
theorem rat_of (p:Int)(q:Int)(w:World)(hT:zai w)(hp1: -9223372036854775808<=p)(hp2:p<=9223372036854775807)(hq1: -9223372036854775808<=q)(hq2:q<=9223372036854775807)(h0:q≠0):
  Calls Tryz.prog 120 #[.int .i64 p,.int .i64 q] w (zbD w (Rat.divInt p q) true):=by
 have HIC:=lh9 (zbV (T:=zai))
 have HT:=lh9 (λw' (hb:Below w.heap.size w w')=>hT.on hb)
 have HTB:=HT
 obtain⟨K,hKe⟩:∃K,67108864=K:=⟨_,rfl⟩
 have hKK:K<=67108864:=by omega
 have hK0:0<K:=by omega
 have H0:=lh9 h0
 clear hT hKe h0
 go_enter Tryz.func120,Tryz.ntmps120
 have hB:=Below.refl w.heap.size w
 obtain⟨bx1,bx2,bz⟩:=zav w 41 #[.bool false,.slice none 0 0,.slice none 0 0]
 have hB:=zab hB bx1
 have k1:=bx2
 clear bx1 bx2 bz
 go_wp2_with fail
 generalize w.alloc (.cells #[.bool false,.slice none 0 0,.slice none 0 0] 41)=W1 at*
 have HZ2:Hid (Sz (1) (p).natAbs):=(by show Int.natAbs p<18446744073709551616^1;have e1: -9223372036854775808<=p:=hp1;have e2:p<=9223372036854775807:=hp2;omega)
 (with_reducible refine(HIC.out.of p _ (HT.out _ hB) hp1 hp2).mono ?_)
 rintro e wc2 ⟨b2,B2,m2,d2,rfl,hw2,hb⟩
 have hB:=zab hB hb
 have k1:=zaa hb k1
 have HN2:=lh9 hw2
 clear hb hw2
 go_wp2_with fail
 have HZ3:Hid (Sz (1) (q).natAbs):=(by show Int.natAbs q<18446744073709551616^1;have e1: -9223372036854775808<=q:=hq1;have e2:q<=9223372036854775807:=hq2;omega)
 (with_reducible refine(HIC.out.of q _ (HT.out _ hB) hq1 hq2).mono ?_)
 rintro e wc3 ⟨b3,B3,m3,d3,rfl,hw3,hb⟩
 have hB:=zab hB hb
 have k1:=zaa hb k1
 have HN2:=lh9 (HN2.out.below hb)
 have HN3:=lh9 hw3
 clear hb hw3
 go_wp2_with fail
 (with_reducible refine(zpI (p) (q) b2 B2 m2 d2 b3 B3 m3 d3 _ (HT.out _ hB) HN2.out HN3.out (szi HZ2 HN2.out) (szi HZ3 HN3.out) H0.out).mono ?_)
 rintro e wc4 ⟨b4,B4,m4,d4,E4,u4,v4,rfl,hw4,hb⟩
 have hB:=zab hB hb
 have k1:=zaa hb k1
 have HN4:=lh9 hw4
 clear hb hw4
 obtain⟨sc0,sf0,sc1,sf1,sc2,sf2⟩:=st3 k1 (.bool b4) (.slice B4 m4 d4)
 obtain⟨r0,r1,r2⟩:=(sn3 k1 (.bool b4) (.slice B4 m4 d4) (.slice E4 u4 v4)).c3
 have HG:=lh9 (gb3 true (HN4.out) k1 hB (by omega))
 go_wp2
 refine bodyPost_ret (v:=.tuple #[.agg #[.bool b4,.slice B4 m4 d4,.slice E4 u4 v4],.bool true]) (by simp [results,Tryz.results120,go_sem,r0,r1,r2]) rfl ?_
 exact HG.out
theorem zqS (p:Int)(q:Int)(w:World)(hT:zai w)(hp1: -9223372036854775808<=p)(hp2:p<=9223372036854775807)(hq1: -9223372036854775808<=q)(hq2:q<=9223372036854775807)(h0:q=0):
  Calls Tryz.prog 120 #[.int .i64 p,.int .i64 q] w (zbD w 0 false):=by
 have HIC:=lh9 (zbV (T:=zai))
 have HT:=lh9 (λw' (hb:Below w.heap.size w w')=>hT.on hb)
 have HTB:=HT
 obtain⟨K,hKe⟩:∃K,67108864=K:=⟨_,rfl⟩
 have hKK:K<=67108864:=by omega
 have hK0:0<K:=by omega
 have H0:=lh9 h0
 clear hT hKe h0
 go_enter Tryz.func120,Tryz.ntmps120
 have hB:=Below.refl w.heap.size w
 obtain⟨bx1,bx2,bz⟩:=zav w 41 #[.bool false,.slice none 0 0,.slice none 0 0]
 have hB:=zab hB bx1
 have k1:=bx2
 clear bx1 bx2 bz
 go_wp2_with fail
 generalize w.alloc (.cells #[.bool false,.slice none 0 0,.slice none 0 0] 41)=W1 at*
 have HZ2:Hid (Sz (1) (p).natAbs):=(by show Int.natAbs p<18446744073709551616^1;have e1: -9223372036854775808<=p:=hp1;have e2:p<=9223372036854775807:=hp2;omega)
 (with_reducible refine(HIC.out.of p _ (HT.out _ hB) hp1 hp2).mono ?_)
 rintro e wc2 ⟨b2,B2,m2,d2,rfl,hw2,hb⟩
 have hB:=zab hB hb
 have k1:=zaa hb k1
 have HN2:=lh9 hw2
 clear hb hw2
 go_wp2_with fail
 have HZ3:Hid (Sz (1) (q).natAbs):=(by show Int.natAbs q<18446744073709551616^1;have e1: -9223372036854775808<=q:=hq1;have e2:q<=9223372036854775807:=hq2;omega)
 (with_reducible refine(HIC.out.of q _ (HT.out _ hB) hq1 hq2).mono ?_)
 rintro e wc3 ⟨b3,B3,m3,d3,rfl,hw3,hb⟩
 have hB:=zab hB hb
 have k1:=zaa hb k1
 have HN2:=lh9 (HN2.out.below hb)
 have HN3:=lh9 hw3
 clear hb hw3
 go_wp2_with fail
 (with_reducible refine(zjQ (p) (q) b2 B2 m2 d2 b3 B3 m3 d3 _ (HT.out _ hB) HN2.out HN3.out (szi HZ2 HN2.out) (szi HZ3 HN3.out) H0.out).mono ?_)
 rintro e wc4 ⟨b4,B4,m4,d4,E4,u4,v4,rfl,hw4,hb⟩
 have hB:=zab hB hb
 have k1:=zaa hb k1
 have HN4:=lh9 hw4
 clear hb hw4
 obtain⟨sc0,sf0,sc1,sf1,sc2,sf2⟩:=st3 k1 (.bool b4) (.slice B4 m4 d4)
 obtain⟨r0,r1,r2⟩:=(sn3 k1 (.bool b4) (.slice B4 m4 d4) (.slice E4 u4 v4)).c3
 have HG:=lh9 (gb3 false (HN4.out) k1 hB (by omega))
 go_wp2
 refine bodyPost_ret (v:=.tuple #[.agg #[.bool b4,.slice B4 m4 d4,.slice E4 u4 v4],.bool false]) (by simp [results,Tryz.results120,go_sem,r0,r1,r2]) rfl ?_
 exact HG.out
theorem ziP (r:Rat)(baa:Bool)(Baa:oA9)(maa daa:Nat)(Eaa:oA9)(uaa vaa:Nat)(w:World)(hT:zai w)(haa:zah w r baa Baa maa daa Eaa uaa vaa)(qaa:zaT maa uaa):
  Calls Tryz.prog 55 #[.agg #[.bool baa,.slice Baa maa daa,.slice Eaa uaa vaa]] w (zaH w (-r)):=by
 have HIC:=lh9 (zbV (T:=zai))
 have HT:=lh9 (λw' (hb:Below w.heap.size w w')=>hT.on hb)
 have HTB:=HT
 obtain⟨K,hKe⟩:∃K,67108864=K:=⟨_,rfl⟩
 have hKK:K<=67108864:=by omega
 have hK0:0<K:=by omega
 have HMP:=lh9 (zqH r)
 obtain⟨sr,hsr⟩:∃s,decide (r.num<0)=s:=⟨_,rfl⟩
 rw [hsr] at HMP
 have HSR:=lh9 hsr
 clear hsr
 have HNaa:=lh9 (λw' (b:Below w.heap.size w w')=>haa.below b)
 obtain⟨xaa,hxaa,hxwaa⟩:=haa.2
 have HZaa:Hid (SzQ K r):=zaM haa qaa hKe
 have HZaap:Hid (Sz K r.num.natAbs):=HZaa.out.num
 have HZaaq:Hid (Sz K xaa):=zar HZaa.out.den hxaa
 have HNaap:=lh9 (λw' (b:Below w.heap.size w w')=>haa.1.below b)
 clear haa qaa hxaa hxwaa
 clear hT hKe
 go_enter Tryz.func55,Tryz.ntmps55
 have hB:=Below.refl w.heap.size w
 obtain⟨bx1,bx2,bx3,bz⟩:=zbI w 41 41 #[.bool baa,.slice Baa maa daa,.slice Eaa uaa vaa] #[.bool false,.slice none 0 0,.slice none 0 0]
 have hB:=zab hB bx1
 obtain⟨g1,e1,i1⟩:=bx2.c3
 have k2:=bx3
 clear bx1 bx2 bx3 bz
 go_wp2_with fail
 generalize (w.alloc (.cells #[.bool baa,.slice Baa maa daa,.slice Eaa uaa vaa] 41)).alloc (.cells #[.bool false,.slice none 0 0,.slice none 0 0] 41)=W1 at*
 have C0:=lh9 (λw' (h:Below W1.heap.size W1 w')=>zay (HSR.out) (HIC.out.belowI (r.num) baa Baa maa daa w' (HT.out _ (zab hB h)) (HNaap.out _ (zab hB h)) (szi HZaap (HNaap.out _ hB))))
 have HZ3:Hid (Sz (K) (r.num.natAbs)):=HZaap.out
 have C1:=lh9 (λw' (h:Below W1.heap.size W1 w')=>HIC.out.abs (r.num) baa Baa maa daa w' (HT.out _ (zab hB h)) (HNaap.out _ (zab hB h)) (szi HZaap (HNaap.out _ hB)))
 have HZ4:Hid (Sz (K) (r.den)):=SzQ.den HZaa.out
 have C2:=lh9 (λw' (h:Below W1.heap.size W1 w')=>zlY (r) baa Baa maa daa Eaa uaa vaa w' (HT.out _ (zab hB h)) (HNaa.out _ (zab hB h)) (szq HZaa (HNaa.out _ hB)))
 have C3:=lh9 (λw' (h:Below W1.heap.size W1 w') B3 m3 d3 (hw3:zad w' (r.num.natAbs) B3 m3 d3) B4 m4 d4 (hw4:zad w' (r.den) B4 m4 d4)=>zdY (-r) (!sr) (r.num.natAbs) (r.den) B3 m3 d3 B4 m4 d4 w' (HT.out _ (zab hB h)) hw3 hw4 (szw HZ3 hw3) (szw HZ4 hw4) (HMP.out.1) (HMP.out.2))
 have hBw:=(Below.refl W1.heap.size W1).drew
 refine rg (csc g1 (csc e1 (csc i1 csn))) (λhHeld=>?_)
 refine tk 0 ?_
 refine tk 1 ?_
 refine tk 4 ?_
 refine tk 5 ?_
 refine tk 7 ?_
 refine rc 2 (λK hK=>?_)
 go_simp
 go_at_call 107;(with_reducible refine(C0.out _ hBw).mono ?_);rintro e wa2 ⟨rfl,hb⟩;have hBw:=zab hBw hb;refine hK.out _ _ (Cs.below hHeld hb) (λhHeld=>?_);clear hK K hb
 try simp only [sb9]
 refine tk 3 ?_
 refine rc 6 (λK hK=>?_)
 go_simp
 go_at_call 104;(with_reducible refine(C1.out _ hBw).mono ?_);rintro e wa3 ⟨B3,m3,d3,rfl,hw3,hb⟩;have hBw:=zab hBw hb;refine hK.out _ _ (Cs.below hHeld hb) (λhHeld=>?_);clear hK K hb
 try simp only [sb9]
 refine rc 8 (λK hK=>?_)
 go_simp
 go_at_call 78;(with_reducible refine(C2.out _ hBw).mono ?_);rintro e wa4 ⟨B4,m4,d4,rfl,hw4,hb⟩;have hBw:=zab hBw hb;have hw3:=hw3.below hb;refine hK.out _ _ (Cs.below hHeld hb) (λhHeld=>?_);clear hK K hb
 try simp only [sb9]
 refine rc 9 (λK hK=>?_)
 go_simp
 go_at_call 106;(with_reducible refine(C3.out _ hBw _ _ _ hw3 _ _ _ hw4).mono ?_);rintro e wa5 ⟨b5,B5,m5,d5,E5,u5,v5,rfl,hw5,hb⟩;have hBw:=zab hBw hb;have hw3:=hw3.below hb;have hw4:=hw4.below hb;refine hK.out _ _ (Cs.below hHeld hb) (λhHeld=>?_);clear hK K hb
 try simp only [sb9]
 obtain⟨sc0,sf0,sc1,sf1,sc2,sf2⟩:=st3 (zaa hBw k2) (.bool b5) (.slice B5 m5 d5)
 refine rc 10 (λK hK=>?_)
 go_simp
 refine hK.out _ _ (cs3 (.bool b5) (.slice B5 m5 d5) (.slice E5 u5 v5) hHeld) (λhHeld=>?_);clear hK K
 try simp only [sb9]
 refine rdn ?_
 have hB:=zab hB hBw
 have g1:=zac hBw g1
 have e1:=zac hBw e1
 have i1:=zac hBw i1
 have k2:=zaa hBw k2
 have HN5:=lh9 hw5
 clear hBw hHeld hw3 hw4 hw5 C0 C1 C2 C3
 obtain⟨r0,r1,r2⟩:=(sn3 k2 (.bool b5) (.slice B5 m5 d5) (.slice E5 u5 v5)).c3
 have HG:=lh9 (gq3 (HN5.out) k2 hB (by omega))
 go_wp2
 refine bodyPost_ret (v:=.agg #[.bool b5,.slice B5 m5 d5,.slice E5 u5 v5]) (by simp [results,Tryz.results55,go_sem,r0,r1,r2]) rfl ?_
 exact HG.out
theorem ziO (r:Rat)(baa:Bool)(Baa:oA9)(maa daa:Nat)(Eaa:oA9)(uaa vaa:Nat)(w:World)(hT:zai w)(haa:zah w r baa Baa maa daa Eaa uaa vaa)(qaa:zaT maa uaa)(h0:r≠0):
  Calls Tryz.prog 123 #[.agg #[.bool baa,.slice Baa maa daa,.slice Eaa uaa vaa]] w (zbD w r⁻¹ true):=by
 have HIC:=lh9 (zbV (T:=zai))
 have HT:=lh9 (λw' (hb:Below w.heap.size w w')=>hT.on hb)
 have HTB:=HT
 obtain⟨K,hKe⟩:∃K,67108864=K:=⟨_,rfl⟩
 have hKK:K<=67108864:=by omega
 have hK0:0<K:=by omega
 have H0:=lh9 h0
 have HMP:=lh9 (zqF r h0)
 obtain⟨sr,hsr⟩:∃s,decide (r.num<0)=s:=⟨_,rfl⟩
 rw [hsr] at HMP
 have HSR:=lh9 hsr
 clear hsr
 have HNaa:=lh9 (λw' (b:Below w.heap.size w w')=>haa.below b)
 obtain⟨xaa,hxaa,hxwaa⟩:=haa.2
 have HZaa:Hid (SzQ K r):=zaM haa qaa hKe
 have HZaap:Hid (Sz K r.num.natAbs):=HZaa.out.num
 have HZaaq:Hid (Sz K xaa):=zar HZaa.out.den hxaa
 have HNaap:=lh9 (λw' (b:Below w.heap.size w w')=>haa.1.below b)
 clear haa qaa hxaa hxwaa
 clear hT hKe h0
 go_enter Tryz.func123,Tryz.ntmps123
 have hB:=Below.refl w.heap.size w
 obtain⟨bx1,bx2,bx3,bz⟩:=zbI w 41 41 #[.bool baa,.slice Baa maa daa,.slice Eaa uaa vaa] #[.bool false,.slice none 0 0,.slice none 0 0]
 have hB:=zab hB bx1
 obtain⟨g1,e1,i1⟩:=bx2.c3
 have k2:=bx3
 clear bx1 bx2 bx3 bz
 go_wp2_with fail
 generalize (w.alloc (.cells #[.bool baa,.slice Baa maa daa,.slice Eaa uaa vaa] 41)).alloc (.cells #[.bool false,.slice none 0 0,.slice none 0 0] 41)=W1 at*
 (with_reducible refine(zay (decide_eq_false H0.out) (zbb (r) baa Baa maa daa Eaa uaa vaa _ (HT.out _ hB) (HNaa.out _ hB) (szq HZaa (HNaa.out _ hB)))).mono ?_)
 rintro e wc2 ⟨rfl,hb⟩
 have hB:=zab hB hb
 have g1:=zac hb g1
 have e1:=zac hb e1
 have i1:=zac hb i1
 have k2:=zaa hb k2
 clear hb 
 go_wp2_with fail
 have C0:=lh9 (λw' (h:Below wc2.heap.size wc2 w')=>zay (HSR.out) (HIC.out.belowI (r.num) baa Baa maa daa w' (HT.out _ (zab hB h)) (HNaap.out _ (zab hB h)) (szi HZaap (HNaap.out _ hB))))
 have HZ3:Hid (Sz (K) (r.den)):=SzQ.den HZaa.out
 have C1:=lh9 (λw' (h:Below wc2.heap.size wc2 w')=>zlY (r) baa Baa maa daa Eaa uaa vaa w' (HT.out _ (zab hB h)) (HNaa.out _ (zab hB h)) (szq HZaa (HNaa.out _ hB)))
 have HZ4:Hid (Sz (K) (r.num.natAbs)):=HZaap.out
 have C2:=lh9 (λw' (h:Below wc2.heap.size wc2 w')=>HIC.out.abs (r.num) baa Baa maa daa w' (HT.out _ (zab hB h)) (HNaap.out _ (zab hB h)) (szi HZaap (HNaap.out _ hB)))
 have C3:=lh9 (λw' (h:Below wc2.heap.size wc2 w') B3 m3 d3 (hw3:zad w' (r.den) B3 m3 d3) B4 m4 d4 (hw4:zad w' (r.num.natAbs) B4 m4 d4)=>zdY (r⁻¹) sr (r.den) (r.num.natAbs) B3 m3 d3 B4 m4 d4 w' (HT.out _ (zab hB h)) hw3 hw4 (szw HZ3 hw3) (szw HZ4 hw4) (HMP.out.1) (HMP.out.2))
 have hBw:=(Below.refl wc2.heap.size wc2).drew
 refine rg (csc g1 (csc e1 (csc i1 csn))) (λhHeld=>?_)
 refine tk 0 ?_
 refine tk 1 ?_
 refine tk 3 ?_
 refine tk 5 ?_
 refine tk 6 ?_
 refine rc 2 (λK hK=>?_)
 go_simp
 go_at_call 107;(with_reducible refine(C0.out _ hBw).mono ?_);rintro e wa3 ⟨rfl,hb⟩;have hBw:=zab hBw hb;refine hK.out _ _ (Cs.below hHeld hb) (λhHeld=>?_);clear hK K hb
 try simp only [sb9]
 refine rc 4 (λK hK=>?_)
 go_simp
 go_at_call 78;(with_reducible refine(C1.out _ hBw).mono ?_);rintro e wa4 ⟨B3,m3,d3,rfl,hw3,hb⟩;have hBw:=zab hBw hb;refine hK.out _ _ (Cs.below hHeld hb) (λhHeld=>?_);clear hK K hb
 try simp only [sb9]
 refine rc 7 (λK hK=>?_)
 go_simp
 go_at_call 104;(with_reducible refine(C2.out _ hBw).mono ?_);rintro e wa5 ⟨B4,m4,d4,rfl,hw4,hb⟩;have hBw:=zab hBw hb;have hw3:=hw3.below hb;refine hK.out _ _ (Cs.below hHeld hb) (λhHeld=>?_);clear hK K hb
 try simp only [sb9]
 refine rc 8 (λK hK=>?_)
 go_simp
 go_at_call 106;(with_reducible refine(C3.out _ hBw _ _ _ hw3 _ _ _ hw4).mono ?_);rintro e wa6 ⟨b5,B5,m5,d5,E5,u5,v5,rfl,hw5,hb⟩;have hBw:=zab hBw hb;have hw3:=hw3.below hb;have hw4:=hw4.below hb;refine hK.out _ _ (Cs.below hHeld hb) (λhHeld=>?_);clear hK K hb
 try simp only [sb9]
 obtain⟨sc0,sf0,sc1,sf1,sc2,sf2⟩:=st3 (zaa hBw k2) (.bool b5) (.slice B5 m5 d5)
 refine rc 9 (λK hK=>?_)
 go_simp
 refine hK.out _ _ (cs3 (.bool b5) (.slice B5 m5 d5) (.slice E5 u5 v5) hHeld) (λhHeld=>?_);clear hK K
 try simp only [sb9]
 refine tk 10 ?_
 refine rdn ?_
 have hB:=zab hB hBw
 have g1:=zac hBw g1
 have e1:=zac hBw e1
 have i1:=zac hBw i1
 have k2:=zaa hBw k2
 have HN5:=lh9 hw5
 clear hBw hHeld hw3 hw4 hw5 C0 C1 C2 C3
 obtain⟨r0,r1,r2⟩:=(sn3 k2 (.bool b5) (.slice B5 m5 d5) (.slice E5 u5 v5)).c3
 have HG:=lh9 (gb3 true (HN5.out) k2 hB (by omega))
 go_wp2
 refine bodyPost_ret (v:=.tuple #[.agg #[.bool b5,.slice B5 m5 d5,.slice E5 u5 v5],.bool true]) (by simp [results,Tryz.results123,go_sem,r0,r1,r2]) rfl ?_
 exact HG.out
theorem zoQ (r:Rat)(baa:Bool)(Baa:oA9)(maa daa:Nat)(Eaa:oA9)(uaa vaa:Nat)(w:World)(hT:zai w)(haa:zah w r baa Baa maa daa Eaa uaa vaa)(qaa:zaT maa uaa)(h0:r=0):
  Calls Tryz.prog 123 #[.agg #[.bool baa,.slice Baa maa daa,.slice Eaa uaa vaa]] w (zbD w 0 false):=by
 have HT:=lh9 (λw' (hb:Below w.heap.size w w')=>hT.on hb)
 have HTB:=HT
 obtain⟨K,hKe⟩:∃K,67108864=K:=⟨_,rfl⟩
 have hKK:K<=67108864:=by omega
 have hK0:0<K:=by omega
 have H0:=lh9 h0
 have HNaa:=lh9 (λw' (b:Below w.heap.size w w')=>haa.below b)
 obtain⟨xaa,hxaa,hxwaa⟩:=haa.2
 have HZaa:Hid (SzQ K r):=zaM haa qaa hKe
 have HZaap:Hid (Sz K r.num.natAbs):=HZaa.out.num
 have HZaaq:Hid (Sz K xaa):=zar HZaa.out.den hxaa
 clear haa qaa hxaa hxwaa
 clear hT hKe h0
 go_enter Tryz.func123,Tryz.ntmps123
 have hB:=Below.refl w.heap.size w
 obtain⟨bx1,bx2,bx3,bz⟩:=zbI w 41 41 #[.bool baa,.slice Baa maa daa,.slice Eaa uaa vaa] #[.bool false,.slice none 0 0,.slice none 0 0]
 have hB:=zab hB bx1
 obtain⟨g1,e1,i1⟩:=bx2.c3
 have k2:=bx3
 clear bx1 bx2 bx3 bz
 go_wp2_with fail
 generalize (w.alloc (.cells #[.bool baa,.slice Baa maa daa,.slice Eaa uaa vaa] 41)).alloc (.cells #[.bool false,.slice none 0 0,.slice none 0 0] 41)=W1 at*
 (with_reducible refine(zay (decide_eq_true H0.out) (zbb (r) baa Baa maa daa Eaa uaa vaa _ (HT.out _ hB) (HNaa.out _ hB) (szq HZaa (HNaa.out _ hB)))).mono ?_)
 rintro e wc2 ⟨rfl,hb⟩
 have hB:=zab hB hb
 have g1:=zac hb g1
 have e1:=zac hb e1
 have i1:=zac hb i1
 have k2:=zaa hb k2
 clear hb 
 have HN3:=lh9 (zfR wc2)
 obtain⟨sc0,sf0,sc1,sf1,sc2,sf2⟩:=st3 k2 (.bool false) (.slice none 0 0)
 obtain⟨r0,r1,r2⟩:=(sn3 k2 (.bool false) (.slice none 0 0) (.slice none 0 0)).c3
 have HG:=lh9 (gb3 false (HN3.out) k2 hB (by omega))
 go_wp2
 refine bodyPost_ret (v:=.tuple #[.agg #[.bool false,.slice none 0 0,.slice none 0 0],.bool false]) (by simp [results,Tryz.results123,go_sem,r0,r1,r2]) rfl ?_
 exact HG.out
