/- What this claim leans on. -/
import Derived.Test.YtghpdeciaaagnaaGreatDoorIJ8Make
namespace Go.Proofs.YtghpdeciaaagnaaGreatDoor
open Go Go.RowKit
set_option maxHeartbeats 16000000
set_option maxRecDepth 100000
set_option linter.unusedVariables false
set_option linter.unusedSimpArgs false
theorem znz {K:Nat}{x y:Int}(h:Sz K x.natAbs)(h':Sz K y.natAbs):Sz (K+1) (x+y).natAbs:=(Sz.add h h').of_le (Int.natAbs_add_le x y)
theorem zir (r:Rat)(s:Rat)(baa:Bool)(Baa:oA9)(maa daa:Nat)(Eaa:oA9)(uaa vaa:Nat)(bab:Bool)(Bab:oA9)(mab dab:Nat)(Eab:oA9)(uab vab:Nat)(w:World)(hT:zai w)(haa:zah w r baa Baa maa daa Eaa uaa vaa)(hab:zah w s bab Bab mab dab Eab uab vab)(qaa:zaT maa uaa)(qab:zaT mab uab):
  Calls Tryz.prog 178 #[.agg #[.bool baa,.slice Baa maa daa,.slice Eaa uaa vaa],.agg #[.bool bab,.slice Bab mab dab,.slice Eab uab vab]] w (zaH w (r+s)):=by
 have HIC:=lh9 (zbV (T:=zai))
 have HGC:=lh9 zca
 have HT:=lh9 (λw' (hb:Below w.heap.size w w')=>hT.on hb)
 have HTB:=HT
 obtain⟨K,hKe⟩:∃K,67108864=K:=⟨_,rfl⟩
 have hKK:K<=67108864:=by omega
 have hK0:0<K:=by omega
 have HMP:=lh9 (zqE r s rfl rfl (t:=(r.num*(((s.den / Nat.gcd r.den s.den):Nat):Int)+s.num*(((r.den / Nat.gcd r.den s.den):Nat):Int))) rfl)
 obtain⟨st,hst⟩:∃q,decide ((r.num*(((s.den / Nat.gcd r.den s.den):Nat):Int)+s.num*(((r.den / Nat.gcd r.den s.den):Nat):Int))<0)=q:=⟨_,rfl⟩
 rw [hst] at HMP
 have HST:=lh9 hst
 clear hst
 have HNaa:=lh9 (λw' (b:Below w.heap.size w w')=>haa.below b)
 obtain⟨xaa,hxaa,hxwaa⟩:=haa.2
 have HZaa:Hid (SzQ K r):=zaM haa qaa hKe
 have HZaap:Hid (Sz K r.num.natAbs):=HZaa.out.num
 have HZaaq:Hid (Sz K xaa):=zar HZaa.out.den hxaa
 have HNaap:=lh9 (λw' (b:Below w.heap.size w w')=>haa.1.below b)
 clear haa qaa hxaa hxwaa
 have HNab:=lh9 (λw' (b:Below w.heap.size w w')=>hab.below b)
 obtain⟨xab,hxab,hxwab⟩:=hab.2
 have HZab:Hid (SzQ K s):=zaM hab qab hKe
 have HZabp:Hid (Sz K s.num.natAbs):=HZab.out.num
 have HZabq:Hid (Sz K xab):=zar HZab.out.den hxab
 have HNabp:=lh9 (λw' (b:Below w.heap.size w w')=>hab.1.below b)
 clear hab qab hxab hxwab
 clear hT hKe
 go_enter Tryz.func178,Tryz.ntmps178
 have hB:=Below.refl w.heap.size w
 obtain⟨bx1,bx2,bx3,bx4,bz⟩:=zbL w 41 41 41 #[.bool baa,.slice Baa maa daa,.slice Eaa uaa vaa] #[.bool bab,.slice Bab mab dab,.slice Eab uab vab] #[.bool false,.slice none 0 0,.slice none 0 0]
 have hB:=zab hB bx1
 obtain⟨g1,e1,i1⟩:=bx2.c3
 obtain⟨g2,e2,i2⟩:=bx3.c3
 have k3:=bx4
 clear bx1 bx2 bx3 bx4 bz
 go_wp2_with fail
 generalize ((w.alloc (.cells #[.bool baa,.slice Baa maa daa,.slice Eaa uaa vaa] 41)).alloc (.cells #[.bool bab,.slice Bab mab dab,.slice Eab uab vab] 41)).alloc (.cells #[.bool false,.slice none 0 0,.slice none 0 0] 41)=W1 at*
 have HZ4:Hid (Sz (K) (s.den)):=SzQ.den HZab.out
 (with_reducible refine(zcA (s) bab Bab mab dab Eab uab vab _ (HT.out _ hB) (HNab.out _ hB) (szq HZab (HNab.out _ hB))).mono ?_)
 rintro e wc2 ⟨B4,m4,d4,rfl,hw4,hb⟩
 have hB:=zab hB hb
 have g1:=zac hb g1
 have e1:=zac hb e1
 have i1:=zac hb i1
 have g2:=zac hb g2
 have e2:=zac hb e2
 have i2:=zac hb i2
 have k3:=zaa hb k3
 have HN4:=lh9 hw4
 clear hb hw4
 have lt1_2:w.heap.size<wc2.heap.size:=World.block_lt_of_cell? wc2 ⟨w.heap.size,0,none⟩ g1
 have lt2_2:w.heap.size+1<wc2.heap.size:=World.block_lt_of_cell? wc2 ⟨w.heap.size+1,0,none⟩ g2
 have lt3_2:w.heap.size+1+1<wc2.heap.size:=k3.lt
 have hq2:=hB.size
 obtain⟨bx1,bx2,bz⟩:=zav wc2 37 #[.slice B4 m4 d4]
 have hB:=zab hB bx1
 have g1:=zac bx1 g1
 have e1:=zac bx1 e1
 have i1:=zac bx1 i1
 have g2:=zac bx1 g2
 have e2:=zac bx1 e2
 have i2:=zac bx1 i2
 have k3:=zaa bx1 k3
 have HN4:=lh9 (HN4.out.below bx1)
 have g5:=bx2.c1
 clear bx1 bx2 bz
 go_wp2_with fail
 generalize wc2.alloc (.cells #[.slice B4 m4 d4] 37)=W3 at*
 generalize wc2.heap.size=q3 at*
 have HZ6:Hid (Sz (K) (r.den)):=SzQ.den HZaa.out
 have C0:=lh9 (λw' (h:Below W3.heap.size W3 w')=>zcA (r) baa Baa maa daa Eaa uaa vaa w' (HT.out _ (zab hB h)) (HNaa.out _ (zab hB h)) (szq HZaa (HNaa.out _ hB)))
 have HZ7:Hid (Sz (K) (r.den / Nat.gcd r.den s.den)):=Sz.of_le HZ6.out (Nat.div_le_self _ _)
 have HZ8:Hid (Sz (K) (s.den / Nat.gcd r.den s.den)):=Sz.of_le HZ4.out (Nat.div_le_self _ _)
 have C1:=lh9 (λw' (h:Below W3.heap.size W3 w') B6 m6 d6 (hw6:zad w' (r.den) B6 m6 d6)=>HGC.out.reduce (r.den) (s.den) B6 B4 m6 m4 d6 d4 w' hw6 (HN4.out.below h) (szw HZ6 hw6) (szw HZ4 HN4.out) (HTB.out _ (zab hB h)))
 have lt3_m3:=k3.lt
 have GG:=lh9 (λw' (h:Below W3.heap.size W3 w')=>(csc (zac h g1) (csc (zac h e1) (csc (zac h i1) (csc (zac h g5) csn)))))
 refine rgB (λhHeld=>?_)
 refine tl 0 GG.out ?_
 refine tl 2 GG.out ?_
 refine zcl (L:=#[true,true,true,true,true,true,true,true,true,true,true])
  (J:=fun a0 l a w' => ∃ (fl1 fl3 fl4 fl5 fl6 fl7 fl8 fl9 fl10 : Bool) (B6 : oA9) (m6 d6 : Nat) (B7 : oA9) (m7 d7 : Nat) (B8 : oA9) (m8 d8 ad7 ad8 : Nat),l = #[true,fl1,true,fl3,fl4,fl5,fl6,fl7,fl8,fl9,fl10] ∧ zdJ [15,17,13,18,19,6,7] a0 a ∧ Hid (Below W3.heap.size W3 w') ∧
    Hid (Gd fl1 (a.tmps.getD 15 undef=.agg #[.slice B6 m6 d6]/\zad w' (r.den) B6 m6 d6))/\
    Hid (Gd fl3 (a.tmps.getD 17 undef=.tuple #[.agg #[.slice B7 m7 d7],.agg #[.slice B8 m8 d8]]/\zad w' (r.den / Nat.gcd r.den s.den) B7 m7 d7/\zad w' (s.den / Nat.gcd r.den s.den) B8 m8 d8))/\
    Hid (Gd fl4 (a.tmps.getD 13 undef=.tuple #[.agg #[.slice B7 m7 d7],.agg #[.slice B8 m8 d8]]))/\
    Hid (Gd fl5 (a.tmps.getD 18 undef=.agg #[.slice B7 m7 d7]))/\
    Hid (Gd fl6 (a.tmps.getD 19 undef=.agg #[.slice B8 m8 d8]))/\
    Hid (Gd fl7 (a.tmps.getD 6 undef=.pointer (some ⟨ad7,0,none⟩)/\W3.heap.size<=ad7/\Blk w' ad7 37 (bif fl9 then #[.slice B7 m7 d7] else #[.slice none 0 0])))/\
    Hid (Gd fl8 (a.tmps.getD 7 undef=.pointer (some ⟨ad8,0,none⟩)/\W3.heap.size<=ad8/\Blk w' ad8 37 (bif fl10 then #[.slice B8 m8 d8] else #[.slice none 0 0])))/\
    Hid (Gd fl7 (Gd fl8 (ad7≠ad8)))/\
    Hid (Gd fl3 (fl1=true))/\
    Hid (Gd fl4 (fl3=true))/\
    Hid (Gd fl5 (fl4=true))/\
    Hid (Gd fl6 (fl4=true))/\
    Hid (Gd fl9 (fl3=true))/\
    Hid (Gd fl9 (fl5=true))/\
    Hid (Gd fl9 (fl7=true))/\
    Hid (Gd fl10 (fl6=true))/\
    Hid (Gd fl10 (fl8=true))/\
    Hid (Gd fl10 (fl9=true)))
  (by rfl) ?_ ?_ ?_
 ·exact⟨false,false,false,false,false,false,false,false,false,none,0,0,none,0,0,none,0,0,0,0,by kernel_rfl,zdJ.refl _ _,hHeld,Gd.no,Gd.no,Gd.no,Gd.no,Gd.no,Gd.no,Gd.no,Gd.no,Gd.no,Gd.no,Gd.no,Gd.no,Gd.no,Gd.no,Gd.no,Gd.no,Gd.no,Gd.no⟩
 ·intro OPS Ac0 Q0 hO hAs hA
  have RB14:Ac0.tmps.getD 14 undef=.agg #[.bool baa,.slice Baa maa daa,.slice Eaa uaa vaa]:=(hA 14 undef).trans (by kernel_rfl)
  have RB16:Ac0.tmps.getD 16 undef=.agg #[.slice B4 m4 d4]:=(hA 16 undef).trans (by kernel_rfl)
  have hsz:Ac0.tmps.size=43:=hAs.trans (by kernel_rfl)
  clear hAs hA
  refine⟨?_,?_⟩
  ·rintro l a w' ⟨fl1,fl3,fl4,fl5,fl6,fl7,fl8,fl9,fl10,B6,m6,d6,B7,m7,d7,B8,m8,d8,ad7,ad8,rfl,-⟩ hr
   obtain rfl:fl1=true:=als 1 hr hO
   obtain rfl:fl3=true:=als 3 hr hO
   obtain rfl:fl4=true:=als 4 hr hO
   obtain rfl:fl5=true:=als 5 hr hO
   obtain rfl:fl6=true:=als 6 hr hO
   obtain rfl:fl7=true:=als 7 hr hO
   obtain rfl:fl8=true:=als 8 hr hO
   obtain rfl:fl9=true:=als 9 hr hO
   obtain rfl:fl10=true:=als 10 hr hO
   rfl
  ·rintro l a w' i ⟨fl1,fl3,fl4,fl5,fl6,fl7,fl8,fl9,fl10,B6,m6,d6,B7,m7,d7,B8,m8,d8,ad7,ad8,rfl,HKp,hBi,qf1,qf3,qf4,qf5,qf6,qf7,qf8,qn7_8,qd3_1,qd4_3,qd5_4,qd6_4,qd9_3,qd9_5,qd9_7,qd10_6,qd10_8,qd10_9⟩ hne hi
   have hlt:i<11:=by have:=zdZ hi;rw [hO] at this;exact this
   rcases (show i=0\/i=1\/i=2\/i=3\/i=4\/i=5\/i=6\/i=7\/i=8\/i=9\/i=10 by omega) with rfl|rfl|rfl|rfl|rfl|rfl|rfl|rfl|rfl|rfl|rfl
   ·cases (zak hi:true=false)
   ·obtain rfl:fl1=false:=zak hi
    obtain rfl:fl3=false:=Gd.off qd3_1.out
    obtain rfl:fl4=false:=Gd.off qd4_3.out
    obtain rfl:fl5=false:=Gd.off qd5_4.out
    obtain rfl:fl6=false:=Gd.off qd6_4.out
    obtain rfl:fl9=false:=Gd.off qd9_3.out
    obtain rfl:fl10=false:=Gd.off qd10_6.out
    have rd14:=HKp.get 14 (by decide) RB14
    refine wog hO (λK' hK=>?_)
    go_simp
    refine(C0.out w' hBi.out).mono ?_
    rintro e w2 ⟨nB6,nm6,nd6,rfl,nhw6,hb⟩
    exact hK.out _ _ ⟨zab hBi.out hb,true,false,false,false,false,fl7,fl8,false,false,nB6,nm6,nd6,B7,m7,d7,B8,m8,d8,ad7,ad8,by rfl,HKp.put (by decide) _,zab hBi.out hb,Gd.yes ⟨zaZ (HKp.lt (by rw [hsz];decide)) _,nhw6⟩,Gd.no,Gd.no,Gd.no,Gd.no,kq qf7.out λh=>⟨h.1,zaa hb h.2⟩,kq qf8.out λh=>⟨h.1,zaa hb h.2⟩,qn7_8,Gd.no,Gd.no,Gd.no,Gd.no,Gd.no,Gd.no,Gd.no,Gd.no,Gd.no,Gd.no⟩
   ·cases (zak hi:true=false)
   ·obtain rfl:fl3=false:=zak hi
    obtain rfl:fl1=true:=rdp 1 0 hi hO
    obtain rfl:fl4=false:=Gd.off qd4_3.out
    obtain rfl:fl5=false:=Gd.off qd5_4.out
    obtain rfl:fl6=false:=Gd.off qd6_4.out
    obtain rfl:fl9=false:=Gd.off qd9_3.out
    obtain rfl:fl10=false:=Gd.off qd10_6.out
    have rd15:=qf1.out.get.1
    have rd16:=HKp.get 16 (by decide) RB16
    have hw6:=qf1.out.get.2
    refine wog hO (λK' hK=>?_)
    go_simp
    refine(C1.out w' hBi.out _ _ _ hw6).mono ?_
    rintro e w2 ⟨nB7,nm7,nd7,nB8,nm8,nd8,rfl,nhw7,nhw8,hb⟩
    exact hK.out _ _ ⟨zab hBi.out hb,true,true,false,false,false,fl7,fl8,false,false,B6,m6,d6,nB7,nm7,nd7,nB8,nm8,nd8,ad7,ad8,by rfl,HKp.put (by decide) _,zab hBi.out hb,kq qf1.out λh=>(h).below hb,Gd.yes ⟨zaZ (HKp.lt (by rw [hsz];decide)) _,nhw7,nhw8⟩,Gd.no,Gd.no,Gd.no,kq qf7.out λh=>⟨h.1,zaa hb h.2⟩,kq qf8.out λh=>⟨h.1,zaa hb h.2⟩,qn7_8,λ_=>rfl,Gd.no,Gd.no,Gd.no,Gd.no,Gd.no,Gd.no,Gd.no,Gd.no,Gd.no⟩
   ·obtain rfl:fl4=false:=zak hi
    obtain rfl:fl3=true:=rdp 3 0 hi hO
    obtain rfl:fl1=true:=qd3_1.out.get
    obtain rfl:fl5=false:=Gd.off qd5_4.out
    obtain rfl:fl6=false:=Gd.off qd6_4.out
    obtain rfl:fl9=false:=Gd.off qd9_5.out
    obtain rfl:fl10=false:=Gd.off qd10_6.out
    have rd17:=qf3.out.get.1
    refine wog hO (λK' hK=>?_)
    refine zeM (x:=17) (Or.inl rfl) rd17 ?_
    exact hK.out _ _ ⟨hBi.out,true,true,true,false,false,fl7,fl8,false,false,B6,m6,d6,B7,m7,d7,B8,m8,d8,ad7,ad8,by rfl,HKp.put (by decide) _,hBi.out,kq qf1.out λh=>(h),kq qf3.out λh=>⟨(h.1),(h.2)⟩,Gd.yes (zaZ (HKp.lt (by rw [hsz];decide)) _),Gd.no,Gd.no,kq qf7.out id,kq qf8.out id,qn7_8,λ_=>rfl,λ_=>rfl,Gd.no,Gd.no,Gd.no,Gd.no,Gd.no,Gd.no,Gd.no,Gd.no⟩
   ·obtain rfl:fl5=false:=zak hi
    obtain rfl:fl4=true:=rdp 4 0 hi hO
    obtain rfl:fl3=true:=qd4_3.out.get
    obtain rfl:fl1=true:=qd3_1.out.get
    obtain rfl:fl9=false:=Gd.off qd9_5.out
    obtain rfl:fl10=false:=Gd.off qd10_9.out
    have rd13:=qf4.out.get
    refine wog hO (λK' hK=>?_)
    refine zbu (x:=13) (k:=0) rfl rd13 rfl ?_
    exact hK.out _ _ ⟨hBi.out,true,true,true,true,fl6,fl7,fl8,false,false,B6,m6,d6,B7,m7,d7,B8,m8,d8,ad7,ad8,by rfl,HKp.put (by decide) _,hBi.out,kq qf1.out λh=>(h),kq qf3.out λh=>⟨(h.1),(h.2)⟩,kq0 qf4.out,Gd.yes (zaZ (HKp.lt (by rw [hsz];decide)) _),kq0 qf6.out,kq qf7.out id,kq qf8.out id,qn7_8,λ_=>rfl,λ_=>rfl,λ_=>rfl,λ_=>rfl,Gd.no,Gd.no,Gd.no,Gd.no,Gd.no,Gd.no⟩
   ·obtain rfl:fl6=false:=zak hi
    obtain rfl:fl4=true:=rdp 4 0 hi hO
    obtain rfl:fl3=true:=qd4_3.out.get
    obtain rfl:fl1=true:=qd3_1.out.get
    obtain rfl:fl10=false:=Gd.off qd10_6.out
    have rd13:=qf4.out.get
    refine wog hO (λK' hK=>?_)
    refine zbu (x:=13) (k:=1) rfl rd13 rfl ?_
    exact hK.out _ _ ⟨hBi.out,true,true,true,fl5,true,fl7,fl8,fl9,false,B6,m6,d6,B7,m7,d7,B8,m8,d8,ad7,ad8,by rfl,HKp.put (by decide) _,hBi.out,kq qf1.out λh=>(h),kq qf3.out λh=>⟨(h.1),(h.2)⟩,kq0 qf4.out,kq0 qf5.out,Gd.yes (zaZ (HKp.lt (by rw [hsz];decide)) _),kq qf7.out id,kq qf8.out id,qn7_8,λ_=>rfl,λ_=>rfl,λ_=>rfl,λ_=>rfl,λ_=>rfl,qd9_5,qd9_7,Gd.no,Gd.no,Gd.no⟩
   ·obtain rfl:fl7=false:=zak hi
    obtain rfl:fl9=false:=Gd.off qd9_7.out
    obtain rfl:fl10=false:=Gd.off qd10_9.out
    refine wog hO (λK' hK=>?_)
    go_simp
    have hb:=zcd w' (.cells #[.slice none 0 0] 37)
    exact hK.out _ _ ⟨zab hBi.out hb,fl1,fl3,fl4,fl5,fl6,true,fl8,false,false,B6,m6,d6,B7,m7,d7,B8,m8,d8,w'.heap.size,ad8,by rfl,HKp.put (by decide) _,zab hBi.out hb,kq qf1.out λh=>(h).below hb,kq qf3.out λh=>⟨(h.1).below hb,(h.2).below hb⟩,kq0 qf4.out,kq0 qf5.out,kq0 qf6.out,Gd.yes ⟨zaZ (HKp.lt (by rw [hsz];decide)) _,hBi.out.size,Blk.new w' _ _⟩,kq qf8.out λh=>⟨h.1,zaa hb h.2⟩,Gd.yes (qf8.out.mono λh=>by have:=Blk.lt h.2.2;omega),qd3_1,qd4_3,qd5_4,qd6_4,Gd.no,Gd.no,Gd.no,Gd.no,Gd.no,Gd.no⟩
   ·obtain rfl:fl8=false:=zak hi
    obtain rfl:fl10=false:=Gd.off qd10_8.out
    refine wog hO (λK' hK=>?_)
    go_simp
    have hb:=zcd w' (.cells #[.slice none 0 0] 37)
    exact hK.out _ _ ⟨zab hBi.out hb,fl1,fl3,fl4,fl5,fl6,fl7,true,fl9,false,B6,m6,d6,B7,m7,d7,B8,m8,d8,ad7,w'.heap.size,by rfl,HKp.put (by decide) _,zab hBi.out hb,kq qf1.out λh=>(h).below hb,kq qf3.out λh=>⟨(h.1).below hb,(h.2).below hb⟩,kq0 qf4.out,kq0 qf5.out,kq0 qf6.out,kq qf7.out λh=>⟨h.1,zaa hb h.2⟩,Gd.yes ⟨zaZ (HKp.lt (by rw [hsz];decide)) _,hBi.out.size,Blk.new w' _ _⟩,qf7.out.mono λh=>Gd.yes (by have:=Blk.lt h.2.2;omega),qd3_1,qd4_3,qd5_4,qd6_4,qd9_3,qd9_5,qd9_7,Gd.no,Gd.no,Gd.no⟩
   ·obtain rfl:fl9=false:=zak hi
    obtain rfl:fl1=true:=rdp 1 4 hi hO
    obtain rfl:fl3=true:=rdp 3 2 hi hO
    obtain rfl:fl4=true:=rdp 4 7 hi hO
    obtain rfl:fl5=true:=rdp 5 1 hi hO
    obtain rfl:fl7=true:=rdp 7 0 hi hO
    obtain rfl:fl8=true:=rdp 8 11 hi hO
    obtain rfl:fl10=false:=Gd.off qd10_9.out
    have rd6:=qf7.out.get.1
    have rd18:=qf5.out.get
    obtain⟨_,hg,hk⟩:=qf7.out.get
    have hk:Blk w' ad7 37 #[.slice none 0 0]:=hk
    obtain⟨sc0,sf0⟩:=st1 hk
    have hj0:=sn1 hk (.slice B7 m7 d7)
    have hBn:=bl1 (.slice B7 m7 d7) hg hBi.out
    refine wog hO (λK' hK=>?_)
    go_simp
    exact hK.out _ _ ⟨hBn,true,true,true,true,fl6,true,true,true,false,B6,m6,d6,B7,m7,d7,B8,m8,d8,ad7,ad8,by rfl,HKp,hBn,qf1.out.mono λh=>⟨h.1,zat (h.2) hk zcv (zcg _ _ _)⟩,qf3.out.mono λh=>⟨h.1,zat (h.2.1) hk zcv (zcg _ _ _),zat (h.2.2) hk zcv (zcg _ _ _)⟩,qf4.out.mono λh=>h,qf5.out.mono λh=>h,qf6.out.mono λh=>h,qf7.out.mono λh=>⟨h.1,h.2.1,hj0⟩,λhf9=>(λh=>⟨h.1,h.2.1,Blk.far (p:=⟨ad7,0,none⟩) (h.2.2) (Ne.symm (qn7_8.out rfl hf9)) (.slice B7 m7 d7)⟩) (qf8.out hf9),qn7_8,λ_=>rfl,λ_=>rfl,λ_=>rfl,λ_=>rfl,λ_=>rfl,λ_=>rfl,λ_=>rfl,Gd.no,Gd.no,Gd.no⟩
   ·obtain rfl:fl10=false:=zak hi
    obtain rfl:fl1=true:=rdp 1 4 hi hO
    obtain rfl:fl3=true:=rdp 3 6 hi hO
    obtain rfl:fl4=true:=rdp 4 7 hi hO
    obtain rfl:fl5=true:=rdp 5 8 hi hO
    obtain rfl:fl6=true:=rdp 6 1 hi hO
    obtain rfl:fl7=true:=rdp 7 10 hi hO
    obtain rfl:fl8=true:=rdp 8 0 hi hO
    obtain rfl:fl9=true:=rdp 9 2 hi hO
    have rd7:=qf8.out.get.1
    have rd19:=qf6.out.get
    obtain⟨_,hg,hk⟩:=qf8.out.get
    have hk:Blk w' ad8 37 #[.slice none 0 0]:=hk
    obtain⟨sc0,sf0⟩:=st1 hk
    have hj0:=sn1 hk (.slice B8 m8 d8)
    have hBn:=bl1 (.slice B8 m8 d8) hg hBi.out
    refine wog hO (λK' hK=>?_)
    go_simp
    exact hK.out _ _ ⟨hBn,true,true,true,true,true,true,true,true,true,B6,m6,d6,B7,m7,d7,B8,m8,d8,ad7,ad8,by rfl,HKp,hBn,qf1.out.mono λh=>⟨h.1,zat (h.2) hk zcv (zcg _ _ _)⟩,qf3.out.mono λh=>⟨h.1,zat (h.2.1) hk zcv (zcg _ _ _),zat (h.2.2) hk zcv (zcg _ _ _)⟩,qf4.out.mono λh=>h,qf5.out.mono λh=>h,qf6.out.mono λh=>h,λhf9=>(λh=>⟨h.1,h.2.1,Blk.far (p:=⟨ad8,0,none⟩) (h.2.2) (qn7_8.out hf9 rfl) (.slice B8 m8 d8)⟩) (qf7.out hf9),qf8.out.mono λh=>⟨h.1,h.2.1,hj0⟩,qn7_8,λ_=>rfl,λ_=>rfl,λ_=>rfl,λ_=>rfl,λ_=>rfl,λ_=>rfl,λ_=>rfl,λ_=>rfl,λ_=>rfl,λ_=>rfl⟩
 rintro a wm4 ⟨fl1,fl3,fl4,fl5,fl6,fl7,fl8,fl9,fl10,B6,m6,d6,B7,m7,d7,B8,m8,d8,ad7,ad8,hl,HKp,hBi,qf1,qf3,qf4,qf5,qf6,qf7,qf8,qn7_8,qd3_1,qd4_3,qd5_4,qd6_4,qd9_3,qd9_5,qd9_7,qd10_6,qd10_8,qd10_9⟩
 have xx1:fl1=true:=gdl 1 hl
 subst xx1
 have xx3:fl3=true:=gdl 3 hl
 subst xx3
 have xx4:fl4=true:=gdl 4 hl
 subst xx4
 have xx5:fl5=true:=gdl 5 hl
 subst xx5
 have xx6:fl6=true:=gdl 6 hl
 subst xx6
 have xx7:fl7=true:=gdl 7 hl
 subst xx7
 have xx8:fl8=true:=gdl 8 hl
 subst xx8
 have xx9:fl9=true:=gdl 9 hl
 subst xx9
 have xx10:fl10=true:=gdl 10 hl
 subst xx10
 obtain⟨rv1,hw6⟩:=qf1.out.get
 obtain⟨rv3,hw7,hw8⟩:=qf3.out.get
 have rv4:=qf4.out.get
 have rv5:=qf5.out.get
 have rv6:=qf6.out.get
 obtain⟨rv7,hg7,hk7⟩:=qf7.out.get
 obtain⟨rv8,hg8,hk8⟩:=qf8.out.get
 obtain rfl:=HKp.eq [(15,.agg #[.slice B6 m6 d6]),(17,.tuple #[.agg #[.slice B7 m7 d7],.agg #[.slice B8 m8 d8]]),(13,.tuple #[.agg #[.slice B7 m7 d7],.agg #[.slice B8 m8 d8]]),(18,.agg #[.slice B7 m7 d7]),(19,.agg #[.slice B8 m8 d8]),(6,.pointer (some ⟨ad7,0,none⟩)),(7,.pointer (some ⟨ad8,0,none⟩))] rfl (by
  intro p hp
  simp only [List.mem_cons,List.not_mem_nil,or_false] at hp
  rcases hp with rfl|rfl|rfl|rfl|rfl|rfl|rfl
  ·exact rv1
  ·exact rv3
  ·exact rv4
  ·exact rv5
  ·exact rv6
  ·exact rv7
  ·exact rv8)
 have hBv:=hBi.out
 clear hl hBi HKp qf1 qf3 qf4 qf5 qf6 qf7 qf8 qn7_8 qd3_1 qd4_3 qd5_4 qd6_4 qd9_3 qd9_5 qd9_7 qd10_6 qd10_8 qd10_9 rv1 rv3 rv4 rv5 rv6 rv7 rv8
 have hk7:Blk wm4 ad7 37 #[.slice B7 m7 d7]:=hk7
 have hk8:Blk wm4 ad8 37 #[.slice B8 m8 d8]:=hk8
 rw [show due #[true,true,true,true,true,true,true,true,true,true,true]=0 from rfl]
 simp only [zdp,List.foldl,Act.put,List.setIfInBounds_toArray,List.set_cons_zero,List.set_cons_succ]
 refine wpAnyH_done (by kernel_rfl) ?_ _
 refine NoPanic.normal ?_
 have hB:=zab hB hBv
 have g1:=zac hBv g1
 have e1:=zac hBv e1
 have i1:=zac hBv i1
 have g2:=zac hBv g2
 have e2:=zac hBv e2
 have i2:=zac hBv i2
 have k3:=zaa hBv k3
 have HN4:=lh9 (HN4.out.below hBv)
 have g5:=zac hBv g5
 obtain⟨ad7_9,hga⟩:∃x,x=ad7:=⟨_,rfl⟩
 subst hga
 have g9:=hk7.c1
 obtain⟨ad8_10,hga⟩:∃x,x=ad8:=⟨_,rfl⟩
 subst hga
 have g10:=hk8.c1
 have HN7:=lh9 hw7
 have HN8:=lh9 hw8
 clear hBv hk7 hk8 hw6 hw7 hw8 GG
 clear C0 C1
 go_wp2_with fail
 have HZ11:Hid (Sz (K+K) (r.num*(((s.den / Nat.gcd r.den s.den):Nat):Int)).natAbs):=zhB HZaap.out HZ8.out
 have C0:=lh9 (λw' (h:Below wm4.heap.size wm4 w')=>zgh (r.num) (s.den / Nat.gcd r.den s.den) baa Baa maa daa B8 m8 d8 w' (HT.out _ (zab hB h)) (HNaap.out _ (zab hB h)) (HN8.out.below h) (szi HZaap (HNaap.out _ hB)) (szw HZ8 HN8.out))
 have HZ12:Hid (Sz (K+K) (s.num*(((r.den / Nat.gcd r.den s.den):Nat):Int)).natAbs):=zhB HZabp.out HZ7.out
 have C1:=lh9 (λw' (h:Below wm4.heap.size wm4 w')=>zgh (s.num) (r.den / Nat.gcd r.den s.den) bab Bab mab dab B7 m7 d7 w' (HT.out _ (zab hB h)) (HNabp.out _ (zab hB h)) (HN7.out.below h) (szi HZabp (HNabp.out _ hB)) (szw HZ7 HN7.out))
 have HZ13:Hid (Sz ((K+K)+1) ((r.num*(((s.den / Nat.gcd r.den s.den):Nat):Int))+(s.num*(((r.den / Nat.gcd r.den s.den):Nat):Int))).natAbs):=znz HZ11.out HZ12.out
 have C2:=lh9 (λw' (h:Below wm4.heap.size wm4 w') b11 B11 m11 d11 (hw11:zaG w' (r.num*(((s.den / Nat.gcd r.den s.den):Nat):Int)) b11 B11 m11 d11) b12 B12 m12 d12 (hw12:zaG w' (s.num*(((r.den / Nat.gcd r.den s.den):Nat):Int)) b12 B12 m12 d12)=>HIC.out.add (r.num*(((s.den / Nat.gcd r.den s.den):Nat):Int)) (s.num*(((r.den / Nat.gcd r.den s.den):Nat):Int)) b11 b12 B11 B12 m11 m12 d11 d12 w' (HT.out _ (zab hB h)) hw11 hw12 (szi HZ11 hw11) (szi HZ12 hw12))
 have lt3_m4:=k3.lt
 have GG:=lh9 (λw' (h:Below wm4.heap.size wm4 w')=>(csc (zac h g1) (csc (zac h e1) (csc (zac h i1) (csc (zac h g10) (csc (zac h g2) (csc (zac h e2) (csc (zac h i2) (csc (zac h g9) csn)))))))))
 refine rgB (λhHeld=>?_)
 refine tl 0 GG.out ?_
 refine tl 1 GG.out ?_
 refine tl 2 GG.out ?_
 refine tl 4 GG.out ?_
 refine tl 5 GG.out ?_
 refine tl 6 GG.out ?_
 refine zcl (L:=#[true,true,true,true,true,true,true,true,true,true,true])
  (J:=fun a0 l a w' => ∃ (fl3 fl7 fl8 fl9 fl10 b11 : Bool) (B11 : oA9) (m11 d11 : Nat) (b12 : Bool) (B12 : oA9) (m12 d12 : Nat) (b13 : Bool) (B13 : oA9) (m13 d13 ad9 : Nat),l = #[true,true,true,fl3,true,true,true,fl7,fl8,fl9,fl10] ∧ zdJ [23,27,28,8] a0 a ∧ Hid (Below wm4.heap.size wm4 w') ∧
    Hid (Gd fl3 (a.tmps.getD 23 undef=.agg #[.bool b11,.slice B11 m11 d11]/\zaG w' (r.num*(((s.den / Nat.gcd r.den s.den):Nat):Int)) b11 B11 m11 d11))/\
    Hid (Gd fl7 (a.tmps.getD 27 undef=.agg #[.bool b12,.slice B12 m12 d12]/\zaG w' (s.num*(((r.den / Nat.gcd r.den s.den):Nat):Int)) b12 B12 m12 d12))/\
    Hid (Gd fl8 (a.tmps.getD 28 undef=.agg #[.bool b13,.slice B13 m13 d13]/\zaG w' ((r.num*(((s.den / Nat.gcd r.den s.den):Nat):Int))+(s.num*(((r.den / Nat.gcd r.den s.den):Nat):Int))) b13 B13 m13 d13))/\
    Hid (Gd fl9 (a.tmps.getD 8 undef=.pointer (some ⟨ad9,0,none⟩)/\wm4.heap.size<=ad9/\Blk w' ad9 39 (bif fl10 then #[.bool b13,.slice B13 m13 d13] else #[.bool false,.slice none 0 0])))/\
    Hid (Gd fl7 (fl3=true))/\
    Hid (Gd fl8 (fl3=true))/\
    Hid (Gd fl8 (fl7=true))/\
    Hid (Gd fl10 (fl8=true))/\
    Hid (Gd fl10 (fl9=true)))
  (by rfl) ?_ ?_ ?_
 ·exact⟨false,false,false,false,false,false,none,0,0,false,none,0,0,false,none,0,0,0,by kernel_rfl,zdJ.refl _ _,hHeld,Gd.no,Gd.no,Gd.no,Gd.no,Gd.no,Gd.no,Gd.no,Gd.no,Gd.no⟩
 ·intro OPS Ac0 Q0 hO hAs hA
  have RB21:Ac0.tmps.getD 21 undef=.agg #[.bool baa,.slice Baa maa daa]:=(hA 21 undef).trans (by kernel_rfl)
  have RB22:Ac0.tmps.getD 22 undef=.agg #[.slice B8 m8 d8]:=(hA 22 undef).trans (by kernel_rfl)
  have RB25:Ac0.tmps.getD 25 undef=.agg #[.bool bab,.slice Bab mab dab]:=(hA 25 undef).trans (by kernel_rfl)
  have RB26:Ac0.tmps.getD 26 undef=.agg #[.slice B7 m7 d7]:=(hA 26 undef).trans (by kernel_rfl)
  have hsz:Ac0.tmps.size=43:=hAs.trans (by kernel_rfl)
  clear hAs hA
  refine⟨?_,?_⟩
  ·rintro l a w' ⟨fl3,fl7,fl8,fl9,fl10,b11,B11,m11,d11,b12,B12,m12,d12,b13,B13,m13,d13,ad9,rfl,-⟩ hr
   obtain rfl:fl3=true:=als 3 hr hO
   obtain rfl:fl7=true:=als 7 hr hO
   obtain rfl:fl8=true:=als 8 hr hO
   obtain rfl:fl9=true:=als 9 hr hO
   obtain rfl:fl10=true:=als 10 hr hO
   rfl
  ·rintro l a w' i ⟨fl3,fl7,fl8,fl9,fl10,b11,B11,m11,d11,b12,B12,m12,d12,b13,B13,m13,d13,ad9,rfl,HKp,hBi,qf3,qf7,qf8,qf9,qd7_3,qd8_3,qd8_7,qd10_8,qd10_9⟩ hne hi
   have hlt:i<11:=by have:=zdZ hi;rw [hO] at this;exact this
   rcases (show i=0\/i=1\/i=2\/i=3\/i=4\/i=5\/i=6\/i=7\/i=8\/i=9\/i=10 by omega) with rfl|rfl|rfl|rfl|rfl|rfl|rfl|rfl|rfl|rfl|rfl
   ·cases (zak hi:true=false)
   ·cases (zak hi:true=false)
   ·cases (zak hi:true=false)
   ·obtain rfl:fl3=false:=zak hi
    obtain rfl:fl7=false:=Gd.off qd7_3.out
    obtain rfl:fl8=false:=Gd.off qd8_3.out
    obtain rfl:fl10=false:=Gd.off qd10_8.out
    have rd21:=HKp.get 21 (by decide) RB21
    have rd22:=HKp.get 22 (by decide) RB22
    refine wog hO (λK' hK=>?_)
    go_simp
    refine(C0.out w' hBi.out).mono ?_
    rintro e w2 ⟨nb11,nB11,nm11,nd11,rfl,nhw11,hb⟩
    exact hK.out _ _ ⟨zab hBi.out hb,true,false,false,fl9,false,nb11,nB11,nm11,nd11,b12,B12,m12,d12,b13,B13,m13,d13,ad9,by rfl,HKp.put (by decide) _,zab hBi.out hb,Gd.yes ⟨zaZ (HKp.lt (by rw [hsz];decide)) _,nhw11⟩,Gd.no,Gd.no,kq qf9.out λh=>⟨h.1,zaa hb h.2⟩,Gd.no,Gd.no,Gd.no,Gd.no,Gd.no⟩
   ·cases (zak hi:true=false)
   ·cases (zak hi:true=false)
   ·cases (zak hi:true=false)
   ·obtain rfl:fl7=false:=zak hi
    obtain rfl:fl3=true:=rdp 3 2 hi hO
    obtain rfl:fl8=false:=Gd.off qd8_7.out
    obtain rfl:fl10=false:=Gd.off qd10_8.out
    have rd25:=HKp.get 25 (by decide) RB25
    have rd26:=HKp.get 26 (by decide) RB26
    refine wog hO (λK' hK=>?_)
    go_simp
    refine(C1.out w' hBi.out).mono ?_
    rintro e w2 ⟨nb12,nB12,nm12,nd12,rfl,nhw12,hb⟩
    exact hK.out _ _ ⟨zab hBi.out hb,true,true,false,fl9,false,b11,B11,m11,d11,nb12,nB12,nm12,nd12,b13,B13,m13,d13,ad9,by rfl,HKp.put (by decide) _,zab hBi.out hb,kq qf3.out λh=>(h).below hb,Gd.yes ⟨zaZ (HKp.lt (by rw [hsz];decide)) _,nhw12⟩,Gd.no,kq qf9.out λh=>⟨h.1,zaa hb h.2⟩,λ_=>rfl,Gd.no,Gd.no,Gd.no,Gd.no⟩
   ·obtain rfl:fl8=false:=zak hi
    obtain rfl:fl3=true:=rdp 3 0 hi hO
    obtain rfl:fl7=true:=rdp 7 1 hi hO
    obtain rfl:fl10=false:=Gd.off qd10_8.out
    have rd23:=qf3.out.get.1
    have rd27:=qf7.out.get.1
    have hw11:=qf3.out.get.2
    have hw12:=qf7.out.get.2
    refine wog hO (λK' hK=>?_)
    go_simp
    refine(C2.out w' hBi.out _ _ _ _ hw11 _ _ _ _ hw12).mono ?_
    rintro e w2 ⟨nb13,nB13,nm13,nd13,rfl,nhw13,hb⟩
    exact hK.out _ _ ⟨zab hBi.out hb,true,true,true,fl9,false,b11,B11,m11,d11,b12,B12,m12,d12,nb13,nB13,nm13,nd13,ad9,by rfl,HKp.put (by decide) _,zab hBi.out hb,kq qf3.out λh=>(h).below hb,kq qf7.out λh=>(h).below hb,Gd.yes ⟨zaZ (HKp.lt (by rw [hsz];decide)) _,nhw13⟩,kq qf9.out λh=>⟨h.1,zaa hb h.2⟩,λ_=>rfl,λ_=>rfl,λ_=>rfl,Gd.no,Gd.no⟩
   ·obtain rfl:fl9=false:=zak hi
    obtain rfl:fl10=false:=Gd.off qd10_9.out
    refine wog hO (λK' hK=>?_)
    go_simp
    have hb:=zcd w' (.cells #[.bool false,.slice none 0 0] 39)
    exact hK.out _ _ ⟨zab hBi.out hb,fl3,fl7,fl8,true,false,b11,B11,m11,d11,b12,B12,m12,d12,b13,B13,m13,d13,w'.heap.size,by rfl,HKp.put (by decide) _,zab hBi.out hb,kq qf3.out λh=>(h).below hb,kq qf7.out λh=>(h).below hb,kq qf8.out λh=>(h).below hb,Gd.yes ⟨zaZ (HKp.lt (by rw [hsz];decide)) _,hBi.out.size,Blk.new w' _ _⟩,qd7_3,qd8_3,qd8_7,Gd.no,Gd.no⟩
   ·obtain rfl:fl10=false:=zak hi
    obtain rfl:fl3=true:=rdp 3 6 hi hO
    obtain rfl:fl7=true:=rdp 7 10 hi hO
    obtain rfl:fl8=true:=rdp 8 1 hi hO
    obtain rfl:fl9=true:=rdp 9 0 hi hO
    have rd8:=qf9.out.get.1
    have rd28:=qf8.out.get.1
    obtain⟨_,hg,hk⟩:=qf9.out.get
    have hk:Blk w' ad9 39 #[.bool false,.slice none 0 0]:=hk
    obtain⟨sc0,sf0,sc1,sf1⟩:=st2 hk (.bool b13)
    have hj1:=sn2 hk (.bool b13) (.slice B13 m13 d13)
    have hBn:=bl2 (.bool b13) (.slice B13 m13 d13) hg hBi.out
    refine wog hO (λK' hK=>?_)
    go_simp
    exact hK.out _ _ ⟨hBn,true,true,true,true,true,b11,B11,m11,d11,b12,B12,m12,d12,b13,B13,m13,d13,ad9,by rfl,HKp,hBn,qf3.out.mono λh=>⟨h.1,zhl (h.2) hk nou2 (zgM _ _ _ _)⟩,qf7.out.mono λh=>⟨h.1,zhl (h.2) hk nou2 (zgM _ _ _ _)⟩,qf8.out.mono λh=>⟨h.1,zhl (h.2) hk nou2 (zgM _ _ _ _)⟩,qf9.out.mono λh=>⟨h.1,h.2.1,hj1⟩,λ_=>rfl,λ_=>rfl,λ_=>rfl,λ_=>rfl,λ_=>rfl⟩
 rintro a wm5 ⟨fl3,fl7,fl8,fl9,fl10,b11,B11,m11,d11,b12,B12,m12,d12,b13,B13,m13,d13,ad9,hl,HKp,hBi,qf3,qf7,qf8,qf9,qd7_3,qd8_3,qd8_7,qd10_8,qd10_9⟩
 have xx3:fl3=true:=gdl 3 hl
 subst xx3
 have xx7:fl7=true:=gdl 7 hl
 subst xx7
 have xx8:fl8=true:=gdl 8 hl
 subst xx8
 have xx9:fl9=true:=gdl 9 hl
 subst xx9
 have xx10:fl10=true:=gdl 10 hl
 subst xx10
 obtain⟨rv3,hw11⟩:=qf3.out.get
 obtain⟨rv7,hw12⟩:=qf7.out.get
 obtain⟨rv8,hw13⟩:=qf8.out.get
 obtain⟨rv9,hg9,hk9⟩:=qf9.out.get
 obtain rfl:=HKp.eq [(23,.agg #[.bool b11,.slice B11 m11 d11]),(27,.agg #[.bool b12,.slice B12 m12 d12]),(28,.agg #[.bool b13,.slice B13 m13 d13]),(8,.pointer (some ⟨ad9,0,none⟩))] rfl (by
  intro p hp
  simp only [List.mem_cons,List.not_mem_nil,or_false] at hp
  rcases hp with rfl|rfl|rfl|rfl
  ·exact rv3
  ·exact rv7
  ·exact rv8
  ·exact rv9)
 have hBv:=hBi.out
 clear hl hBi HKp qf3 qf7 qf8 qf9 qd7_3 qd8_3 qd8_7 qd10_8 qd10_9 rv3 rv7 rv8 rv9
 have hk9:Blk wm5 ad9 39 #[.bool b13,.slice B13 m13 d13]:=hk9
 rw [show due #[true,true,true,true,true,true,true,true,true,true,true]=0 from rfl]
 simp only [zdp,List.foldl,Act.put,List.setIfInBounds_toArray,List.set_cons_zero,List.set_cons_succ]
 refine wpAnyH_done (by kernel_rfl) ?_ _
 refine NoPanic.normal ?_
 have hB:=zab hB hBv
 have g1:=zac hBv g1
 have e1:=zac hBv e1
 have i1:=zac hBv i1
 have g2:=zac hBv g2
 have e2:=zac hBv e2
 have i2:=zac hBv i2
 have k3:=zaa hBv k3
 have HN4:=lh9 (HN4.out.below hBv)
 have g5:=zac hBv g5
 have g9:=zac hBv g9
 have g10:=zac hBv g10
 have HN7:=lh9 (HN7.out.below hBv)
 obtain⟨ad9_14,hga⟩:∃x,x=ad9:=⟨_,rfl⟩
 subst hga
 obtain⟨g14,e14⟩:=hk9.c2
 have HN13:=lh9 hw13
 clear hBv hk9 hw11 hw12 hw13 GG
 clear C0 C1 C2
 go_wp2_with fail
 have HZ15:Hid (Sz ((K+K)+1) (((r.num*(((s.den / Nat.gcd r.den s.den):Nat):Int))+(s.num*(((r.den / Nat.gcd r.den s.den):Nat):Int))).natAbs)):=HZ13.out
 have C0:=lh9 (λw' (h:Below wm5.heap.size wm5 w')=>HIC.out.abs ((r.num*(((s.den / Nat.gcd r.den s.den):Nat):Int))+(s.num*(((r.den / Nat.gcd r.den s.den):Nat):Int))) b13 B13 m13 d13 w' (HT.out _ (zab hB h)) (HN13.out.below h) (szi HZ13 HN13.out))
 have HZ16:Hid (Sz ((K+K)+1) ((((r.num*(((s.den / Nat.gcd r.den s.den):Nat):Int))+(s.num*(((r.den / Nat.gcd r.den s.den):Nat):Int))).natAbs) / Nat.gcd (((r.num*(((s.den / Nat.gcd r.den s.den):Nat):Int))+(s.num*(((r.den / Nat.gcd r.den s.den):Nat):Int))).natAbs) s.den)):=Sz.of_le HZ15.out (Nat.div_le_self _ _)
 have HZ17:Hid (Sz (K) (s.den / Nat.gcd (((r.num*(((s.den / Nat.gcd r.den s.den):Nat):Int))+(s.num*(((r.den / Nat.gcd r.den s.den):Nat):Int))).natAbs) s.den)):=Sz.of_le HZ4.out (Nat.div_le_self _ _)
 have C1:=lh9 (λw' (h:Below wm5.heap.size wm5 w') B15 m15 d15 (hw15:zad w' (((r.num*(((s.den / Nat.gcd r.den s.den):Nat):Int))+(s.num*(((r.den / Nat.gcd r.den s.den):Nat):Int))).natAbs) B15 m15 d15)=>HGC.out.reduce (((r.num*(((s.den / Nat.gcd r.den s.den):Nat):Int))+(s.num*(((r.den / Nat.gcd r.den s.den):Nat):Int))).natAbs) (s.den) B15 B4 m15 m4 d15 d4 w' hw15 (HN4.out.below h) (szw HZ15 hw15) (szw HZ4 HN4.out) (HTB.out _ (zab hB h)))
 have lt3_m5:=k3.lt
 have GG:=lh9 (λw' (h:Below wm5.heap.size wm5 w')=>(csc (zac h g14) (csc (zac h e14) (csc (zac h g5) csn))))
 refine rgB (λhHeld=>?_)
 refine tl 0 GG.out ?_
 refine tl 2 GG.out ?_
 refine zcl (L:=#[true,true,true,true,true,true,true,true,true,true,true])
  (J:=fun a0 l a w' => ∃ (fl1 fl3 fl4 fl5 fl6 fl7 fl8 fl9 fl10 : Bool) (B15 : oA9) (m15 d15 : Nat) (B16 : oA9) (m16 d16 : Nat) (B17 : oA9) (m17 d17 ad7 ad8 : Nat),l = #[true,fl1,true,fl3,fl4,fl5,fl6,fl7,fl8,fl9,fl10] ∧ zdJ [31,33,29,34,35,9,10] a0 a ∧ Hid (Below wm5.heap.size wm5 w') ∧
    Hid (Gd fl1 (a.tmps.getD 31 undef=.agg #[.slice B15 m15 d15]/\zad w' (((r.num*(((s.den / Nat.gcd r.den s.den):Nat):Int))+(s.num*(((r.den / Nat.gcd r.den s.den):Nat):Int))).natAbs) B15 m15 d15))/\
    Hid (Gd fl3 (a.tmps.getD 33 undef=.tuple #[.agg #[.slice B16 m16 d16],.agg #[.slice B17 m17 d17]]/\zad w' ((((r.num*(((s.den / Nat.gcd r.den s.den):Nat):Int))+(s.num*(((r.den / Nat.gcd r.den s.den):Nat):Int))).natAbs) / Nat.gcd (((r.num*(((s.den / Nat.gcd r.den s.den):Nat):Int))+(s.num*(((r.den / Nat.gcd r.den s.den):Nat):Int))).natAbs) s.den) B16 m16 d16/\zad w' (s.den / Nat.gcd (((r.num*(((s.den / Nat.gcd r.den s.den):Nat):Int))+(s.num*(((r.den / Nat.gcd r.den s.den):Nat):Int))).natAbs) s.den) B17 m17 d17))/\
    Hid (Gd fl4 (a.tmps.getD 29 undef=.tuple #[.agg #[.slice B16 m16 d16],.agg #[.slice B17 m17 d17]]))/\
    Hid (Gd fl5 (a.tmps.getD 34 undef=.agg #[.slice B16 m16 d16]))/\
    Hid (Gd fl6 (a.tmps.getD 35 undef=.agg #[.slice B17 m17 d17]))/\
    Hid (Gd fl7 (a.tmps.getD 9 undef=.pointer (some ⟨ad7,0,none⟩)/\wm5.heap.size<=ad7/\Blk w' ad7 37 (bif fl9 then #[.slice B16 m16 d16] else #[.slice none 0 0])))/\
    Hid (Gd fl8 (a.tmps.getD 10 undef=.pointer (some ⟨ad8,0,none⟩)/\wm5.heap.size<=ad8/\Blk w' ad8 37 (bif fl10 then #[.slice B17 m17 d17] else #[.slice none 0 0])))/\
    Hid (Gd fl7 (Gd fl8 (ad7≠ad8)))/\
    Hid (Gd fl3 (fl1=true))/\
    Hid (Gd fl4 (fl3=true))/\
    Hid (Gd fl5 (fl4=true))/\
    Hid (Gd fl6 (fl4=true))/\
    Hid (Gd fl9 (fl3=true))/\
    Hid (Gd fl9 (fl5=true))/\
    Hid (Gd fl9 (fl7=true))/\
    Hid (Gd fl10 (fl6=true))/\
    Hid (Gd fl10 (fl8=true))/\
    Hid (Gd fl10 (fl9=true)))
  (by rfl) ?_ ?_ ?_
 ·exact⟨false,false,false,false,false,false,false,false,false,none,0,0,none,0,0,none,0,0,0,0,by kernel_rfl,zdJ.refl _ _,hHeld,Gd.no,Gd.no,Gd.no,Gd.no,Gd.no,Gd.no,Gd.no,Gd.no,Gd.no,Gd.no,Gd.no,Gd.no,Gd.no,Gd.no,Gd.no,Gd.no,Gd.no,Gd.no⟩
 ·intro OPS Ac0 Q0 hO hAs hA
  have RB30:Ac0.tmps.getD 30 undef=.agg #[.bool b13,.slice B13 m13 d13]:=(hA 30 undef).trans (by kernel_rfl)
  have RB32:Ac0.tmps.getD 32 undef=.agg #[.slice B4 m4 d4]:=(hA 32 undef).trans (by kernel_rfl)
  have hsz:Ac0.tmps.size=43:=hAs.trans (by kernel_rfl)
  clear hAs hA
  refine⟨?_,?_⟩
  ·rintro l a w' ⟨fl1,fl3,fl4,fl5,fl6,fl7,fl8,fl9,fl10,B15,m15,d15,B16,m16,d16,B17,m17,d17,ad7,ad8,rfl,-⟩ hr
   obtain rfl:fl1=true:=als 1 hr hO
   obtain rfl:fl3=true:=als 3 hr hO
   obtain rfl:fl4=true:=als 4 hr hO
   obtain rfl:fl5=true:=als 5 hr hO
   obtain rfl:fl6=true:=als 6 hr hO
   obtain rfl:fl7=true:=als 7 hr hO
   obtain rfl:fl8=true:=als 8 hr hO
   obtain rfl:fl9=true:=als 9 hr hO
   obtain rfl:fl10=true:=als 10 hr hO
   rfl
  ·rintro l a w' i ⟨fl1,fl3,fl4,fl5,fl6,fl7,fl8,fl9,fl10,B15,m15,d15,B16,m16,d16,B17,m17,d17,ad7,ad8,rfl,HKp,hBi,qf1,qf3,qf4,qf5,qf6,qf7,qf8,qn7_8,qd3_1,qd4_3,qd5_4,qd6_4,qd9_3,qd9_5,qd9_7,qd10_6,qd10_8,qd10_9⟩ hne hi
   have hlt:i<11:=by have:=zdZ hi;rw [hO] at this;exact this
   rcases (show i=0\/i=1\/i=2\/i=3\/i=4\/i=5\/i=6\/i=7\/i=8\/i=9\/i=10 by omega) with rfl|rfl|rfl|rfl|rfl|rfl|rfl|rfl|rfl|rfl|rfl
   ·cases (zak hi:true=false)
   ·obtain rfl:fl1=false:=zak hi
    obtain rfl:fl3=false:=Gd.off qd3_1.out
    obtain rfl:fl4=false:=Gd.off qd4_3.out
    obtain rfl:fl5=false:=Gd.off qd5_4.out
    obtain rfl:fl6=false:=Gd.off qd6_4.out
    obtain rfl:fl9=false:=Gd.off qd9_3.out
    obtain rfl:fl10=false:=Gd.off qd10_6.out
    have rd30:=HKp.get 30 (by decide) RB30
    refine wog hO (λK' hK=>?_)
    go_simp
    refine(C0.out w' hBi.out).mono ?_
    rintro e w2 ⟨nB15,nm15,nd15,rfl,nhw15,hb⟩
    exact hK.out _ _ ⟨zab hBi.out hb,true,false,false,false,false,fl7,fl8,false,false,nB15,nm15,nd15,B16,m16,d16,B17,m17,d17,ad7,ad8,by rfl,HKp.put (by decide) _,zab hBi.out hb,Gd.yes ⟨zaZ (HKp.lt (by rw [hsz];decide)) _,nhw15⟩,Gd.no,Gd.no,Gd.no,Gd.no,kq qf7.out λh=>⟨h.1,zaa hb h.2⟩,kq qf8.out λh=>⟨h.1,zaa hb h.2⟩,qn7_8,Gd.no,Gd.no,Gd.no,Gd.no,Gd.no,Gd.no,Gd.no,Gd.no,Gd.no,Gd.no⟩
   ·cases (zak hi:true=false)
   ·obtain rfl:fl3=false:=zak hi
    obtain rfl:fl1=true:=rdp 1 0 hi hO
    obtain rfl:fl4=false:=Gd.off qd4_3.out
    obtain rfl:fl5=false:=Gd.off qd5_4.out
    obtain rfl:fl6=false:=Gd.off qd6_4.out
    obtain rfl:fl9=false:=Gd.off qd9_3.out
    obtain rfl:fl10=false:=Gd.off qd10_6.out
    have rd31:=qf1.out.get.1
    have rd32:=HKp.get 32 (by decide) RB32
    have hw15:=qf1.out.get.2
    refine wog hO (λK' hK=>?_)
    go_simp
    refine(C1.out w' hBi.out _ _ _ hw15).mono ?_
    rintro e w2 ⟨nB16,nm16,nd16,nB17,nm17,nd17,rfl,nhw16,nhw17,hb⟩
    exact hK.out _ _ ⟨zab hBi.out hb,true,true,false,false,false,fl7,fl8,false,false,B15,m15,d15,nB16,nm16,nd16,nB17,nm17,nd17,ad7,ad8,by rfl,HKp.put (by decide) _,zab hBi.out hb,kq qf1.out λh=>(h).below hb,Gd.yes ⟨zaZ (HKp.lt (by rw [hsz];decide)) _,nhw16,nhw17⟩,Gd.no,Gd.no,Gd.no,kq qf7.out λh=>⟨h.1,zaa hb h.2⟩,kq qf8.out λh=>⟨h.1,zaa hb h.2⟩,qn7_8,λ_=>rfl,Gd.no,Gd.no,Gd.no,Gd.no,Gd.no,Gd.no,Gd.no,Gd.no,Gd.no⟩
   ·obtain rfl:fl4=false:=zak hi
    obtain rfl:fl3=true:=rdp 3 0 hi hO
    obtain rfl:fl1=true:=qd3_1.out.get
    obtain rfl:fl5=false:=Gd.off qd5_4.out
    obtain rfl:fl6=false:=Gd.off qd6_4.out
    obtain rfl:fl9=false:=Gd.off qd9_5.out
    obtain rfl:fl10=false:=Gd.off qd10_6.out
    have rd33:=qf3.out.get.1
    refine wog hO (λK' hK=>?_)
    refine zeM (x:=33) (Or.inl rfl) rd33 ?_
    exact hK.out _ _ ⟨hBi.out,true,true,true,false,false,fl7,fl8,false,false,B15,m15,d15,B16,m16,d16,B17,m17,d17,ad7,ad8,by rfl,HKp.put (by decide) _,hBi.out,kq qf1.out λh=>(h),kq qf3.out λh=>⟨(h.1),(h.2)⟩,Gd.yes (zaZ (HKp.lt (by rw [hsz];decide)) _),Gd.no,Gd.no,kq qf7.out id,kq qf8.out id,qn7_8,λ_=>rfl,λ_=>rfl,Gd.no,Gd.no,Gd.no,Gd.no,Gd.no,Gd.no,Gd.no,Gd.no⟩
   ·obtain rfl:fl5=false:=zak hi
    obtain rfl:fl4=true:=rdp 4 0 hi hO
    obtain rfl:fl3=true:=qd4_3.out.get
    obtain rfl:fl1=true:=qd3_1.out.get
    obtain rfl:fl9=false:=Gd.off qd9_5.out
    obtain rfl:fl10=false:=Gd.off qd10_9.out
    have rd29:=qf4.out.get
    refine wog hO (λK' hK=>?_)
    refine zbu (x:=29) (k:=0) rfl rd29 rfl ?_
    exact hK.out _ _ ⟨hBi.out,true,true,true,true,fl6,fl7,fl8,false,false,B15,m15,d15,B16,m16,d16,B17,m17,d17,ad7,ad8,by rfl,HKp.put (by decide) _,hBi.out,kq qf1.out λh=>(h),kq qf3.out λh=>⟨(h.1),(h.2)⟩,kq0 qf4.out,Gd.yes (zaZ (HKp.lt (by rw [hsz];decide)) _),kq0 qf6.out,kq qf7.out id,kq qf8.out id,qn7_8,λ_=>rfl,λ_=>rfl,λ_=>rfl,λ_=>rfl,Gd.no,Gd.no,Gd.no,Gd.no,Gd.no,Gd.no⟩
   ·obtain rfl:fl6=false:=zak hi
    obtain rfl:fl4=true:=rdp 4 0 hi hO
    obtain rfl:fl3=true:=qd4_3.out.get
    obtain rfl:fl1=true:=qd3_1.out.get
    obtain rfl:fl10=false:=Gd.off qd10_6.out
    have rd29:=qf4.out.get
    refine wog hO (λK' hK=>?_)
    refine zbu (x:=29) (k:=1) rfl rd29 rfl ?_
    exact hK.out _ _ ⟨hBi.out,true,true,true,fl5,true,fl7,fl8,fl9,false,B15,m15,d15,B16,m16,d16,B17,m17,d17,ad7,ad8,by rfl,HKp.put (by decide) _,hBi.out,kq qf1.out λh=>(h),kq qf3.out λh=>⟨(h.1),(h.2)⟩,kq0 qf4.out,kq0 qf5.out,Gd.yes (zaZ (HKp.lt (by rw [hsz];decide)) _),kq qf7.out id,kq qf8.out id,qn7_8,λ_=>rfl,λ_=>rfl,λ_=>rfl,λ_=>rfl,λ_=>rfl,qd9_5,qd9_7,Gd.no,Gd.no,Gd.no⟩
   ·obtain rfl:fl7=false:=zak hi
    obtain rfl:fl9=false:=Gd.off qd9_7.out
    obtain rfl:fl10=false:=Gd.off qd10_9.out
    refine wog hO (λK' hK=>?_)
    go_simp
    have hb:=zcd w' (.cells #[.slice none 0 0] 37)
    exact hK.out _ _ ⟨zab hBi.out hb,fl1,fl3,fl4,fl5,fl6,true,fl8,false,false,B15,m15,d15,B16,m16,d16,B17,m17,d17,w'.heap.size,ad8,by rfl,HKp.put (by decide) _,zab hBi.out hb,kq qf1.out λh=>(h).below hb,kq qf3.out λh=>⟨(h.1).below hb,(h.2).below hb⟩,kq0 qf4.out,kq0 qf5.out,kq0 qf6.out,Gd.yes ⟨zaZ (HKp.lt (by rw [hsz];decide)) _,hBi.out.size,Blk.new w' _ _⟩,kq qf8.out λh=>⟨h.1,zaa hb h.2⟩,Gd.yes (qf8.out.mono λh=>by have:=Blk.lt h.2.2;omega),qd3_1,qd4_3,qd5_4,qd6_4,Gd.no,Gd.no,Gd.no,Gd.no,Gd.no,Gd.no⟩
   ·obtain rfl:fl8=false:=zak hi
    obtain rfl:fl10=false:=Gd.off qd10_8.out
    refine wog hO (λK' hK=>?_)
    go_simp
    have hb:=zcd w' (.cells #[.slice none 0 0] 37)
    exact hK.out _ _ ⟨zab hBi.out hb,fl1,fl3,fl4,fl5,fl6,fl7,true,fl9,false,B15,m15,d15,B16,m16,d16,B17,m17,d17,ad7,w'.heap.size,by rfl,HKp.put (by decide) _,zab hBi.out hb,kq qf1.out λh=>(h).below hb,kq qf3.out λh=>⟨(h.1).below hb,(h.2).below hb⟩,kq0 qf4.out,kq0 qf5.out,kq0 qf6.out,kq qf7.out λh=>⟨h.1,zaa hb h.2⟩,Gd.yes ⟨zaZ (HKp.lt (by rw [hsz];decide)) _,hBi.out.size,Blk.new w' _ _⟩,qf7.out.mono λh=>Gd.yes (by have:=Blk.lt h.2.2;omega),qd3_1,qd4_3,qd5_4,qd6_4,qd9_3,qd9_5,qd9_7,Gd.no,Gd.no,Gd.no⟩
   ·obtain rfl:fl9=false:=zak hi
    obtain rfl:fl1=true:=rdp 1 4 hi hO
    obtain rfl:fl3=true:=rdp 3 2 hi hO
    obtain rfl:fl4=true:=rdp 4 7 hi hO
    obtain rfl:fl5=true:=rdp 5 1 hi hO
    obtain rfl:fl7=true:=rdp 7 0 hi hO
    obtain rfl:fl8=true:=rdp 8 11 hi hO
    obtain rfl:fl10=false:=Gd.off qd10_9.out
    have rd9:=qf7.out.get.1
    have rd34:=qf5.out.get
    obtain⟨_,hg,hk⟩:=qf7.out.get
    have hk:Blk w' ad7 37 #[.slice none 0 0]:=hk
    obtain⟨sc0,sf0⟩:=st1 hk
    have hj0:=sn1 hk (.slice B16 m16 d16)
    have hBn:=bl1 (.slice B16 m16 d16) hg hBi.out
    refine wog hO (λK' hK=>?_)
    go_simp
    exact hK.out _ _ ⟨hBn,true,true,true,true,fl6,true,true,true,false,B15,m15,d15,B16,m16,d16,B17,m17,d17,ad7,ad8,by rfl,HKp,hBn,qf1.out.mono λh=>⟨h.1,zat (h.2) hk zcv (zcg _ _ _)⟩,qf3.out.mono λh=>⟨h.1,zat (h.2.1) hk zcv (zcg _ _ _),zat (h.2.2) hk zcv (zcg _ _ _)⟩,qf4.out.mono λh=>h,qf5.out.mono λh=>h,qf6.out.mono λh=>h,qf7.out.mono λh=>⟨h.1,h.2.1,hj0⟩,λhf9=>(λh=>⟨h.1,h.2.1,Blk.far (p:=⟨ad7,0,none⟩) (h.2.2) (Ne.symm (qn7_8.out rfl hf9)) (.slice B16 m16 d16)⟩) (qf8.out hf9),qn7_8,λ_=>rfl,λ_=>rfl,λ_=>rfl,λ_=>rfl,λ_=>rfl,λ_=>rfl,λ_=>rfl,Gd.no,Gd.no,Gd.no⟩
   ·obtain rfl:fl10=false:=zak hi
    obtain rfl:fl1=true:=rdp 1 4 hi hO
    obtain rfl:fl3=true:=rdp 3 6 hi hO
    obtain rfl:fl4=true:=rdp 4 7 hi hO
    obtain rfl:fl5=true:=rdp 5 8 hi hO
    obtain rfl:fl6=true:=rdp 6 1 hi hO
    obtain rfl:fl7=true:=rdp 7 10 hi hO
    obtain rfl:fl8=true:=rdp 8 0 hi hO
    obtain rfl:fl9=true:=rdp 9 2 hi hO
    have rd10:=qf8.out.get.1
    have rd35:=qf6.out.get
    obtain⟨_,hg,hk⟩:=qf8.out.get
    have hk:Blk w' ad8 37 #[.slice none 0 0]:=hk
    obtain⟨sc0,sf0⟩:=st1 hk
    have hj0:=sn1 hk (.slice B17 m17 d17)
    have hBn:=bl1 (.slice B17 m17 d17) hg hBi.out
    refine wog hO (λK' hK=>?_)
    go_simp
    exact hK.out _ _ ⟨hBn,true,true,true,true,true,true,true,true,true,B15,m15,d15,B16,m16,d16,B17,m17,d17,ad7,ad8,by rfl,HKp,hBn,qf1.out.mono λh=>⟨h.1,zat (h.2) hk zcv (zcg _ _ _)⟩,qf3.out.mono λh=>⟨h.1,zat (h.2.1) hk zcv (zcg _ _ _),zat (h.2.2) hk zcv (zcg _ _ _)⟩,qf4.out.mono λh=>h,qf5.out.mono λh=>h,qf6.out.mono λh=>h,λhf9=>(λh=>⟨h.1,h.2.1,Blk.far (p:=⟨ad8,0,none⟩) (h.2.2) (qn7_8.out hf9 rfl) (.slice B17 m17 d17)⟩) (qf7.out hf9),qf8.out.mono λh=>⟨h.1,h.2.1,hj0⟩,qn7_8,λ_=>rfl,λ_=>rfl,λ_=>rfl,λ_=>rfl,λ_=>rfl,λ_=>rfl,λ_=>rfl,λ_=>rfl,λ_=>rfl,λ_=>rfl⟩
 rintro a wm6 ⟨fl1,fl3,fl4,fl5,fl6,fl7,fl8,fl9,fl10,B15,m15,d15,B16,m16,d16,B17,m17,d17,ad7,ad8,hl,HKp,hBi,qf1,qf3,qf4,qf5,qf6,qf7,qf8,qn7_8,qd3_1,qd4_3,qd5_4,qd6_4,qd9_3,qd9_5,qd9_7,qd10_6,qd10_8,qd10_9⟩
 have xx1:fl1=true:=gdl 1 hl
 subst xx1
 have xx3:fl3=true:=gdl 3 hl
 subst xx3
 have xx4:fl4=true:=gdl 4 hl
 subst xx4
 have xx5:fl5=true:=gdl 5 hl
 subst xx5
 have xx6:fl6=true:=gdl 6 hl
 subst xx6
 have xx7:fl7=true:=gdl 7 hl
 subst xx7
 have xx8:fl8=true:=gdl 8 hl
 subst xx8
 have xx9:fl9=true:=gdl 9 hl
 subst xx9
 have xx10:fl10=true:=gdl 10 hl
 subst xx10
 obtain⟨rv1,hw15⟩:=qf1.out.get
 obtain⟨rv3,hw16,hw17⟩:=qf3.out.get
 have rv4:=qf4.out.get
 have rv5:=qf5.out.get
 have rv6:=qf6.out.get
 obtain⟨rv7,hg7,hk7⟩:=qf7.out.get
 obtain⟨rv8,hg8,hk8⟩:=qf8.out.get
 obtain rfl:=HKp.eq [(31,.agg #[.slice B15 m15 d15]),(33,.tuple #[.agg #[.slice B16 m16 d16],.agg #[.slice B17 m17 d17]]),(29,.tuple #[.agg #[.slice B16 m16 d16],.agg #[.slice B17 m17 d17]]),(34,.agg #[.slice B16 m16 d16]),(35,.agg #[.slice B17 m17 d17]),(9,.pointer (some ⟨ad7,0,none⟩)),(10,.pointer (some ⟨ad8,0,none⟩))] rfl (by
  intro p hp
  simp only [List.mem_cons,List.not_mem_nil,or_false] at hp
  rcases hp with rfl|rfl|rfl|rfl|rfl|rfl|rfl
  ·exact rv1
  ·exact rv3
  ·exact rv4
  ·exact rv5
  ·exact rv6
  ·exact rv7
  ·exact rv8)
 have hBv:=hBi.out
 clear hl hBi HKp qf1 qf3 qf4 qf5 qf6 qf7 qf8 qn7_8 qd3_1 qd4_3 qd5_4 qd6_4 qd9_3 qd9_5 qd9_7 qd10_6 qd10_8 qd10_9 rv1 rv3 rv4 rv5 rv6 rv7 rv8
 have hk7:Blk wm6 ad7 37 #[.slice B16 m16 d16]:=hk7
 have hk8:Blk wm6 ad8 37 #[.slice B17 m17 d17]:=hk8
 rw [show due #[true,true,true,true,true,true,true,true,true,true,true]=0 from rfl]
 simp only [zdp,List.foldl,Act.put,List.setIfInBounds_toArray,List.set_cons_zero,List.set_cons_succ]
 refine wpAnyH_done (by kernel_rfl) ?_ _
 refine NoPanic.normal ?_
 have hB:=zab hB hBv
 have g1:=zac hBv g1
 have e1:=zac hBv e1
 have i1:=zac hBv i1
 have g2:=zac hBv g2
 have e2:=zac hBv e2
 have i2:=zac hBv i2
 have k3:=zaa hBv k3
 have g5:=zac hBv g5
 have g9:=zac hBv g9
 have g10:=zac hBv g10
 have HN7:=lh9 (HN7.out.below hBv)
 have g14:=zac hBv g14
 have e14:=zac hBv e14
 have HN13:=lh9 (HN13.out.below hBv)
 obtain⟨ad7_18,hga⟩:∃x,x=ad7:=⟨_,rfl⟩
 subst hga
 have g18:=hk7.c1
 obtain⟨ad8_19,hga⟩:∃x,x=ad8:=⟨_,rfl⟩
 subst hga
 have g19:=hk8.c1
 have HN16:=lh9 hw16
 have HN17:=lh9 hw17
 clear hBv hk7 hk8 hw15 hw16 hw17 GG
 clear C0 C1
 go_wp2_with fail
 have C0:=lh9 (λw' (h:Below wm6.heap.size wm6 w')=>zay (HST.out) (HIC.out.belowI ((r.num*(((s.den / Nat.gcd r.den s.den):Nat):Int))+(s.num*(((r.den / Nat.gcd r.den s.den):Nat):Int))) b13 B13 m13 d13 w' (HT.out _ (zab hB h)) (HN13.out.below h) (szi HZ13 HN13.out)))
 have HZ20:Hid (Sz (K+K) ((r.den / Nat.gcd r.den s.den)*(s.den / Nat.gcd (((r.num*(((s.den / Nat.gcd r.den s.den):Nat):Int))+(s.num*(((r.den / Nat.gcd r.den s.den):Nat):Int))).natAbs) s.den))):=Sz.mul HZ7.out HZ17.out
 have C1:=lh9 (λw' (h:Below wm6.heap.size wm6 w')=>zhq (r.den / Nat.gcd r.den s.den) (s.den / Nat.gcd (((r.num*(((s.den / Nat.gcd r.den s.den):Nat):Int))+(s.num*(((r.den / Nat.gcd r.den s.den):Nat):Int))).natAbs) s.den) B7 B17 m7 m17 d7 d17 w' (HN7.out.below h) (HN17.out.below h) (szw HZ7 HN7.out) (szw HZ17 HN17.out))
 have C2:=lh9 (λw' (h:Below wm6.heap.size wm6 w') B20 m20 d20 (hw20:zad w' ((r.den / Nat.gcd r.den s.den)*(s.den / Nat.gcd (((r.num*(((s.den / Nat.gcd r.den s.den):Nat):Int))+(s.num*(((r.den / Nat.gcd r.den s.den):Nat):Int))).natAbs) s.den)) B20 m20 d20)=>zdY (r+s) st ((((r.num*(((s.den / Nat.gcd r.den s.den):Nat):Int))+(s.num*(((r.den / Nat.gcd r.den s.den):Nat):Int))).natAbs) / Nat.gcd (((r.num*(((s.den / Nat.gcd r.den s.den):Nat):Int))+(s.num*(((r.den / Nat.gcd r.den s.den):Nat):Int))).natAbs) s.den) ((r.den / Nat.gcd r.den s.den)*(s.den / Nat.gcd (((r.num*(((s.den / Nat.gcd r.den s.den):Nat):Int))+(s.num*(((r.den / Nat.gcd r.den s.den):Nat):Int))).natAbs) s.den)) B16 m16 d16 B20 m20 d20 w' (HT.out _ (zab hB h)) (HN16.out.below h) hw20 (szw HZ16 HN16.out) (szw HZ20 hw20) (HMP.out.1) (HMP.out.2))
 have hBw:=(Below.refl wm6.heap.size wm6).drew
 refine rg (csc g14 (csc e14 (csc g18 (csc g9 (csc g19 csn))))) (λhHeld=>?_)
 refine tk 0 ?_
 refine tk 2 ?_
 refine tk 3 ?_
 refine tk 4 ?_
 refine rc 1 (λK hK=>?_)
 go_simp
 go_at_call 107;(with_reducible refine(C0.out _ hBw).mono ?_);rintro e wa7 ⟨rfl,hb⟩;have hBw:=zab hBw hb;refine hK.out _ _ (Cs.below hHeld hb) (λhHeld=>?_);clear hK K hb
 try simp only [sb9]
 refine rc 5 (λK hK=>?_)
 go_simp
 go_at_call 108;(with_reducible refine(C1.out _ hBw).mono ?_);rintro e wa8 ⟨B20,m20,d20,rfl,hw20,hb,_⟩;have hBw:=zab hBw hb;refine hK.out _ _ (Cs.below hHeld hb) (λhHeld=>?_);clear hK K hb
 try simp only [sb9]
 refine rc 6 (λK hK=>?_)
 go_simp
 go_at_call 106;(with_reducible refine(C2.out _ hBw _ _ _ hw20).mono ?_);rintro e wa9 ⟨b21,B21,m21,d21,E21,u21,v21,rfl,hw21,hb⟩;have hBw:=zab hBw hb;have hw20:=hw20.below hb;refine hK.out _ _ (Cs.below hHeld hb) (λhHeld=>?_);clear hK K hb
 try simp only [sb9]
 obtain⟨sc0,sf0,sc1,sf1,sc2,sf2⟩:=st3 (zaa hBw k3) (.bool b21) (.slice B21 m21 d21)
 refine rc 7 (λK hK=>?_)
 go_simp
 refine hK.out _ _ (cs3 (.bool b21) (.slice B21 m21 d21) (.slice E21 u21 v21) hHeld) (λhHeld=>?_);clear hK K
 try simp only [sb9]
 refine rdn ?_
 have hB:=zab hB hBw
 have g1:=zac hBw g1
 have e1:=zac hBw e1
 have i1:=zac hBw i1
 have g2:=zac hBw g2
 have e2:=zac hBw e2
 have i2:=zac hBw i2
 have k3:=zaa hBw k3
 have g5:=zac hBw g5
 have g9:=zac hBw g9
 have g10:=zac hBw g10
 have g14:=zac hBw g14
 have e14:=zac hBw e14
 have g18:=zac hBw g18
 have g19:=zac hBw g19
 have HN21:=lh9 hw21
 clear hBw hHeld hw20 hw21 C0 C1 C2
 obtain⟨r0,r1,r2⟩:=(sn3 k3 (.bool b21) (.slice B21 m21 d21) (.slice E21 u21 v21)).c3
 have HG:=lh9 (gq3 (HN21.out) k3 hB (by omega))
 go_wp2
 refine bodyPost_ret (v:=.agg #[.bool b21,.slice B21 m21 d21,.slice E21 u21 v21]) (by simp [results,Tryz.results178,go_sem,r0,r1,r2]) rfl ?_
 exact HG.out
theorem zqJ (r:Rat)(s:Rat)(baa:Bool)(Baa:oA9)(maa daa:Nat)(Eaa:oA9)(uaa vaa:Nat)(bab:Bool)(Bab:oA9)(mab dab:Nat)(Eab:oA9)(uab vab:Nat)(w:World)(hT:zai w)(haa:zah w r baa Baa maa daa Eaa uaa vaa)(hab:zah w s bab Bab mab dab Eab uab vab)(qaa:zaT maa uaa)(qab:zaT mab uab)(h1:r=0):
  Calls Tryz.prog 126 #[.agg #[.bool baa,.slice Baa maa daa,.slice Eaa uaa vaa],.agg #[.bool bab,.slice Bab mab dab,.slice Eab uab vab]] w (zaH w (r+s)):=by
 have HT:=lh9 (λw' (hb:Below w.heap.size w w')=>hT.on hb)
 have HTB:=HT
 obtain⟨K,hKe⟩:∃K,67108864=K:=⟨_,rfl⟩
 have hKK:K<=67108864:=by omega
 have hK0:0<K:=by omega
 have HE:Hid (s=r+s):=by show _=_;rw [h1,Rat.zero_add]
 have H1:=lh9 h1
 have HNaa:=lh9 (λw' (b:Below w.heap.size w w')=>haa.below b)
 obtain⟨xaa,hxaa,hxwaa⟩:=haa.2
 have HZaa:Hid (SzQ K r):=zaM haa qaa hKe
 have HZaap:Hid (Sz K r.num.natAbs):=HZaa.out.num
 have HZaaq:Hid (Sz K xaa):=zar HZaa.out.den hxaa
 clear haa qaa hxaa hxwaa
 have HNab:=lh9 (λw' (b:Below w.heap.size w w')=>hab.below b)
 obtain⟨xab,hxab,hxwab⟩:=hab.2
 have HZab:Hid (SzQ K s):=zaM hab qab hKe
 have HZabp:Hid (Sz K s.num.natAbs):=HZab.out.num
 have HZabq:Hid (Sz K xab):=zar HZab.out.den hxab
 clear hab qab hxab hxwab
 clear hT hKe h1
 go_enter Tryz.func126,Tryz.ntmps126
 have hB:=Below.refl w.heap.size w
 obtain⟨bx1,bx2,bx3,bx4,bz⟩:=zbL w 41 41 41 #[.bool baa,.slice Baa maa daa,.slice Eaa uaa vaa] #[.bool bab,.slice Bab mab dab,.slice Eab uab vab] #[.bool false,.slice none 0 0,.slice none 0 0]
 have hB:=zab hB bx1
 obtain⟨g1,e1,i1⟩:=bx2.c3
 obtain⟨g2,e2,i2⟩:=bx3.c3
 have k3:=bx4
 clear bx1 bx2 bx3 bx4 bz
 go_wp2_with fail
 generalize ((w.alloc (.cells #[.bool baa,.slice Baa maa daa,.slice Eaa uaa vaa] 41)).alloc (.cells #[.bool bab,.slice Bab mab dab,.slice Eab uab vab] 41)).alloc (.cells #[.bool false,.slice none 0 0,.slice none 0 0] 41)=W1 at*
 (with_reducible refine(zay (decide_eq_true H1.out) (zbb (r) baa Baa maa daa Eaa uaa vaa _ (HT.out _ hB) (HNaa.out _ hB) (szq HZaa (HNaa.out _ hB)))).mono ?_)
 rintro e wc2 ⟨rfl,hb⟩
 have hB:=zab hB hb
 have g1:=zac hb g1
 have e1:=zac hb e1
 have i1:=zac hb i1
 have g2:=zac hb g2
 have e2:=zac hb e2
 have i2:=zac hb i2
 have k3:=zaa hb k3
 clear hb 
 go_wp2_with fail
 have HZ4:Hid (SzQ (K) (s)):=HZab.out
 (with_reducible refine(zla (s) bab Bab mab dab Eab uab vab _ (HT.out _ hB) (HNab.out _ hB) (szq HZab (HNab.out _ hB))).mono ?_)
 rintro e wc3 ⟨b4,B4,m4,d4,E4,u4,v4,rfl,hw4,hb⟩
 have hB:=zab hB hb
 have g1:=zac hb g1
 have e1:=zac hb e1
 have i1:=zac hb i1
 have g2:=zac hb g2
 have e2:=zac hb e2
 have i2:=zac hb i2
 have k3:=zaa hb k3
 have HN4:=lh9 hw4
 clear hb hw4
 obtain⟨sc0,sf0,sc1,sf1,sc2,sf2⟩:=st3 k3 (.bool b4) (.slice B4 m4 d4)
 obtain⟨r0,r1,r2⟩:=(sn3 k3 (.bool b4) (.slice B4 m4 d4) (.slice E4 u4 v4)).c3
 have HG:=lh9 (gq3 (zah.to HE.out HN4.out) k3 hB (by omega))
 go_wp2
 refine bodyPost_ret (v:=.agg #[.bool b4,.slice B4 m4 d4,.slice E4 u4 v4]) (by simp [results,Tryz.results126,go_sem,r0,r1,r2]) rfl ?_
 exact HG.out
theorem zqK (r:Rat)(s:Rat)(baa:Bool)(Baa:oA9)(maa daa:Nat)(Eaa:oA9)(uaa vaa:Nat)(bab:Bool)(Bab:oA9)(mab dab:Nat)(Eab:oA9)(uab vab:Nat)(w:World)(hT:zai w)(haa:zah w r baa Baa maa daa Eaa uaa vaa)(hab:zah w s bab Bab mab dab Eab uab vab)(qaa:zaT maa uaa)(qab:zaT mab uab)(h1:r≠0)(h2:s=0):
  Calls Tryz.prog 126 #[.agg #[.bool baa,.slice Baa maa daa,.slice Eaa uaa vaa],.agg #[.bool bab,.slice Bab mab dab,.slice Eab uab vab]] w (zaH w (r+s)):=by
 have HT:=lh9 (λw' (hb:Below w.heap.size w w')=>hT.on hb)
 have HTB:=HT
 obtain⟨K,hKe⟩:∃K,67108864=K:=⟨_,rfl⟩
 have hKK:K<=67108864:=by omega
 have hK0:0<K:=by omega
 have HE:Hid (r=r+s):=by show _=_;rw [h2,Rat.add_zero]
 have H1:=lh9 h1
 have H2:=lh9 h2
 have HNaa:=lh9 (λw' (b:Below w.heap.size w w')=>haa.below b)
 obtain⟨xaa,hxaa,hxwaa⟩:=haa.2
 have HZaa:Hid (SzQ K r):=zaM haa qaa hKe
 have HZaap:Hid (Sz K r.num.natAbs):=HZaa.out.num
 have HZaaq:Hid (Sz K xaa):=zar HZaa.out.den hxaa
 clear haa qaa hxaa hxwaa
 have HNab:=lh9 (λw' (b:Below w.heap.size w w')=>hab.below b)
 obtain⟨xab,hxab,hxwab⟩:=hab.2
 have HZab:Hid (SzQ K s):=zaM hab qab hKe
 have HZabp:Hid (Sz K s.num.natAbs):=HZab.out.num
 have HZabq:Hid (Sz K xab):=zar HZab.out.den hxab
 clear hab qab hxab hxwab
 clear hT hKe h1 h2
 go_enter Tryz.func126,Tryz.ntmps126
 have hB:=Below.refl w.heap.size w
 obtain⟨bx1,bx2,bx3,bx4,bz⟩:=zbL w 41 41 41 #[.bool baa,.slice Baa maa daa,.slice Eaa uaa vaa] #[.bool bab,.slice Bab mab dab,.slice Eab uab vab] #[.bool false,.slice none 0 0,.slice none 0 0]
 have hB:=zab hB bx1
 obtain⟨g1,e1,i1⟩:=bx2.c3
 obtain⟨g2,e2,i2⟩:=bx3.c3
 have k3:=bx4
 clear bx1 bx2 bx3 bx4 bz
 go_wp2_with fail
 generalize ((w.alloc (.cells #[.bool baa,.slice Baa maa daa,.slice Eaa uaa vaa] 41)).alloc (.cells #[.bool bab,.slice Bab mab dab,.slice Eab uab vab] 41)).alloc (.cells #[.bool false,.slice none 0 0,.slice none 0 0] 41)=W1 at*
 (with_reducible refine(zay (decide_eq_false H1.out) (zbb (r) baa Baa maa daa Eaa uaa vaa _ (HT.out _ hB) (HNaa.out _ hB) (szq HZaa (HNaa.out _ hB)))).mono ?_)
 rintro e wc2 ⟨rfl,hb⟩
 have hB:=zab hB hb
 have g1:=zac hb g1
 have e1:=zac hb e1
 have i1:=zac hb i1
 have g2:=zac hb g2
 have e2:=zac hb e2
 have i2:=zac hb i2
 have k3:=zaa hb k3
 clear hb 
 go_wp2_with fail
 (with_reducible refine(zay (decide_eq_true H2.out) (zbb (s) bab Bab mab dab Eab uab vab _ (HT.out _ hB) (HNab.out _ hB) (szq HZab (HNab.out _ hB)))).mono ?_)
 rintro e wc3 ⟨rfl,hb⟩
 have hB:=zab hB hb
 have g1:=zac hb g1
 have e1:=zac hb e1
 have i1:=zac hb i1
 have g2:=zac hb g2
 have e2:=zac hb e2
 have i2:=zac hb i2
 have k3:=zaa hb k3
 clear hb 
 go_wp2_with fail
 have HZ4:Hid (SzQ (K) (r)):=HZaa.out
 (with_reducible refine(zla (r) baa Baa maa daa Eaa uaa vaa _ (HT.out _ hB) (HNaa.out _ hB) (szq HZaa (HNaa.out _ hB))).mono ?_)
 rintro e wc4 ⟨b4,B4,m4,d4,E4,u4,v4,rfl,hw4,hb⟩
 have hB:=zab hB hb
 have g1:=zac hb g1
 have e1:=zac hb e1
 have i1:=zac hb i1
 have g2:=zac hb g2
 have e2:=zac hb e2
 have i2:=zac hb i2
 have k3:=zaa hb k3
 have HN4:=lh9 hw4
 clear hb hw4
 obtain⟨sc0,sf0,sc1,sf1,sc2,sf2⟩:=st3 k3 (.bool b4) (.slice B4 m4 d4)
 obtain⟨r0,r1,r2⟩:=(sn3 k3 (.bool b4) (.slice B4 m4 d4) (.slice E4 u4 v4)).c3
 have HG:=lh9 (gq3 (zah.to HE.out HN4.out) k3 hB (by omega))
 go_wp2
 refine bodyPost_ret (v:=.agg #[.bool b4,.slice B4 m4 d4,.slice E4 u4 v4]) (by simp [results,Tryz.results126,go_sem,r0,r1,r2]) rfl ?_
 exact HG.out
theorem zqL (r:Rat)(s:Rat)(baa:Bool)(Baa:oA9)(maa daa:Nat)(Eaa:oA9)(uaa vaa:Nat)(bab:Bool)(Bab:oA9)(mab dab:Nat)(Eab:oA9)(uab vab:Nat)(w:World)(hT:zai w)(haa:zah w r baa Baa maa daa Eaa uaa vaa)(hab:zah w s bab Bab mab dab Eab uab vab)(qaa:zaT maa uaa)(qab:zaT mab uab)(h1:r≠0)(h2:s≠0)(h3:r.den=1)(h4:s.den=1):
  Calls Tryz.prog 126 #[.agg #[.bool baa,.slice Baa maa daa,.slice Eaa uaa vaa],.agg #[.bool bab,.slice Bab mab dab,.slice Eab uab vab]] w (zaH w (r+s)):=by
 have HIC:=lh9 (zbV (T:=zai))
 have HT:=lh9 (λw' (hb:Below w.heap.size w w')=>hT.on hb)
 have HTB:=HT
 obtain⟨K,hKe⟩:∃K,67108864=K:=⟨_,rfl⟩
 have hKK:K<=67108864:=by omega
 have hK0:0<K:=by omega
 have HE:Hid (((r.num+s.num:Int):Rat)=r+s):=(zrn h3 h4).symm
 have H1:=lh9 h1
 have H2:=lh9 h2
 have H3:=lh9 h3
 have H4:=lh9 h4
 have HNaa:=lh9 (λw' (b:Below w.heap.size w w')=>haa.below b)
 obtain⟨xaa,hxaa,hxwaa⟩:=haa.2
 have HZaa:Hid (SzQ K r):=zaM haa qaa hKe
 have HZaap:Hid (Sz K r.num.natAbs):=HZaa.out.num
 have HZaaq:Hid (Sz K xaa):=zar HZaa.out.den hxaa
 have HNaap:=lh9 (λw' (b:Below w.heap.size w w')=>haa.1.below b)
 clear haa qaa hxaa hxwaa
 have HNab:=lh9 (λw' (b:Below w.heap.size w w')=>hab.below b)
 obtain⟨xab,hxab,hxwab⟩:=hab.2
 have HZab:Hid (SzQ K s):=zaM hab qab hKe
 have HZabp:Hid (Sz K s.num.natAbs):=HZab.out.num
 have HZabq:Hid (Sz K xab):=zar HZab.out.den hxab
 have HNabp:=lh9 (λw' (b:Below w.heap.size w w')=>hab.1.below b)
 clear hab qab hxab hxwab
 clear hT hKe h1 h2 h3 h4
 go_enter Tryz.func126,Tryz.ntmps126
 have hB:=Below.refl w.heap.size w
 obtain⟨bx1,bx2,bx3,bx4,bz⟩:=zbL w 41 41 41 #[.bool baa,.slice Baa maa daa,.slice Eaa uaa vaa] #[.bool bab,.slice Bab mab dab,.slice Eab uab vab] #[.bool false,.slice none 0 0,.slice none 0 0]
 have hB:=zab hB bx1
 obtain⟨g1,e1,i1⟩:=bx2.c3
 obtain⟨g2,e2,i2⟩:=bx3.c3
 have k3:=bx4
 clear bx1 bx2 bx3 bx4 bz
 go_wp2_with fail
 generalize ((w.alloc (.cells #[.bool baa,.slice Baa maa daa,.slice Eaa uaa vaa] 41)).alloc (.cells #[.bool bab,.slice Bab mab dab,.slice Eab uab vab] 41)).alloc (.cells #[.bool false,.slice none 0 0,.slice none 0 0] 41)=W1 at*
 (with_reducible refine(zay (decide_eq_false H1.out) (zbb (r) baa Baa maa daa Eaa uaa vaa _ (HT.out _ hB) (HNaa.out _ hB) (szq HZaa (HNaa.out _ hB)))).mono ?_)
 rintro e wc2 ⟨rfl,hb⟩
 have hB:=zab hB hb
 have g1:=zac hb g1
 have e1:=zac hb e1
 have i1:=zac hb i1
 have g2:=zac hb g2
 have e2:=zac hb e2
 have i2:=zac hb i2
 have k3:=zaa hb k3
 clear hb 
 go_wp2_with fail
 (with_reducible refine(zay (decide_eq_false H2.out) (zbb (s) bab Bab mab dab Eab uab vab _ (HT.out _ hB) (HNab.out _ hB) (szq HZab (HNab.out _ hB)))).mono ?_)
 rintro e wc3 ⟨rfl,hb⟩
 have hB:=zab hB hb
 have g1:=zac hb g1
 have e1:=zac hb e1
 have i1:=zac hb i1
 have g2:=zac hb g2
 have e2:=zac hb e2
 have i2:=zac hb i2
 have k3:=zaa hb k3
 clear hb 
 go_wp2_with fail
 (with_reducible refine(zay (decide_eq_true H3.out) (zby (r) baa Baa maa daa Eaa uaa vaa _ (HT.out _ hB) (HNaa.out _ hB) (szq HZaa (HNaa.out _ hB)))).mono ?_)
 rintro e wc4 ⟨rfl,hb⟩
 have hB:=zab hB hb
 have g1:=zac hb g1
 have e1:=zac hb e1
 have i1:=zac hb i1
 have g2:=zac hb g2
 have e2:=zac hb e2
 have i2:=zac hb i2
 have k3:=zaa hb k3
 clear hb 
 go_wp2_with fail
 (with_reducible refine(zay (decide_eq_true H4.out) (zby (s) bab Bab mab dab Eab uab vab _ (HT.out _ hB) (HNab.out _ hB) (szq HZab (HNab.out _ hB)))).mono ?_)
 rintro e wc5 ⟨rfl,hb⟩
 have hB:=zab hB hb
 have g1:=zac hb g1
 have e1:=zac hb e1
 have i1:=zac hb i1
 have g2:=zac hb g2
 have e2:=zac hb e2
 have i2:=zac hb i2
 have k3:=zaa hb k3
 clear hb 
 go_wp2_with fail
 have HZ4:Hid (Sz (K+1) (r.num+s.num).natAbs):=znz HZaap.out HZabp.out
 (with_reducible refine(HIC.out.add (r.num) (s.num) baa bab Baa Bab maa mab daa dab _ (HT.out _ hB) (HNaap.out _ hB) (HNabp.out _ hB) (szi HZaap (HNaap.out _ hB)) (szi HZabp (HNabp.out _ hB))).mono ?_)
 rintro e wc6 ⟨b4,B4,m4,d4,rfl,hw4,hb⟩
 have hB:=zab hB hb
 have g1:=zac hb g1
 have e1:=zac hb e1
 have i1:=zac hb i1
 have g2:=zac hb g2
 have e2:=zac hb e2
 have i2:=zac hb i2
 have k3:=zaa hb k3
 have HN4:=lh9 hw4
 clear hb hw4
 obtain⟨sc0,sf0,sc1,sf1,sc2,sf2⟩:=st3 k3 (.bool b4) (.slice B4 m4 d4)
 obtain⟨r0,r1,r2⟩:=(sn3 k3 (.bool b4) (.slice B4 m4 d4) (.slice none 0 0)).c3
 have HG:=lh9 (gq3 (zah.to HE.out (zeP HN4.out)) k3 hB (by omega))
 go_wp2
 refine bodyPost_ret (v:=.agg #[.bool b4,.slice B4 m4 d4,.slice none 0 0]) (by simp [results,Tryz.results126,go_sem,r0,r1,r2]) rfl ?_
 exact HG.out
theorem zqM (r:Rat)(s:Rat)(baa:Bool)(Baa:oA9)(maa daa:Nat)(Eaa:oA9)(uaa vaa:Nat)(bab:Bool)(Bab:oA9)(mab dab:Nat)(Eab:oA9)(uab vab:Nat)(w:World)(hT:zai w)(haa:zah w r baa Baa maa daa Eaa uaa vaa)(hab:zah w s bab Bab mab dab Eab uab vab)(qaa:zaT maa uaa)(qab:zaT mab uab)(h1:r≠0)(h2:s≠0)(h3:r.den≠1):
  Calls Tryz.prog 126 #[.agg #[.bool baa,.slice Baa maa daa,.slice Eaa uaa vaa],.agg #[.bool bab,.slice Bab mab dab,.slice Eab uab vab]] w (zaH w (r+s)):=by
 have HT:=lh9 (λw' (hb:Below w.heap.size w w')=>hT.on hb)
 have HTB:=HT
 obtain⟨K,hKe⟩:∃K,67108864=K:=⟨_,rfl⟩
 have hKK:K<=67108864:=by omega
 have hK0:0<K:=by omega
 have H1:=lh9 h1
 have H2:=lh9 h2
 have H3:=lh9 h3
 have HNaa:=lh9 (λw' (b:Below w.heap.size w w')=>haa.below b)
 obtain⟨xaa,hxaa,hxwaa⟩:=haa.2
 have HZaa:Hid (SzQ K r):=zaM haa qaa hKe
 have HZaap:Hid (Sz K r.num.natAbs):=HZaa.out.num
 have HZaaq:Hid (Sz K xaa):=zar HZaa.out.den hxaa
 clear haa qaa hxaa hxwaa
 have HNab:=lh9 (λw' (b:Below w.heap.size w w')=>hab.below b)
 obtain⟨xab,hxab,hxwab⟩:=hab.2
 have HZab:Hid (SzQ K s):=zaM hab qab hKe
 have HZabp:Hid (Sz K s.num.natAbs):=HZab.out.num
 have HZabq:Hid (Sz K xab):=zar HZab.out.den hxab
 clear hab qab hxab hxwab
 clear hT hKe h1 h2 h3
 go_enter Tryz.func126,Tryz.ntmps126
 have hB:=Below.refl w.heap.size w
 obtain⟨bx1,bx2,bx3,bx4,bz⟩:=zbL w 41 41 41 #[.bool baa,.slice Baa maa daa,.slice Eaa uaa vaa] #[.bool bab,.slice Bab mab dab,.slice Eab uab vab] #[.bool false,.slice none 0 0,.slice none 0 0]
 have hB:=zab hB bx1
 obtain⟨g1,e1,i1⟩:=bx2.c3
 obtain⟨g2,e2,i2⟩:=bx3.c3
 have k3:=bx4
 clear bx1 bx2 bx3 bx4 bz
 go_wp2_with fail
 generalize ((w.alloc (.cells #[.bool baa,.slice Baa maa daa,.slice Eaa uaa vaa] 41)).alloc (.cells #[.bool bab,.slice Bab mab dab,.slice Eab uab vab] 41)).alloc (.cells #[.bool false,.slice none 0 0,.slice none 0 0] 41)=W1 at*
 (with_reducible refine(zay (decide_eq_false H1.out) (zbb (r) baa Baa maa daa Eaa uaa vaa _ (HT.out _ hB) (HNaa.out _ hB) (szq HZaa (HNaa.out _ hB)))).mono ?_)
 rintro e wc2 ⟨rfl,hb⟩
 have hB:=zab hB hb
 have g1:=zac hb g1
 have e1:=zac hb e1
 have i1:=zac hb i1
 have g2:=zac hb g2
 have e2:=zac hb e2
 have i2:=zac hb i2
 have k3:=zaa hb k3
 clear hb 
 go_wp2_with fail
 (with_reducible refine(zay (decide_eq_false H2.out) (zbb (s) bab Bab mab dab Eab uab vab _ (HT.out _ hB) (HNab.out _ hB) (szq HZab (HNab.out _ hB)))).mono ?_)
 rintro e wc3 ⟨rfl,hb⟩
 have hB:=zab hB hb
 have g1:=zac hb g1
 have e1:=zac hb e1
 have i1:=zac hb i1
 have g2:=zac hb g2
 have e2:=zac hb e2
 have i2:=zac hb i2
 have k3:=zaa hb k3
 clear hb 
 go_wp2_with fail
 (with_reducible refine(zay (decide_eq_false H3.out) (zby (r) baa Baa maa daa Eaa uaa vaa _ (HT.out _ hB) (HNaa.out _ hB) (szq HZaa (HNaa.out _ hB)))).mono ?_)
 rintro e wc4 ⟨rfl,hb⟩
 have hB:=zab hB hb
 have g1:=zac hb g1
 have e1:=zac hb e1
 have i1:=zac hb i1
 have g2:=zac hb g2
 have e2:=zac hb e2
 have i2:=zac hb i2
 have k3:=zaa hb k3
 clear hb 
 go_wp2_with fail
 have HZ4:Hid (SzQ (K+K+1) (r+s)):=SzQ.add HZaa.out HZab.out
 (with_reducible refine(zir (r) (s) baa Baa maa daa Eaa uaa vaa bab Bab mab dab Eab uab vab _ (HT.out _ hB) (HNaa.out _ hB) (HNab.out _ hB) (szq HZaa (HNaa.out _ hB)) (szq HZab (HNab.out _ hB))).mono ?_)
 rintro e wc5 ⟨b4,B4,m4,d4,E4,u4,v4,rfl,hw4,hb⟩
 have hB:=zab hB hb
 have g1:=zac hb g1
 have e1:=zac hb e1
 have i1:=zac hb i1
 have g2:=zac hb g2
 have e2:=zac hb e2
 have i2:=zac hb i2
 have k3:=zaa hb k3
 have HN4:=lh9 hw4
 clear hb hw4
 obtain⟨sc0,sf0,sc1,sf1,sc2,sf2⟩:=st3 k3 (.bool b4) (.slice B4 m4 d4)
 obtain⟨r0,r1,r2⟩:=(sn3 k3 (.bool b4) (.slice B4 m4 d4) (.slice E4 u4 v4)).c3
 have HG:=lh9 (gq3 (HN4.out) k3 hB (by omega))
 go_wp2
 refine bodyPost_ret (v:=.agg #[.bool b4,.slice B4 m4 d4,.slice E4 u4 v4]) (by simp [results,Tryz.results126,go_sem,r0,r1,r2]) rfl ?_
 exact HG.out
theorem zqN (r:Rat)(s:Rat)(baa:Bool)(Baa:oA9)(maa daa:Nat)(Eaa:oA9)(uaa vaa:Nat)(bab:Bool)(Bab:oA9)(mab dab:Nat)(Eab:oA9)(uab vab:Nat)(w:World)(hT:zai w)(haa:zah w r baa Baa maa daa Eaa uaa vaa)(hab:zah w s bab Bab mab dab Eab uab vab)(qaa:zaT maa uaa)(qab:zaT mab uab)(h1:r≠0)(h2:s≠0)(h3:r.den=1)(h4:s.den≠1):
  Calls Tryz.prog 126 #[.agg #[.bool baa,.slice Baa maa daa,.slice Eaa uaa vaa],.agg #[.bool bab,.slice Bab mab dab,.slice Eab uab vab]] w (zaH w (r+s)):=by
 have HT:=lh9 (λw' (hb:Below w.heap.size w w')=>hT.on hb)
 have HTB:=HT
 obtain⟨K,hKe⟩:∃K,67108864=K:=⟨_,rfl⟩
 have hKK:K<=67108864:=by omega
 have hK0:0<K:=by omega
 have H1:=lh9 h1
 have H2:=lh9 h2
 have H3:=lh9 h3
 have H4:=lh9 h4
 have HNaa:=lh9 (λw' (b:Below w.heap.size w w')=>haa.below b)
 obtain⟨xaa,hxaa,hxwaa⟩:=haa.2
 have HZaa:Hid (SzQ K r):=zaM haa qaa hKe
 have HZaap:Hid (Sz K r.num.natAbs):=HZaa.out.num
 have HZaaq:Hid (Sz K xaa):=zar HZaa.out.den hxaa
 clear haa qaa hxaa hxwaa
 have HNab:=lh9 (λw' (b:Below w.heap.size w w')=>hab.below b)
 obtain⟨xab,hxab,hxwab⟩:=hab.2
 have HZab:Hid (SzQ K s):=zaM hab qab hKe
 have HZabp:Hid (Sz K s.num.natAbs):=HZab.out.num
 have HZabq:Hid (Sz K xab):=zar HZab.out.den hxab
 clear hab qab hxab hxwab
 clear hT hKe h1 h2 h3 h4
 go_enter Tryz.func126,Tryz.ntmps126
 have hB:=Below.refl w.heap.size w
 obtain⟨bx1,bx2,bx3,bx4,bz⟩:=zbL w 41 41 41 #[.bool baa,.slice Baa maa daa,.slice Eaa uaa vaa] #[.bool bab,.slice Bab mab dab,.slice Eab uab vab] #[.bool false,.slice none 0 0,.slice none 0 0]
 have hB:=zab hB bx1
 obtain⟨g1,e1,i1⟩:=bx2.c3
 obtain⟨g2,e2,i2⟩:=bx3.c3
 have k3:=bx4
 clear bx1 bx2 bx3 bx4 bz
 go_wp2_with fail
 generalize ((w.alloc (.cells #[.bool baa,.slice Baa maa daa,.slice Eaa uaa vaa] 41)).alloc (.cells #[.bool bab,.slice Bab mab dab,.slice Eab uab vab] 41)).alloc (.cells #[.bool false,.slice none 0 0,.slice none 0 0] 41)=W1 at*
 (with_reducible refine(zay (decide_eq_false H1.out) (zbb (r) baa Baa maa daa Eaa uaa vaa _ (HT.out _ hB) (HNaa.out _ hB) (szq HZaa (HNaa.out _ hB)))).mono ?_)
 rintro e wc2 ⟨rfl,hb⟩
 have hB:=zab hB hb
 have g1:=zac hb g1
 have e1:=zac hb e1
 have i1:=zac hb i1
 have g2:=zac hb g2
 have e2:=zac hb e2
 have i2:=zac hb i2
 have k3:=zaa hb k3
 clear hb 
 go_wp2_with fail
 (with_reducible refine(zay (decide_eq_false H2.out) (zbb (s) bab Bab mab dab Eab uab vab _ (HT.out _ hB) (HNab.out _ hB) (szq HZab (HNab.out _ hB)))).mono ?_)
 rintro e wc3 ⟨rfl,hb⟩
 have hB:=zab hB hb
 have g1:=zac hb g1
 have e1:=zac hb e1
 have i1:=zac hb i1
 have g2:=zac hb g2
 have e2:=zac hb e2
 have i2:=zac hb i2
 have k3:=zaa hb k3
 clear hb 
 go_wp2_with fail
 (with_reducible refine(zay (decide_eq_true H3.out) (zby (r) baa Baa maa daa Eaa uaa vaa _ (HT.out _ hB) (HNaa.out _ hB) (szq HZaa (HNaa.out _ hB)))).mono ?_)
 rintro e wc4 ⟨rfl,hb⟩
 have hB:=zab hB hb
 have g1:=zac hb g1
 have e1:=zac hb e1
 have i1:=zac hb i1
 have g2:=zac hb g2
 have e2:=zac hb e2
 have i2:=zac hb i2
 have k3:=zaa hb k3
 clear hb 
 go_wp2_with fail
 (with_reducible refine(zay (decide_eq_false H4.out) (zby (s) bab Bab mab dab Eab uab vab _ (HT.out _ hB) (HNab.out _ hB) (szq HZab (HNab.out _ hB)))).mono ?_)
 rintro e wc5 ⟨rfl,hb⟩
 have hB:=zab hB hb
 have g1:=zac hb g1
 have e1:=zac hb e1
 have i1:=zac hb i1
 have g2:=zac hb g2
 have e2:=zac hb e2
 have i2:=zac hb i2
 have k3:=zaa hb k3
 clear hb 
 go_wp2_with fail
 have HZ4:Hid (SzQ (K+K+1) (r+s)):=SzQ.add HZaa.out HZab.out
 (with_reducible refine(zir (r) (s) baa Baa maa daa Eaa uaa vaa bab Bab mab dab Eab uab vab _ (HT.out _ hB) (HNaa.out _ hB) (HNab.out _ hB) (szq HZaa (HNaa.out _ hB)) (szq HZab (HNab.out _ hB))).mono ?_)
 rintro e wc6 ⟨b4,B4,m4,d4,E4,u4,v4,rfl,hw4,hb⟩
 have hB:=zab hB hb
 have g1:=zac hb g1
 have e1:=zac hb e1
 have i1:=zac hb i1
 have g2:=zac hb g2
 have e2:=zac hb e2
 have i2:=zac hb i2
 have k3:=zaa hb k3
 have HN4:=lh9 hw4
 clear hb hw4
 obtain⟨sc0,sf0,sc1,sf1,sc2,sf2⟩:=st3 k3 (.bool b4) (.slice B4 m4 d4)
 obtain⟨r0,r1,r2⟩:=(sn3 k3 (.bool b4) (.slice B4 m4 d4) (.slice E4 u4 v4)).c3
 have HG:=lh9 (gq3 (HN4.out) k3 hB (by omega))
 go_wp2
 refine bodyPost_ret (v:=.agg #[.bool b4,.slice B4 m4 d4,.slice E4 u4 v4]) (by simp [results,Tryz.results126,go_sem,r0,r1,r2]) rfl ?_
 exact HG.out
theorem ziN (r s:Rat)(baa:Bool)(Baa:oA9)(maa daa:Nat)(Eaa:oA9)(uaa vaa:Nat)(bab:Bool)(Bab:oA9)(mab dab:Nat)(Eab:oA9)(uab vab:Nat)(w:World)(hT:zai w)(haa:zah w r baa Baa maa daa Eaa uaa vaa)(hab:zah w s bab Bab mab dab Eab uab vab)(qaa:zaT maa uaa)(qab:zaT mab uab):
  Calls Tryz.prog 126 #[.agg #[.bool baa,.slice Baa maa daa,.slice Eaa uaa vaa],.agg #[.bool bab,.slice Bab mab dab,.slice Eab uab vab]] w (zaH w (r+s)):=by
 by_cases h1:r=0
 ·exact zqJ r s baa Baa maa daa Eaa uaa vaa bab Bab mab dab Eab uab vab w hT haa hab qaa qab h1
 ·by_cases h2:s=0
  ·exact zqK r s baa Baa maa daa Eaa uaa vaa bab Bab mab dab Eab uab vab w hT haa hab qaa qab h1 h2
  ·by_cases h3:r.den=1
   ·by_cases h4:s.den=1
    ·exact zqL r s baa Baa maa daa Eaa uaa vaa bab Bab mab dab Eab uab vab w hT haa hab qaa qab h1 h2 h3 h4
    ·exact zqN r s baa Baa maa daa Eaa uaa vaa bab Bab mab dab Eab uab vab w hT haa hab qaa qab h1 h2 h3 h4
   ·exact zqM r s baa Baa maa daa Eaa uaa vaa bab Bab mab dab Eab uab vab w hT haa hab qaa qab h1 h2 h3
theorem rat_sub (r:Rat)(s:Rat)(baa:Bool)(Baa:oA9)(maa daa:Nat)(Eaa:oA9)(uaa vaa:Nat)(bab:Bool)(Bab:oA9)(mab dab:Nat)(Eab:oA9)(uab vab:Nat)(w:World)(hT:zai w)(haa:zah w r baa Baa maa daa Eaa uaa vaa)(hab:zah w s bab Bab mab dab Eab uab vab)(qaa:zaT maa uaa)(qab:zaT mab uab):
  Calls Tryz.prog 171 #[.agg #[.bool baa,.slice Baa maa daa,.slice Eaa uaa vaa],.agg #[.bool bab,.slice Bab mab dab,.slice Eab uab vab]] w (zaH w (r - s)):=by
 have HT:=lh9 (λw' (hb:Below w.heap.size w w')=>hT.on hb)
 have HTB:=HT
 obtain⟨K,hKe⟩:∃K,67108864=K:=⟨_,rfl⟩
 have hKK:K<=67108864:=by omega
 have hK0:0<K:=by omega
 have HNaa:=lh9 (λw' (b:Below w.heap.size w w')=>haa.below b)
 obtain⟨xaa,hxaa,hxwaa⟩:=haa.2
 have HZaa:Hid (SzQ K r):=zaM haa qaa hKe
 have HZaap:Hid (Sz K r.num.natAbs):=HZaa.out.num
 have HZaaq:Hid (Sz K xaa):=zar HZaa.out.den hxaa
 clear haa qaa hxaa hxwaa
 have HNab:=lh9 (λw' (b:Below w.heap.size w w')=>hab.below b)
 obtain⟨xab,hxab,hxwab⟩:=hab.2
 have HZab:Hid (SzQ K s):=zaM hab qab hKe
 have HZabp:Hid (Sz K s.num.natAbs):=HZab.out.num
 have HZabq:Hid (Sz K xab):=zar HZab.out.den hxab
 clear hab qab hxab hxwab
 clear hT hKe
 go_enter Tryz.func171,Tryz.ntmps171
 have hB:=Below.refl w.heap.size w
 obtain⟨bx1,bx2,bx3,bx4,bz⟩:=zbL w 41 41 41 #[.bool baa,.slice Baa maa daa,.slice Eaa uaa vaa] #[.bool bab,.slice Bab mab dab,.slice Eab uab vab] #[.bool false,.slice none 0 0,.slice none 0 0]
 have hB:=zab hB bx1
 obtain⟨g1,e1,i1⟩:=bx2.c3
 obtain⟨g2,e2,i2⟩:=bx3.c3
 have k3:=bx4
 clear bx1 bx2 bx3 bx4 bz
 go_wp2_with fail
 generalize ((w.alloc (.cells #[.bool baa,.slice Baa maa daa,.slice Eaa uaa vaa] 41)).alloc (.cells #[.bool bab,.slice Bab mab dab,.slice Eab uab vab] 41)).alloc (.cells #[.bool false,.slice none 0 0,.slice none 0 0] 41)=W1 at*
 have HZ4:Hid (SzQ (K) ((-s))):=SzQ.neg HZab.out
 have C0:=lh9 (λw' (h:Below W1.heap.size W1 w')=>ziP (s) bab Bab mab dab Eab uab vab w' (HT.out _ (zab hB h)) (HNab.out _ (zab hB h)) (szq HZab (HNab.out _ hB)))
 have HZ5:Hid (SzQ (K+K+1) (r+(-s))):=SzQ.add HZaa.out HZ4.out
 have C1:=lh9 (λw' (h:Below W1.heap.size W1 w') b4 B4 m4 d4 E4 u4 v4 (hw4:zah w' ((-s)) b4 B4 m4 d4 E4 u4 v4)=>ziN (r) ((-s)) baa Baa maa daa Eaa uaa vaa b4 B4 m4 d4 E4 u4 v4 w' (HT.out _ (zab hB h)) (HNaa.out _ (zab hB h)) hw4 (szq HZaa (HNaa.out _ hB)) (szq HZ4 hw4))
 have hBw:=(Below.refl W1.heap.size W1).drew
 refine rg (csc g1 (csc e1 (csc i1 (csc g2 (csc e2 (csc i2 csn)))))) (λhHeld=>?_)
 refine tk 0 ?_
 refine tk 1 ?_
 refine rc 2 (λK hK=>?_)
 go_simp
 go_at_call 55;(with_reducible refine(C0.out _ hBw).mono ?_);rintro e wa2 ⟨b4,B4,m4,d4,E4,u4,v4,rfl,hw4,hb⟩;have hBw:=zab hBw hb;refine hK.out _ _ (Cs.below hHeld hb) (λhHeld=>?_);clear hK K hb
 try simp only [sb9]
 refine rc 3 (λK hK=>?_)
 go_simp
 go_at_call 126;(with_reducible refine(C1.out _ hBw _ _ _ _ _ _ _ hw4).mono ?_);rintro e wa3 ⟨b5,B5,m5,d5,E5,u5,v5,rfl,hw5,hb⟩;have hBw:=zab hBw hb;have hw4:=hw4.below hb;refine hK.out _ _ (Cs.below hHeld hb) (λhHeld=>?_);clear hK K hb
 try simp only [sb9]
 obtain⟨sc0,sf0,sc1,sf1,sc2,sf2⟩:=st3 (zaa hBw k3) (.bool b5) (.slice B5 m5 d5)
 refine rc 4 (λK hK=>?_)
 go_simp
 refine hK.out _ _ (cs3 (.bool b5) (.slice B5 m5 d5) (.slice E5 u5 v5) hHeld) (λhHeld=>?_);clear hK K
 try simp only [sb9]
 refine rdn ?_
 have hB:=zab hB hBw
 have g1:=zac hBw g1
 have e1:=zac hBw e1
 have i1:=zac hBw i1
 have g2:=zac hBw g2
 have e2:=zac hBw e2
 have i2:=zac hBw i2
 have k3:=zaa hBw k3
 have HN5:=lh9 hw5
 clear hBw hHeld hw4 hw5 C0 C1
 obtain⟨r0,r1,r2⟩:=(sn3 k3 (.bool b5) (.slice B5 m5 d5) (.slice E5 u5 v5)).c3
 have HG:=lh9 (gq3 (zah.to (Rat.sub_eq_add_neg r s).symm HN5.out) k3 hB (by omega))
 go_wp2
 refine bodyPost_ret (v:=.agg #[.bool b5,.slice B5 m5 d5,.slice E5 u5 v5]) (by simp [results,Tryz.results171,go_sem,r0,r1,r2]) rfl ?_
 exact HG.out
