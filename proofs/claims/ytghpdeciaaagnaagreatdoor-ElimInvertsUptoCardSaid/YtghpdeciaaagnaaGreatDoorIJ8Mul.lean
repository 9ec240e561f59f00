/- What this claim leans on. -/
import Derived.Test.YtghpdeciaaagnaaGreatDoorIJ8Make
namespace Go.Proofs.YtghpdeciaaagnaaGreatDoor
open Go Go.RowKit
set_option maxHeartbeats 16000000
set_option maxRecDepth 100000
set_option linter.unusedVariables false
set_option linter.unusedSimpArgs false
theorem zqP (r:Rat)(s:Rat)(baa:Bool)(Baa:oA9)(maa daa:Nat)(Eaa:oA9)(uaa vaa:Nat)(bab:Bool)(Bab:oA9)(mab dab:Nat)(Eab:oA9)(uab vab:Nat)(w:World)(hT:zai w)(haa:zah w r baa Baa maa daa Eaa uaa vaa)(hab:zah w s bab Bab mab dab Eab uab vab)(qaa:zaT maa uaa)(qab:zaT mab uab)(h1:r=0):
  Calls Tryz.prog 38 #[.agg #[.bool baa,.slice Baa maa daa,.slice Eaa uaa vaa],.agg #[.bool bab,.slice Bab mab dab,.slice Eab uab vab]] w (zaH w (r*s)):=by
 have HIC:=lh9 (zbV (T:=zai))
 have HT:=lh9 (λw' (hb:Below w.heap.size w w')=>hT.on hb)
 have HTB:=HT
 obtain⟨K,hKe⟩:∃K,67108864=K:=⟨_,rfl⟩
 have hKK:K<=67108864:=by omega
 have hK0:0<K:=by omega
 have HE:Hid (((r.num*s.num:Int):Rat)=r*s):=(zhY (.inl h1)).symm
 have H1:=lh9 h1
 have HNaa:=lh9 (λw' (b:Below w.heap.size w w')=>haa.below b)
 obtain⟨xaa,hxaa,hxwaa⟩:=haa.2
 have HZaa:Hid (SzQ K r):=zaM haa qaa hKe
 have HZaap:Hid (Sz K r.num.natAbs):=HZaa.out.num
 have HZaaq:Hid (Sz K xaa):=zar HZaa.out.den hxaa
 have HNaap:=lh9 (λw' (b:Below w.heap.size w w')=>haa.1.below b)
 clear haa qaa hxaa hxwaa
 obtain⟨xab,hxab,hxwab⟩:=hab.2
 have HZab:Hid (SzQ K s):=zaM hab qab hKe
 have HZabp:Hid (Sz K s.num.natAbs):=HZab.out.num
 have HZabq:Hid (Sz K xab):=zar HZab.out.den hxab
 have HNabp:=lh9 (λw' (b:Below w.heap.size w w')=>hab.1.below b)
 clear hab qab hxab hxwab
 clear hT hKe h1
 go_enter Tryz.func38,Tryz.ntmps38
 have hB:=Below.refl w.heap.size w
 obtain⟨bx1,bx2,bx3,bx4,bz⟩:=zbL w 41 41 41 #[.bool baa,.slice Baa maa daa,.slice Eaa uaa vaa] #[.bool bab,.slice Bab mab dab,.slice Eab uab vab] #[.bool false,.slice none 0 0,.slice none 0 0]
 have hB:=zab hB bx1
 obtain⟨g1,e1,i1⟩:=bx2.c3
 obtain⟨g2,e2,i2⟩:=bx3.c3
 have k3:=bx4
 clear bx1 bx2 bx3 bx4 bz
 go_wp2_with fail
 generalize ((w.alloc (.cells #[.bool baa,.slice Baa maa daa,.slice Eaa uaa vaa] 41)).alloc (.cells #[.bool bab,.slice Bab mab dab,.slice Eab uab vab] 41)).alloc (.cells #[.bool false,.slice none 0 0,.slice none 0 0] 41)=W1 at*
 (with_reducible refine(zay (decide_eq_true H1.out) (zbb (r) baa Baa maa daa Eaa uaa vaa _ (HT.out _ hB) (HNaa.out _ hB) (szq HZaa (HNaa.out _ hB)))).mono ?_)
 rintro e wc2 ⟨rfl,hb⟩
 have hB:=zab hB hb
 have g1:=zac hb g1
 have e1:=zac hb e1
 have i1:=zac hb i1
 have g2:=zac hb g2
 have e2:=zac hb e2
 have i2:=zac hb i2
 have k3:=zaa hb k3
 clear hb 
 go_wp2_with fail
 have HZ4:Hid (Sz (K+K) (r.num*s.num).natAbs):=SzI.mul HZaap.out HZabp.out
 (with_reducible refine(HIC.out.mul (r.num) (s.num) baa bab Baa Bab maa mab daa dab _ (HT.out _ hB) (HNaap.out _ hB) (HNabp.out _ hB) (szi HZaap (HNaap.out _ hB)) (szi HZabp (HNabp.out _ hB))).mono ?_)
 rintro e wc3 ⟨b4,B4,m4,d4,rfl,hw4,hb⟩
 have hB:=zab hB hb
 have g1:=zac hb g1
 have e1:=zac hb e1
 have i1:=zac hb i1
 have g2:=zac hb g2
 have e2:=zac hb e2
 have i2:=zac hb i2
 have k3:=zaa hb k3
 have HN4:=lh9 hw4
 clear hb hw4
 obtain⟨sc0,sf0,sc1,sf1,sc2,sf2⟩:=st3 k3 (.bool b4) (.slice B4 m4 d4)
 obtain⟨r0,r1,r2⟩:=(sn3 k3 (.bool b4) (.slice B4 m4 d4) (.slice none 0 0)).c3
 have HG:=lh9 (gq3 (zah.to HE.out (zeP HN4.out)) k3 hB (by omega))
 go_wp2
 refine bodyPost_ret (v:=.agg #[.bool b4,.slice B4 m4 d4,.slice none 0 0]) (by simp [results,Tryz.results38,go_sem,r0,r1,r2]) rfl ?_
 exact HG.out
theorem zqQ (r:Rat)(s:Rat)(baa:Bool)(Baa:oA9)(maa daa:Nat)(Eaa:oA9)(uaa vaa:Nat)(bab:Bool)(Bab:oA9)(mab dab:Nat)(Eab:oA9)(uab vab:Nat)(w:World)(hT:zai w)(haa:zah w r baa Baa maa daa Eaa uaa vaa)(hab:zah w s bab Bab mab dab Eab uab vab)(qaa:zaT maa uaa)(qab:zaT mab uab)(h1:r≠0)(h2:s=0):
  Calls Tryz.prog 38 #[.agg #[.bool baa,.slice Baa maa daa,.slice Eaa uaa vaa],.agg #[.bool bab,.slice Bab mab dab,.slice Eab uab vab]] w (zaH w (r*s)):=by
 have HIC:=lh9 (zbV (T:=zai))
 have HT:=lh9 (λw' (hb:Below w.heap.size w w')=>hT.on hb)
 have HTB:=HT
 obtain⟨K,hKe⟩:∃K,67108864=K:=⟨_,rfl⟩
 have hKK:K<=67108864:=by omega
 have hK0:0<K:=by omega
 have HE:Hid (((r.num*s.num:Int):Rat)=r*s):=(zhY (.inr (.inl h2))).symm
 have H1:=lh9 h1
 have H2:=lh9 h2
 have HNaa:=lh9 (λw' (b:Below w.heap.size w w')=>haa.below b)
 obtain⟨xaa,hxaa,hxwaa⟩:=haa.2
 have HZaa:Hid (SzQ K r):=zaM haa qaa hKe
 have HZaap:Hid (Sz K r.num.natAbs):=HZaa.out.num
 have HZaaq:Hid (Sz K xaa):=zar HZaa.out.den hxaa
 have HNaap:=lh9 (λw' (b:Below w.heap.size w w')=>haa.1.below b)
 clear haa qaa hxaa hxwaa
 have HNab:=lh9 (λw' (b:Below w.heap.size w w')=>hab.below b)
 obtain⟨xab,hxab,hxwab⟩:=hab.2
 have HZab:Hid (SzQ K s):=zaM hab qab hKe
 have HZabp:Hid (Sz K s.num.natAbs):=HZab.out.num
 have HZabq:Hid (Sz K xab):=zar HZab.out.den hxab
 have HNabp:=lh9 (λw' (b:Below w.heap.size w w')=>hab.1.below b)
 clear hab qab hxab hxwab
 clear hT hKe h1 h2
 go_enter Tryz.func38,Tryz.ntmps38
 have hB:=Below.refl w.heap.size w
 obtain⟨bx1,bx2,bx3,bx4,bz⟩:=zbL w 41 41 41 #[.bool baa,.slice Baa maa daa,.slice Eaa uaa vaa] #[.bool bab,.slice Bab mab dab,.slice Eab uab vab] #[.bool false,.slice none 0 0,.slice none 0 0]
 have hB:=zab hB bx1
 obtain⟨g1,e1,i1⟩:=bx2.c3
 obtain⟨g2,e2,i2⟩:=bx3.c3
 have k3:=bx4
 clear bx1 bx2 bx3 bx4 bz
 go_wp2_with fail
 generalize ((w.alloc (.cells #[.bool baa,.slice Baa maa daa,.slice Eaa uaa vaa] 41)).alloc (.cells #[.bool bab,.slice Bab mab dab,.slice Eab uab vab] 41)).alloc (.cells #[.bool false,.slice none 0 0,.slice none 0 0] 41)=W1 at*
 (with_reducible refine(zay (decide_eq_false H1.out) (zbb (r) baa Baa maa daa Eaa uaa vaa _ (HT.out _ hB) (HNaa.out _ hB) (szq HZaa (HNaa.out _ hB)))).mono ?_)
 rintro e wc2 ⟨rfl,hb⟩
 have hB:=zab hB hb
 have g1:=zac hb g1
 have e1:=zac hb e1
 have i1:=zac hb i1
 have g2:=zac hb g2
 have e2:=zac hb e2
 have i2:=zac hb i2
 have k3:=zaa hb k3
 clear hb 
 go_wp2_with fail
 (with_reducible refine(zay (decide_eq_true H2.out) (zbb (s) bab Bab mab dab Eab uab vab _ (HT.out _ hB) (HNab.out _ hB) (szq HZab (HNab.out _ hB)))).mono ?_)
 rintro e wc3 ⟨rfl,hb⟩
 have hB:=zab hB hb
 have g1:=zac hb g1
 have e1:=zac hb e1
 have i1:=zac hb i1
 have g2:=zac hb g2
 have e2:=zac hb e2
 have i2:=zac hb i2
 have k3:=zaa hb k3
 clear hb 
 go_wp2_with fail
 have HZ4:Hid (Sz (K+K) (r.num*s.num).natAbs):=SzI.mul HZaap.out HZabp.out
 (with_reducible refine(HIC.out.mul (r.num) (s.num) baa bab Baa Bab maa mab daa dab _ (HT.out _ hB) (HNaap.out _ hB) (HNabp.out _ hB) (szi HZaap (HNaap.out _ hB)) (szi HZabp (HNabp.out _ hB))).mono ?_)
 rintro e wc4 ⟨b4,B4,m4,d4,rfl,hw4,hb⟩
 have hB:=zab hB hb
 have g1:=zac hb g1
 have e1:=zac hb e1
 have i1:=zac hb i1
 have g2:=zac hb g2
 have e2:=zac hb e2
 have i2:=zac hb i2
 have k3:=zaa hb k3
 have HN4:=lh9 hw4
 clear hb hw4
 obtain⟨sc0,sf0,sc1,sf1,sc2,sf2⟩:=st3 k3 (.bool b4) (.slice B4 m4 d4)
 obtain⟨r0,r1,r2⟩:=(sn3 k3 (.bool b4) (.slice B4 m4 d4) (.slice none 0 0)).c3
 have HG:=lh9 (gq3 (zah.to HE.out (zeP HN4.out)) k3 hB (by omega))
 go_wp2
 refine bodyPost_ret (v:=.agg #[.bool b4,.slice B4 m4 d4,.slice none 0 0]) (by simp [results,Tryz.results38,go_sem,r0,r1,r2]) rfl ?_
 exact HG.out
theorem zqR (r:Rat)(s:Rat)(baa:Bool)(Baa:oA9)(maa daa:Nat)(Eaa:oA9)(uaa vaa:Nat)(bab:Bool)(Bab:oA9)(mab dab:Nat)(Eab:oA9)(uab vab:Nat)(w:World)(hT:zai w)(haa:zah w r baa Baa maa daa Eaa uaa vaa)(hab:zah w s bab Bab mab dab Eab uab vab)(qaa:zaT maa uaa)(qab:zaT mab uab)(h1:r≠0)(h2:s≠0)(h3:r.den=1)(h4:s.den=1):
  Calls Tryz.prog 38 #[.agg #[.bool baa,.slice Baa maa daa,.slice Eaa uaa vaa],.agg #[.bool bab,.slice Bab mab dab,.slice Eab uab vab]] w (zaH w (r*s)):=by
 have HIC:=lh9 (zbV (T:=zai))
 have HT:=lh9 (λw' (hb:Below w.heap.size w w')=>hT.on hb)
 have HTB:=HT
 obtain⟨K,hKe⟩:∃K,67108864=K:=⟨_,rfl⟩
 have hKK:K<=67108864:=by omega
 have hK0:0<K:=by omega
 have HE:Hid (((r.num*s.num:Int):Rat)=r*s):=(zhY (.inr (.inr ⟨h3,h4⟩))).symm
 have H1:=lh9 h1
 have H2:=lh9 h2
 have H3:=lh9 h3
 have H4:=lh9 h4
 have HNaa:=lh9 (λw' (b:Below w.heap.size w w')=>haa.below b)
 obtain⟨xaa,hxaa,hxwaa⟩:=haa.2
 have HZaa:Hid (SzQ K r):=zaM haa qaa hKe
 have HZaap:Hid (Sz K r.num.natAbs):=HZaa.out.num
 have HZaaq:Hid (Sz K xaa):=zar HZaa.out.den hxaa
 have HNaap:=lh9 (λw' (b:Below w.heap.size w w')=>haa.1.below b)
 clear haa qaa hxaa hxwaa
 have HNab:=lh9 (λw' (b:Below w.heap.size w w')=>hab.below b)
 obtain⟨xab,hxab,hxwab⟩:=hab.2
 have HZab:Hid (SzQ K s):=zaM hab qab hKe
 have HZabp:Hid (Sz K s.num.natAbs):=HZab.out.num
 have HZabq:Hid (Sz K xab):=zar HZab.out.den hxab
 have HNabp:=lh9 (λw' (b:Below w.heap.size w w')=>hab.1.below b)
 clear hab qab hxab hxwab
 clear hT hKe h1 h2 h3 h4
 go_enter Tryz.func38,Tryz.ntmps38
 have hB:=Below.refl w.heap.size w
 obtain⟨bx1,bx2,bx3,bx4,bz⟩:=zbL w 41 41 41 #[.bool baa,.slice Baa maa daa,.slice Eaa uaa vaa] #[.bool bab,.slice Bab mab dab,.slice Eab uab vab] #[.bool false,.slice none 0 0,.slice none 0 0]
 have hB:=zab hB bx1
 obtain⟨g1,e1,i1⟩:=bx2.c3
 obtain⟨g2,e2,i2⟩:=bx3.c3
 have k3:=bx4
 clear bx1 bx2 bx3 bx4 bz
 go_wp2_with fail
 generalize ((w.alloc (.cells #[.bool baa,.slice Baa maa daa,.slice Eaa uaa vaa] 41)).alloc (.cells #[.bool bab,.slice Bab mab dab,.slice Eab uab vab] 41)).alloc (.cells #[.bool false,.slice none 0 0,.slice none 0 0] 41)=W1 at*
 (with_reducible refine(zay (decide_eq_false H1.out) (zbb (r) baa Baa maa daa Eaa uaa vaa _ (HT.out _ hB) (HNaa.out _ hB) (szq HZaa (HNaa.out _ hB)))).mono ?_)
 rintro e wc2 ⟨rfl,hb⟩
 have hB:=zab hB hb
 have g1:=zac hb g1
 have e1:=zac hb e1
 have i1:=zac hb i1
 have g2:=zac hb g2
 have e2:=zac hb e2
 have i2:=zac hb i2
 have k3:=zaa hb k3
 clear hb 
 go_wp2_with fail
 (with_reducible refine(zay (decide_eq_false H2.out) (zbb (s) bab Bab mab dab Eab uab vab _ (HT.out _ hB) (HNab.out _ hB) (szq HZab (HNab.out _ hB)))).mono ?_)
 rintro e wc3 ⟨rfl,hb⟩
 have hB:=zab hB hb
 have g1:=zac hb g1
 have e1:=zac hb e1
 have i1:=zac hb i1
 have g2:=zac hb g2
 have e2:=zac hb e2
 have i2:=zac hb i2
 have k3:=zaa hb k3
 clear hb 
 go_wp2_with fail
 (with_reducible refine(zay (decide_eq_true H3.out) (zby (r) baa Baa maa daa Eaa uaa vaa _ (HT.out _ hB) (HNaa.out _ hB) (szq HZaa (HNaa.out _ hB)))).mono ?_)
 rintro e wc4 ⟨rfl,hb⟩
 have hB:=zab hB hb
 have g1:=zac hb g1
 have e1:=zac hb e1
 have i1:=zac hb i1
 have g2:=zac hb g2
 have e2:=zac hb e2
 have i2:=zac hb i2
 have k3:=zaa hb k3
 clear hb 
 go_wp2_with fail
 (with_reducible refine(zay (decide_eq_true H4.out) (zby (s) bab Bab mab dab Eab uab vab _ (HT.out _ hB) (HNab.out _ hB) (szq HZab (HNab.out _ hB)))).mono ?_)
 rintro e wc5 ⟨rfl,hb⟩
 have hB:=zab hB hb
 have g1:=zac hb g1
 have e1:=zac hb e1
 have i1:=zac hb i1
 have g2:=zac hb g2
 have e2:=zac hb e2
 have i2:=zac hb i2
 have k3:=zaa hb k3
 clear hb 
 go_wp2_with fail
 have HZ4:Hid (Sz (K+K) (r.num*s.num).natAbs):=SzI.mul HZaap.out HZabp.out
 (with_reducible refine(HIC.out.mul (r.num) (s.num) baa bab Baa Bab maa mab daa dab _ (HT.out _ hB) (HNaap.out _ hB) (HNabp.out _ hB) (szi HZaap (HNaap.out _ hB)) (szi HZabp (HNabp.out _ hB))).mono ?_)
 rintro e wc6 ⟨b4,B4,m4,d4,rfl,hw4,hb⟩
 have hB:=zab hB hb
 have g1:=zac hb g1
 have e1:=zac hb e1
 have i1:=zac hb i1
 have g2:=zac hb g2
 have e2:=zac hb e2
 have i2:=zac hb i2
 have k3:=zaa hb k3
 have HN4:=lh9 hw4
 clear hb hw4
 obtain⟨sc0,sf0,sc1,sf1,sc2,sf2⟩:=st3 k3 (.bool b4) (.slice B4 m4 d4)
 obtain⟨r0,r1,r2⟩:=(sn3 k3 (.bool b4) (.slice B4 m4 d4) (.slice none 0 0)).c3
 have HG:=lh9 (gq3 (zah.to HE.out (zeP HN4.out)) k3 hB (by omega))
 go_wp2
 refine bodyPost_ret (v:=.agg #[.bool b4,.slice B4 m4 d4,.slice none 0 0]) (by simp [results,Tryz.results38,go_sem,r0,r1,r2]) rfl ?_
 exact HG.out
theorem zlb (r:Rat)(s:Rat)(baa:Bool)(Baa:oA9)(maa daa:Nat)(Eaa:oA9)(uaa vaa:Nat)(bab:Bool)(Bab:oA9)(mab dab:Nat)(Eab:oA9)(uab vab:Nat)(w:World)(hT:zai w)(haa:zah w r baa Baa maa daa Eaa uaa vaa)(hab:zah w s bab Bab mab dab Eab uab vab)(qaa:zaT maa uaa)(qab:zaT mab uab)(h1:r≠0)(h2:s≠0)(h3:r.den≠1\/(r.den=1/\s.den≠1)):
  Calls Tryz.prog 38 #[.agg #[.bool baa,.slice Baa maa daa,.slice Eaa uaa vaa],.agg #[.bool bab,.slice Bab mab dab,.slice Eab uab vab]] w (zaH w (r*s)):=by
 have HIC:=lh9 (zbV (T:=zai))
 have HGC:=lh9 zca
 have HT:=lh9 (λw' (hb:Below w.heap.size w w')=>hT.on hb)
 have HTB:=HT
 obtain⟨K,hKe⟩:∃K,67108864=K:=⟨_,rfl⟩
 have hKK:K<=67108864:=by omega
 have hK0:0<K:=by omega
 have HMP:=lh9 (zqG r s)
 obtain⟨sr,hsr⟩:∃s,decide (r.num<0)=s:=⟨_,rfl⟩
 obtain⟨ss,hss⟩:∃q,decide (s.num<0)=q:=⟨_,rfl⟩
 rw [hsr,hss] at HMP
 have HSR:=lh9 hsr
 have HSS:=lh9 hss
 clear hsr hss
 have H1:=lh9 h1
 have H2:=lh9 h2
 have HCASE:=lh9 h3
 have HNaa:=lh9 (λw' (b:Below w.heap.size w w')=>haa.below b)
 obtain⟨xaa,hxaa,hxwaa⟩:=haa.2
 have HZaa:Hid (SzQ K r):=zaM haa qaa hKe
 have HZaap:Hid (Sz K r.num.natAbs):=HZaa.out.num
 have HZaaq:Hid (Sz K xaa):=zar HZaa.out.den hxaa
 have HNaap:=lh9 (λw' (b:Below w.heap.size w w')=>haa.1.below b)
 clear haa qaa hxaa hxwaa
 have HNab:=lh9 (λw' (b:Below w.heap.size w w')=>hab.below b)
 obtain⟨xab,hxab,hxwab⟩:=hab.2
 have HZab:Hid (SzQ K s):=zaM hab qab hKe
 have HZabp:Hid (Sz K s.num.natAbs):=HZab.out.num
 have HZabq:Hid (Sz K xab):=zar HZab.out.den hxab
 have HNabp:=lh9 (λw' (b:Below w.heap.size w w')=>hab.1.below b)
 clear hab qab hxab hxwab
 clear hT hKe h1 h2 h3
 go_enter Tryz.func38,Tryz.ntmps38
 have hB:=Below.refl w.heap.size w
 obtain⟨bx1,bx2,bx3,bx4,bz⟩:=zbL w 41 41 41 #[.bool baa,.slice Baa maa daa,.slice Eaa uaa vaa] #[.bool bab,.slice Bab mab dab,.slice Eab uab vab] #[.bool false,.slice none 0 0,.slice none 0 0]
 have hB:=zab hB bx1
 obtain⟨g1,e1,i1⟩:=bx2.c3
 obtain⟨g2,e2,i2⟩:=bx3.c3
 have k3:=bx4
 clear bx1 bx2 bx3 bx4 bz
 go_upto_region 1 with fail
 generalize ((w.alloc (.cells #[.bool baa,.slice Baa maa daa,.slice Eaa uaa vaa] 41)).alloc (.cells #[.bool bab,.slice Bab mab dab,.slice Eab uab vab] 41)).alloc (.cells #[.bool false,.slice none 0 0,.slice none 0 0] 41)=W1 at*
 go_cut [9,10,11,12,13,14,15,16,17,18,19,20,21,22] (λs9 s10 s11 s12 s13 s14 s15 s16 s17 s18 s19 s20 s21 s22 wx=>s22=.bool false/\Below W1.heap.size W1 wx)
 case first=>
  have hW:=Below.refl W1.heap.size W1
  rcases HCASE.out with hq|hq
  ·clear HCASE
   have Hq3:=lh9 hq
   clear hq
   go_wp2_with fail
   (with_reducible refine(zay (decide_eq_false H1.out) (zbb (r) baa Baa maa daa Eaa uaa vaa _ (HT.out _ hB) (HNaa.out _ hB) (szq HZaa (HNaa.out _ hB)))).mono ?_)
   rintro e wc2 ⟨rfl,hb⟩
   have hW:=zab hW hb
   have hB:=zab hB hb
   have g1:=zac hb g1
   have e1:=zac hb e1
   have i1:=zac hb i1
   have g2:=zac hb g2
   have e2:=zac hb e2
   have i2:=zac hb i2
   have k3:=zaa hb k3
   clear hb 
   go_wp2_with fail
   (with_reducible refine(zay (decide_eq_false H2.out) (zbb (s) bab Bab mab dab Eab uab vab _ (HT.out _ hB) (HNab.out _ hB) (szq HZab (HNab.out _ hB)))).mono ?_)
   rintro e wc3 ⟨rfl,hb⟩
   have hW:=zab hW hb
   have hB:=zab hB hb
   have g1:=zac hb g1
   have e1:=zac hb e1
   have i1:=zac hb i1
   have g2:=zac hb g2
   have e2:=zac hb e2
   have i2:=zac hb i2
   have k3:=zaa hb k3
   clear hb 
   go_wp2_with fail
   (with_reducible refine(zay (decide_eq_false Hq3.out) (zby (r) baa Baa maa daa Eaa uaa vaa _ (HT.out _ hB) (HNaa.out _ hB) (szq HZaa (HNaa.out _ hB)))).mono ?_)
   rintro e wc4 ⟨rfl,hb⟩
   have hW:=zab hW hb
   have hB:=zab hB hb
   have g1:=zac hb g1
   have e1:=zac hb e1
   have i1:=zac hb i1
   have g2:=zac hb g2
   have e2:=zac hb e2
   have i2:=zac hb i2
   have k3:=zaa hb k3
   clear hb 
   go_wp2_with fail
   go_meet
   exact⟨rfl,hW⟩
  ·clear HCASE
   have Hq3:=lh9 hq
   clear hq
   go_wp2_with fail
   (with_reducible refine(zay (decide_eq_false H1.out) (zbb (r) baa Baa maa daa Eaa uaa vaa _ (HT.out _ hB) (HNaa.out _ hB) (szq HZaa (HNaa.out _ hB)))).mono ?_)
   rintro e wc2 ⟨rfl,hb⟩
   have hW:=zab hW hb
   have hB:=zab hB hb
   have g1:=zac hb g1
   have e1:=zac hb e1
   have i1:=zac hb i1
   have g2:=zac hb g2
   have e2:=zac hb e2
   have i2:=zac hb i2
   have k3:=zaa hb k3
   clear hb 
   go_wp2_with fail
   (with_reducible refine(zay (decide_eq_false H2.out) (zbb (s) bab Bab mab dab Eab uab vab _ (HT.out _ hB) (HNab.out _ hB) (szq HZab (HNab.out _ hB)))).mono ?_)
   rintro e wc3 ⟨rfl,hb⟩
   have hW:=zab hW hb
   have hB:=zab hB hb
   have g1:=zac hb g1
   have e1:=zac hb e1
   have i1:=zac hb i1
   have g2:=zac hb g2
   have e2:=zac hb e2
   have i2:=zac hb i2
   have k3:=zaa hb k3
   clear hb 
   go_wp2_with fail
   (with_reducible refine(zay (decide_eq_true Hq3.out.1) (zby (r) baa Baa maa daa Eaa uaa vaa _ (HT.out _ hB) (HNaa.out _ hB) (szq HZaa (HNaa.out _ hB)))).mono ?_)
   rintro e wc4 ⟨rfl,hb⟩
   have hW:=zab hW hb
   have hB:=zab hB hb
   have g1:=zac hb g1
   have e1:=zac hb e1
   have i1:=zac hb i1
   have g2:=zac hb g2
   have e2:=zac hb e2
   have i2:=zac hb i2
   have k3:=zaa hb k3
   clear hb 
   go_wp2_with fail
   (with_reducible refine(zay (decide_eq_false Hq3.out.2) (zby (s) bab Bab mab dab Eab uab vab _ (HT.out _ hB) (HNab.out _ hB) (szq HZab (HNab.out _ hB)))).mono ?_)
   rintro e wc5 ⟨rfl,hb⟩
   have hW:=zab hW hb
   have hB:=zab hB hb
   have g1:=zac hb g1
   have e1:=zac hb e1
   have i1:=zac hb i1
   have g2:=zac hb g2
   have e2:=zac hb e2
   have i2:=zac hb i2
   have k3:=zaa hb k3
   clear hb 
   go_wp2_with fail
   go_meet
   exact⟨rfl,hW⟩
 case rest=>
  clear HCASE
  obtain⟨rfl,hb⟩:=hcut
  obtain⟨wk41,hwq⟩:∃x,x=wc:=⟨_,rfl⟩
  subst hwq
  have hB:=zab hB hb
  have g1:=zac hb g1
  have e1:=zac hb e1
  have i1:=zac hb i1
  have g2:=zac hb g2
  have e2:=zac hb e2
  have i2:=zac hb i2
  have k3:=zaa hb k3
  clear hb
  go_wp2_with fail
  have HZ44:Hid (Sz (K) (r.num.natAbs)):=HZaap.out
  have C0:=lh9 (λw' (h:Below wk41.heap.size wk41 w')=>HIC.out.abs (r.num) baa Baa maa daa w' (HT.out _ (zab hB h)) (HNaap.out _ (zab hB h)) (szi HZaap (HNaap.out _ hB)))
  have HZ45:Hid (Sz (K) (s.den)):=SzQ.den HZab.out
  have C1:=lh9 (λw' (h:Below wk41.heap.size wk41 w')=>zcA (s) bab Bab mab dab Eab uab vab w' (HT.out _ (zab hB h)) (HNab.out _ (zab hB h)) (szq HZab (HNab.out _ hB)))
  have HZ46:Hid (Sz (K) (r.num.natAbs / Nat.gcd r.num.natAbs s.den)):=Sz.of_le HZ44.out (Nat.div_le_self _ _)
  have HZ47:Hid (Sz (K) (s.den / Nat.gcd r.num.natAbs s.den)):=Sz.of_le HZ45.out (Nat.div_le_self _ _)
  have C2:=lh9 (λw' (h:Below wk41.heap.size wk41 w') B44 m44 d44 (hw44:zad w' (r.num.natAbs) B44 m44 d44) B45 m45 d45 (hw45:zad w' (s.den) B45 m45 d45)=>HGC.out.reduce (r.num.natAbs) (s.den) B44 B45 m44 m45 d44 d45 w' hw44 hw45 (szw HZ44 hw44) (szw HZ45 hw45) (HTB.out _ (zab hB h)))
  have lt3_m41:=k3.lt
  have GG:=lh9 (λw' (h:Below wk41.heap.size wk41 w')=>(csc (zac h g1) (csc (zac h e1) (csc (zac h i1) (csc (zac h g2) (csc (zac h e2) (csc (zac h i2) csn)))))))
  refine rgB (λhHeld=>?_)
  refine tl 0 GG.out ?_
  refine tl 1 GG.out ?_
  refine tl 3 GG.out ?_
  refine zcl (L:=#[true,true,true,true,true,true,true,true,true,true,true,true,true])
   (J:=fun a0 l a w' => ∃ (fl2 fl4 fl5 fl6 fl7 fl8 fl9 fl10 fl11 fl12 : Bool) (B44 : oA9) (m44 d44 : Nat) (B45 : oA9) (m45 d45 : Nat) (B46 : oA9) (m46 d46 : Nat) (B47 : oA9) (m47 d47 ad9 ad10 : Nat),l = #[true,true,fl2,true,fl4,fl5,fl6,fl7,fl8,fl9,fl10,fl11,fl12] ∧ zdJ [32,34,35,29,36,37,5,6] a0 a ∧ Hid (Below wk41.heap.size wk41 w') ∧
     Hid (Gd fl2 (a.tmps.getD 32 undef=.agg #[.slice B44 m44 d44]/\zad w' (r.num.natAbs) B44 m44 d44))/\
     Hid (Gd fl4 (a.tmps.getD 34 undef=.agg #[.slice B45 m45 d45]/\zad w' (s.den) B45 m45 d45))/\
     Hid (Gd fl5 (a.tmps.getD 35 undef=.tuple #[.agg #[.slice B46 m46 d46],.agg #[.slice B47 m47 d47]]/\zad w' (r.num.natAbs / Nat.gcd r.num.natAbs s.den) B46 m46 d46/\zad w' (s.den / Nat.gcd r.num.natAbs s.den) B47 m47 d47))/\
     Hid (Gd fl6 (a.tmps.getD 29 undef=.tuple #[.agg #[.slice B46 m46 d46],.agg #[.slice B47 m47 d47]]))/\
     Hid (Gd fl7 (a.tmps.getD 36 undef=.agg #[.slice B46 m46 d46]))/\
     Hid (Gd fl8 (a.tmps.getD 37 undef=.agg #[.slice B47 m47 d47]))/\
     Hid (Gd fl9 (a.tmps.getD 5 undef=.pointer (some ⟨ad9,0,none⟩)/\wk41.heap.size<=ad9/\Blk w' ad9 37 (bif fl11 then #[.slice B46 m46 d46] else #[.slice none 0 0])))/\
     Hid (Gd fl10 (a.tmps.getD 6 undef=.pointer (some ⟨ad10,0,none⟩)/\wk41.heap.size<=ad10/\Blk w' ad10 37 (bif fl12 then #[.slice B47 m47 d47] else #[.slice none 0 0])))/\
     Hid (Gd fl9 (Gd fl10 (ad9≠ad10)))/\
     Hid (Gd fl4 (fl2=true))/\
     Hid (Gd fl5 (fl2=true))/\
     Hid (Gd fl5 (fl4=true))/\
     Hid (Gd fl6 (fl5=true))/\
     Hid (Gd fl7 (fl6=true))/\
     Hid (Gd fl8 (fl6=true))/\
     Hid (Gd fl11 (fl5=true))/\
     Hid (Gd fl11 (fl7=true))/\
     Hid (Gd fl11 (fl9=true))/\
     Hid (Gd fl12 (fl8=true))/\
     Hid (Gd fl12 (fl10=true))/\
     Hid (Gd fl12 (fl11=true)))
   (by rfl) ?_ ?_ ?_
  ·exact⟨false,false,false,false,false,false,false,false,false,false,none,0,0,none,0,0,none,0,0,none,0,0,0,0,by kernel_rfl,zdJ.refl _ _,hHeld,Gd.no,Gd.no,Gd.no,Gd.no,Gd.no,Gd.no,Gd.no,Gd.no,Gd.no,Gd.no,Gd.no,Gd.no,Gd.no,Gd.no,Gd.no,Gd.no,Gd.no,Gd.no,Gd.no,Gd.no,Gd.no⟩
  ·intro OPS Ac0 Q0 hO hAs hA
   have RB31:Ac0.tmps.getD 31 undef=.agg #[.bool baa,.slice Baa maa daa]:=(hA 31 undef).trans (by kernel_rfl)
   have RB33:Ac0.tmps.getD 33 undef=.agg #[.bool bab,.slice Bab mab dab,.slice Eab uab vab]:=(hA 33 undef).trans (by kernel_rfl)
   have hsz:Ac0.tmps.size=61:=hAs.trans (by kernel_rfl)
   clear hAs hA
   refine⟨?_,?_⟩
   ·rintro l a w' ⟨fl2,fl4,fl5,fl6,fl7,fl8,fl9,fl10,fl11,fl12,B44,m44,d44,B45,m45,d45,B46,m46,d46,B47,m47,d47,ad9,ad10,rfl,-⟩ hr
    obtain rfl:fl2=true:=als 2 hr hO
    obtain rfl:fl4=true:=als 4 hr hO
    obtain rfl:fl5=true:=als 5 hr hO
    obtain rfl:fl6=true:=als 6 hr hO
    obtain rfl:fl7=true:=als 7 hr hO
    obtain rfl:fl8=true:=als 8 hr hO
    obtain rfl:fl9=true:=als 9 hr hO
    obtain rfl:fl10=true:=als 10 hr hO
    obtain rfl:fl11=true:=als 11 hr hO
    obtain rfl:fl12=true:=als 12 hr hO
    rfl
   ·rintro l a w' i ⟨fl2,fl4,fl5,fl6,fl7,fl8,fl9,fl10,fl11,fl12,B44,m44,d44,B45,m45,d45,B46,m46,d46,B47,m47,d47,ad9,ad10,rfl,HKp,hBi,qf2,qf4,qf5,qf6,qf7,qf8,qf9,qf10,qn9_10,qd4_2,qd5_2,qd5_4,qd6_5,qd7_6,qd8_6,qd11_5,qd11_7,qd11_9,qd12_8,qd12_10,qd12_11⟩ hne hi
    have hlt:i<13:=by have:=zdZ hi;rw [hO] at this;exact this
    rcases (show i=0\/i=1\/i=2\/i=3\/i=4\/i=5\/i=6\/i=7\/i=8\/i=9\/i=10\/i=11\/i=12 by omega) with rfl|rfl|rfl|rfl|rfl|rfl|rfl|rfl|rfl|rfl|rfl|rfl|rfl
    ·cases (zak hi:true=false)
    ·cases (zak hi:true=false)
    ·obtain rfl:fl2=false:=zak hi
     obtain rfl:fl4=false:=Gd.off qd4_2.out
     obtain rfl:fl5=false:=Gd.off qd5_2.out
     obtain rfl:fl6=false:=Gd.off qd6_5.out
     obtain rfl:fl7=false:=Gd.off qd7_6.out
     obtain rfl:fl8=false:=Gd.off qd8_6.out
     obtain rfl:fl11=false:=Gd.off qd11_5.out
     obtain rfl:fl12=false:=Gd.off qd12_8.out
     have rd31:=HKp.get 31 (by decide) RB31
     refine wog hO (λK' hK=>?_)
     go_simp
     refine(C0.out w' hBi.out).mono ?_
     rintro e w2 ⟨nB44,nm44,nd44,rfl,nhw44,hb⟩
     exact hK.out _ _ ⟨zab hBi.out hb,true,false,false,false,false,false,fl9,fl10,false,false,nB44,nm44,nd44,B45,m45,d45,B46,m46,d46,B47,m47,d47,ad9,ad10,by rfl,HKp.put (by decide) _,zab hBi.out hb,Gd.yes ⟨zaZ (HKp.lt (by rw [hsz];decide)) _,nhw44⟩,Gd.no,Gd.no,Gd.no,Gd.no,Gd.no,kq qf9.out λh=>⟨h.1,zaa hb h.2⟩,kq qf10.out λh=>⟨h.1,zaa hb h.2⟩,qn9_10,Gd.no,Gd.no,Gd.no,Gd.no,Gd.no,Gd.no,Gd.no,Gd.no,Gd.no,Gd.no,Gd.no,Gd.no⟩
    ·cases (zak hi:true=false)
    ·obtain rfl:fl4=false:=zak hi
     obtain rfl:fl2=true:=rdp 2 1 hi hO
     obtain rfl:fl5=false:=Gd.off qd5_4.out
     obtain rfl:fl6=false:=Gd.off qd6_5.out
     obtain rfl:fl7=false:=Gd.off qd7_6.out
     obtain rfl:fl8=false:=Gd.off qd8_6.out
     obtain rfl:fl11=false:=Gd.off qd11_5.out
     obtain rfl:fl12=false:=Gd.off qd12_8.out
     have rd33:=HKp.get 33 (by decide) RB33
     refine wog hO (λK' hK=>?_)
     go_simp
     refine(C1.out w' hBi.out).mono ?_
     rintro e w2 ⟨nB45,nm45,nd45,rfl,nhw45,hb⟩
     exact hK.out _ _ ⟨zab hBi.out hb,true,true,false,false,false,false,fl9,fl10,false,false,B44,m44,d44,nB45,nm45,nd45,B46,m46,d46,B47,m47,d47,ad9,ad10,by rfl,HKp.put (by decide) _,zab hBi.out hb,kq qf2.out λh=>(h).below hb,Gd.yes ⟨zaZ (HKp.lt (by rw [hsz];decide)) _,nhw45⟩,Gd.no,Gd.no,Gd.no,Gd.no,kq qf9.out λh=>⟨h.1,zaa hb h.2⟩,kq qf10.out λh=>⟨h.1,zaa hb h.2⟩,qn9_10,λ_=>rfl,Gd.no,Gd.no,Gd.no,Gd.no,Gd.no,Gd.no,Gd.no,Gd.no,Gd.no,Gd.no,Gd.no⟩
    ·obtain rfl:fl5=false:=zak hi
     obtain rfl:fl2=true:=rdp 2 0 hi hO
     obtain rfl:fl4=true:=rdp 4 1 hi hO
     obtain rfl:fl6=false:=Gd.off qd6_5.out
     obtain rfl:fl7=false:=Gd.off qd7_6.out
     obtain rfl:fl8=false:=Gd.off qd8_6.out
     obtain rfl:fl11=false:=Gd.off qd11_5.out
     obtain rfl:fl12=false:=Gd.off qd12_8.out
     have rd32:=qf2.out.get.1
     have rd34:=qf4.out.get.1
     have hw44:=qf2.out.get.2
     have hw45:=qf4.out.get.2
     refine wog hO (λK' hK=>?_)
     go_simp
     refine(C2.out w' hBi.out _ _ _ hw44 _ _ _ hw45).mono ?_
     rintro e w2 ⟨nB46,nm46,nd46,nB47,nm47,nd47,rfl,nhw46,nhw47,hb⟩
     exact hK.out _ _ ⟨zab hBi.out hb,true,true,true,false,false,false,fl9,fl10,false,false,B44,m44,d44,B45,m45,d45,nB46,nm46,nd46,nB47,nm47,nd47,ad9,ad10,by rfl,HKp.put (by decide) _,zab hBi.out hb,kq qf2.out λh=>(h).below hb,kq qf4.out λh=>(h).below hb,Gd.yes ⟨zaZ (HKp.lt (by rw [hsz];decide)) _,nhw46,nhw47⟩,Gd.no,Gd.no,Gd.no,kq qf9.out λh=>⟨h.1,zaa hb h.2⟩,kq qf10.out λh=>⟨h.1,zaa hb h.2⟩,qn9_10,λ_=>rfl,λ_=>rfl,λ_=>rfl,Gd.no,Gd.no,Gd.no,Gd.no,Gd.no,Gd.no,Gd.no,Gd.no,Gd.no⟩
    ·obtain rfl:fl6=false:=zak hi
     obtain rfl:fl5=true:=rdp 5 0 hi hO
     obtain rfl:fl2=true:=qd5_2.out.get
     obtain rfl:fl4=true:=qd5_4.out.get
     obtain rfl:fl7=false:=Gd.off qd7_6.out
     obtain rfl:fl8=false:=Gd.off qd8_6.out
     obtain rfl:fl11=false:=Gd.off qd11_7.out
     obtain rfl:fl12=false:=Gd.off qd12_8.out
     have rd35:=qf5.out.get.1
     refine wog hO (λK' hK=>?_)
     refine zeM (x:=35) (Or.inl rfl) rd35 ?_
     exact hK.out _ _ ⟨hBi.out,true,true,true,true,false,false,fl9,fl10,false,false,B44,m44,d44,B45,m45,d45,B46,m46,d46,B47,m47,d47,ad9,ad10,by rfl,HKp.put (by decide) _,hBi.out,kq qf2.out λh=>(h),kq qf4.out λh=>(h),kq qf5.out λh=>⟨(h.1),(h.2)⟩,Gd.yes (zaZ (HKp.lt (by rw [hsz];decide)) _),Gd.no,Gd.no,kq qf9.out id,kq qf10.out id,qn9_10,λ_=>rfl,λ_=>rfl,λ_=>rfl,λ_=>rfl,Gd.no,Gd.no,Gd.no,Gd.no,Gd.no,Gd.no,Gd.no,Gd.no⟩
    ·obtain rfl:fl7=false:=zak hi
     obtain rfl:fl6=true:=rdp 6 0 hi hO
     obtain rfl:fl5=true:=qd6_5.out.get
     obtain rfl:fl2=true:=qd5_2.out.get
     obtain rfl:fl4=true:=qd5_4.out.get
     obtain rfl:fl11=false:=Gd.off qd11_7.out
     obtain rfl:fl12=false:=Gd.off qd12_11.out
     have rd29:=qf6.out.get
     refine wog hO (λK' hK=>?_)
     refine zbu (x:=29) (k:=0) rfl rd29 rfl ?_
     exact hK.out _ _ ⟨hBi.out,true,true,true,true,true,fl8,fl9,fl10,false,false,B44,m44,d44,B45,m45,d45,B46,m46,d46,B47,m47,d47,ad9,ad10,by rfl,HKp.put (by decide) _,hBi.out,kq qf2.out λh=>(h),kq qf4.out λh=>(h),kq qf5.out λh=>⟨(h.1),(h.2)⟩,kq0 qf6.out,Gd.yes (zaZ (HKp.lt (by rw [hsz];decide)) _),kq0 qf8.out,kq qf9.out id,kq qf10.out id,qn9_10,λ_=>rfl,λ_=>rfl,λ_=>rfl,λ_=>rfl,λ_=>rfl,λ_=>rfl,Gd.no,Gd.no,Gd.no,Gd.no,Gd.no,Gd.no⟩
    ·obtain rfl:fl8=false:=zak hi
     obtain rfl:fl6=true:=rdp 6 0 hi hO
     obtain rfl:fl5=true:=qd6_5.out.get
     obtain rfl:fl2=true:=qd5_2.out.get
     obtain rfl:fl4=true:=qd5_4.out.get
     obtain rfl:fl12=false:=Gd.off qd12_8.out
     have rd29:=qf6.out.get
     refine wog hO (λK' hK=>?_)
     refine zbu (x:=29) (k:=1) rfl rd29 rfl ?_
     exact hK.out _ _ ⟨hBi.out,true,true,true,true,fl7,true,fl9,fl10,fl11,false,B44,m44,d44,B45,m45,d45,B46,m46,d46,B47,m47,d47,ad9,ad10,by rfl,HKp.put (by decide) _,hBi.out,kq qf2.out λh=>(h),kq qf4.out λh=>(h),kq qf5.out λh=>⟨(h.1),(h.2)⟩,kq0 qf6.out,kq0 qf7.out,Gd.yes (zaZ (HKp.lt (by rw [hsz];decide)) _),kq qf9.out id,kq qf10.out id,qn9_10,λ_=>rfl,λ_=>rfl,λ_=>rfl,λ_=>rfl,λ_=>rfl,λ_=>rfl,λ_=>rfl,qd11_7,qd11_9,Gd.no,Gd.no,Gd.no⟩
    ·obtain rfl:fl9=false:=zak hi
     obtain rfl:fl11=false:=Gd.off qd11_9.out
     obtain rfl:fl12=false:=Gd.off qd12_11.out
     refine wog hO (λK' hK=>?_)
     go_simp
     have hb:=zcd w' (.cells #[.slice none 0 0] 37)
     exact hK.out _ _ ⟨zab hBi.out hb,fl2,fl4,fl5,fl6,fl7,fl8,true,fl10,false,false,B44,m44,d44,B45,m45,d45,B46,m46,d46,B47,m47,d47,w'.heap.size,ad10,by rfl,HKp.put (by decide) _,zab hBi.out hb,kq qf2.out λh=>(h).below hb,kq qf4.out λh=>(h).below hb,kq qf5.out λh=>⟨(h.1).below hb,(h.2).below hb⟩,kq0 qf6.out,kq0 qf7.out,kq0 qf8.out,Gd.yes ⟨zaZ (HKp.lt (by rw [hsz];decide)) _,hBi.out.size,Blk.new w' _ _⟩,kq qf10.out λh=>⟨h.1,zaa hb h.2⟩,Gd.yes (qf10.out.mono λh=>by have:=Blk.lt h.2.2;omega),qd4_2,qd5_2,qd5_4,qd6_5,qd7_6,qd8_6,Gd.no,Gd.no,Gd.no,Gd.no,Gd.no,Gd.no⟩
    ·obtain rfl:fl10=false:=zak hi
     obtain rfl:fl12=false:=Gd.off qd12_10.out
     refine wog hO (λK' hK=>?_)
     go_simp
     have hb:=zcd w' (.cells #[.slice none 0 0] 37)
     exact hK.out _ _ ⟨zab hBi.out hb,fl2,fl4,fl5,fl6,fl7,fl8,fl9,true,fl11,false,B44,m44,d44,B45,m45,d45,B46,m46,d46,B47,m47,d47,ad9,w'.heap.size,by rfl,HKp.put (by decide) _,zab hBi.out hb,kq qf2.out λh=>(h).below hb,kq qf4.out λh=>(h).below hb,kq qf5.out λh=>⟨(h.1).below hb,(h.2).below hb⟩,kq0 qf6.out,kq0 qf7.out,kq0 qf8.out,kq qf9.out λh=>⟨h.1,zaa hb h.2⟩,Gd.yes ⟨zaZ (HKp.lt (by rw [hsz];decide)) _,hBi.out.size,Blk.new w' _ _⟩,qf9.out.mono λh=>Gd.yes (by have:=Blk.lt h.2.2;omega),qd4_2,qd5_2,qd5_4,qd6_5,qd7_6,qd8_6,qd11_5,qd11_7,qd11_9,Gd.no,Gd.no,Gd.no⟩
    ·obtain rfl:fl11=false:=zak hi
     obtain rfl:fl2=true:=rdp 2 5 hi hO
     obtain rfl:fl4=true:=rdp 4 7 hi hO
     obtain rfl:fl5=true:=rdp 5 2 hi hO
     obtain rfl:fl6=true:=rdp 6 9 hi hO
     obtain rfl:fl7=true:=rdp 7 1 hi hO
     obtain rfl:fl9=true:=rdp 9 0 hi hO
     obtain rfl:fl10=true:=rdp 10 13 hi hO
     obtain rfl:fl12=false:=Gd.off qd12_11.out
     have rd5:=qf9.out.get.1
     have rd36:=qf7.out.get
     obtain⟨_,hg,hk⟩:=qf9.out.get
     have hk:Blk w' ad9 37 #[.slice none 0 0]:=hk
     obtain⟨sc0,sf0⟩:=st1 hk
     have hj0:=sn1 hk (.slice B46 m46 d46)
     have hBn:=bl1 (.slice B46 m46 d46) hg hBi.out
     refine wog hO (λK' hK=>?_)
     go_simp
     exact hK.out _ _ ⟨hBn,true,true,true,true,true,fl8,true,true,true,false,B44,m44,d44,B45,m45,d45,B46,m46,d46,B47,m47,d47,ad9,ad10,by rfl,HKp,hBn,qf2.out.mono λh=>⟨h.1,zat (h.2) hk zcv (zcg _ _ _)⟩,qf4.out.mono λh=>⟨h.1,zat (h.2) hk zcv (zcg _ _ _)⟩,qf5.out.mono λh=>⟨h.1,zat (h.2.1) hk zcv (zcg _ _ _),zat (h.2.2) hk zcv (zcg _ _ _)⟩,qf6.out.mono λh=>h,qf7.out.mono λh=>h,qf8.out.mono λh=>h,qf9.out.mono λh=>⟨h.1,h.2.1,hj0⟩,λhf9=>(λh=>⟨h.1,h.2.1,Blk.far (p:=⟨ad9,0,none⟩) (h.2.2) (Ne.symm (qn9_10.out rfl hf9)) (.slice B46 m46 d46)⟩) (qf10.out hf9),qn9_10,λ_=>rfl,λ_=>rfl,λ_=>rfl,λ_=>rfl,λ_=>rfl,λ_=>rfl,λ_=>rfl,λ_=>rfl,λ_=>rfl,Gd.no,Gd.no,Gd.no⟩
    ·obtain rfl:fl12=false:=zak hi
     obtain rfl:fl2=true:=rdp 2 5 hi hO
     obtain rfl:fl4=true:=rdp 4 7 hi hO
     obtain rfl:fl5=true:=rdp 5 8 hi hO
     obtain rfl:fl6=true:=rdp 6 9 hi hO
     obtain rfl:fl7=true:=rdp 7 10 hi hO
     obtain rfl:fl8=true:=rdp 8 1 hi hO
     obtain rfl:fl9=true:=rdp 9 12 hi hO
     obtain rfl:fl10=true:=rdp 10 0 hi hO
     obtain rfl:fl11=true:=rdp 11 2 hi hO
     have rd6:=qf10.out.get.1
     have rd37:=qf8.out.get
     obtain⟨_,hg,hk⟩:=qf10.out.get
     have hk:Blk w' ad10 37 #[.slice none 0 0]:=hk
     obtain⟨sc0,sf0⟩:=st1 hk
     have hj0:=sn1 hk (.slice B47 m47 d47)
     have hBn:=bl1 (.slice B47 m47 d47) hg hBi.out
     refine wog hO (λK' hK=>?_)
     go_simp
     exact hK.out _ _ ⟨hBn,true,true,true,true,true,true,true,true,true,true,B44,m44,d44,B45,m45,d45,B46,m46,d46,B47,m47,d47,ad9,ad10,by rfl,HKp,hBn,qf2.out.mono λh=>⟨h.1,zat (h.2) hk zcv (zcg _ _ _)⟩,qf4.out.mono λh=>⟨h.1,zat (h.2) hk zcv (zcg _ _ _)⟩,qf5.out.mono λh=>⟨h.1,zat (h.2.1) hk zcv (zcg _ _ _),zat (h.2.2) hk zcv (zcg _ _ _)⟩,qf6.out.mono λh=>h,qf7.out.mono λh=>h,qf8.out.mono λh=>h,λhf9=>(λh=>⟨h.1,h.2.1,Blk.far (p:=⟨ad10,0,none⟩) (h.2.2) (qn9_10.out hf9 rfl) (.slice B47 m47 d47)⟩) (qf9.out hf9),qf10.out.mono λh=>⟨h.1,h.2.1,hj0⟩,qn9_10,λ_=>rfl,λ_=>rfl,λ_=>rfl,λ_=>rfl,λ_=>rfl,λ_=>rfl,λ_=>rfl,λ_=>rfl,λ_=>rfl,λ_=>rfl,λ_=>rfl,λ_=>rfl⟩
  rintro a wm42 ⟨fl2,fl4,fl5,fl6,fl7,fl8,fl9,fl10,fl11,fl12,B44,m44,d44,B45,m45,d45,B46,m46,d46,B47,m47,d47,ad9,ad10,hl,HKp,hBi,qf2,qf4,qf5,qf6,qf7,qf8,qf9,qf10,qn9_10,qd4_2,qd5_2,qd5_4,qd6_5,qd7_6,qd8_6,qd11_5,qd11_7,qd11_9,qd12_8,qd12_10,qd12_11⟩
  have xx2:fl2=true:=gdl 2 hl
  subst xx2
  have xx4:fl4=true:=gdl 4 hl
  subst xx4
  have xx5:fl5=true:=gdl 5 hl
  subst xx5
  have xx6:fl6=true:=gdl 6 hl
  subst xx6
  have xx7:fl7=true:=gdl 7 hl
  subst xx7
  have xx8:fl8=true:=gdl 8 hl
  subst xx8
  have xx9:fl9=true:=gdl 9 hl
  subst xx9
  have xx10:fl10=true:=gdl 10 hl
  subst xx10
  have xx11:fl11=true:=gdl 11 hl
  subst xx11
  have xx12:fl12=true:=gdl 12 hl
  subst xx12
  obtain⟨rv2,hw44⟩:=qf2.out.get
  obtain⟨rv4,hw45⟩:=qf4.out.get
  obtain⟨rv5,hw46,hw47⟩:=qf5.out.get
  have rv6:=qf6.out.get
  have rv7:=qf7.out.get
  have rv8:=qf8.out.get
  obtain⟨rv9,hg9,hk9⟩:=qf9.out.get
  obtain⟨rv10,hg10,hk10⟩:=qf10.out.get
  obtain rfl:=HKp.eq [(32,.agg #[.slice B44 m44 d44]),(34,.agg #[.slice B45 m45 d45]),(35,.tuple #[.agg #[.slice B46 m46 d46],.agg #[.slice B47 m47 d47]]),(29,.tuple #[.agg #[.slice B46 m46 d46],.agg #[.slice B47 m47 d47]]),(36,.agg #[.slice B46 m46 d46]),(37,.agg #[.slice B47 m47 d47]),(5,.pointer (some ⟨ad9,0,none⟩)),(6,.pointer (some ⟨ad10,0,none⟩))] rfl (by
   intro p hp
   simp only [List.mem_cons,List.not_mem_nil,or_false] at hp
   rcases hp with rfl|rfl|rfl|rfl|rfl|rfl|rfl|rfl
   ·exact rv2
   ·exact rv4
   ·exact rv5
   ·exact rv6
   ·exact rv7
   ·exact rv8
   ·exact rv9
   ·exact rv10)
  have hBv:=hBi.out
  clear hl hBi HKp qf2 qf4 qf5 qf6 qf7 qf8 qf9 qf10 qn9_10 qd4_2 qd5_2 qd5_4 qd6_5 qd7_6 qd8_6 qd11_5 qd11_7 qd11_9 qd12_8 qd12_10 qd12_11 rv2 rv4 rv5 rv6 rv7 rv8 rv9 rv10
  have hk9:Blk wm42 ad9 37 #[.slice B46 m46 d46]:=hk9
  have hk10:Blk wm42 ad10 37 #[.slice B47 m47 d47]:=hk10
  rw [show due #[true,true,true,true,true,true,true,true,true,true,true,true,true]=0 from rfl]
  simp only [zdp,List.foldl,Act.put,List.setIfInBounds_toArray,List.set_cons_zero,List.set_cons_succ]
  refine wpAnyH_done (by kernel_rfl) ?_ _
  refine NoPanic.normal ?_
  have hB:=zab hB hBv
  have g1:=zac hBv g1
  have e1:=zac hBv e1
  have i1:=zac hBv i1
  have g2:=zac hBv g2
  have e2:=zac hBv e2
  have i2:=zac hBv i2
  have k3:=zaa hBv k3
  obtain⟨ad9_48,hga⟩:∃x,x=ad9:=⟨_,rfl⟩
  subst hga
  have g48:=hk9.c1
  obtain⟨ad10_49,hga⟩:∃x,x=ad10:=⟨_,rfl⟩
  subst hga
  have g49:=hk10.c1
  have HN46:=lh9 hw46
  have HN47:=lh9 hw47
  clear hBv hk9 hk10 hw44 hw45 hw46 hw47 GG
  clear C0 C1 C2
  go_wp2_with fail
  have HZ50:Hid (Sz (K) (s.num.natAbs)):=HZabp.out
  have C0:=lh9 (λw' (h:Below wm42.heap.size wm42 w')=>HIC.out.abs (s.num) bab Bab mab dab w' (HT.out _ (zab hB h)) (HNabp.out _ (zab hB h)) (szi HZabp (HNabp.out _ hB)))
  have HZ51:Hid (Sz (K) (r.den)):=SzQ.den HZaa.out
  have C1:=lh9 (λw' (h:Below wm42.heap.size wm42 w')=>zcA (r) baa Baa maa daa Eaa uaa vaa w' (HT.out _ (zab hB h)) (HNaa.out _ (zab hB h)) (szq HZaa (HNaa.out _ hB)))
  have HZ52:Hid (Sz (K) (s.num.natAbs / Nat.gcd s.num.natAbs r.den)):=Sz.of_le HZ50.out (Nat.div_le_self _ _)
  have HZ53:Hid (Sz (K) (r.den / Nat.gcd s.num.natAbs r.den)):=Sz.of_le HZ51.out (Nat.div_le_self _ _)
  have C2:=lh9 (λw' (h:Below wm42.heap.size wm42 w') B50 m50 d50 (hw50:zad w' (s.num.natAbs) B50 m50 d50) B51 m51 d51 (hw51:zad w' (r.den) B51 m51 d51)=>HGC.out.reduce (s.num.natAbs) (r.den) B50 B51 m50 m51 d50 d51 w' hw50 hw51 (szw HZ50 hw50) (szw HZ51 hw51) (HTB.out _ (zab hB h)))
  have lt3_m42:=k3.lt
  have GG:=lh9 (λw' (h:Below wm42.heap.size wm42 w')=>(csc (zac h g2) (csc (zac h e2) (csc (zac h i2) (csc (zac h g1) (csc (zac h e1) (csc (zac h i1) csn)))))))
  refine rgB (λhHeld=>?_)
  refine tl 0 GG.out ?_
  refine tl 1 GG.out ?_
  refine tl 3 GG.out ?_
  refine zcl (L:=#[true,true,true,true,true,true,true,true,true,true,true,true,true])
   (J:=fun a0 l a w' => ∃ (fl2 fl4 fl5 fl6 fl7 fl8 fl9 fl10 fl11 fl12 : Bool) (B50 : oA9) (m50 d50 : Nat) (B51 : oA9) (m51 d51 : Nat) (B52 : oA9) (m52 d52 : Nat) (B53 : oA9) (m53 d53 ad9 ad10 : Nat),l = #[true,true,fl2,true,fl4,fl5,fl6,fl7,fl8,fl9,fl10,fl11,fl12] ∧ zdJ [41,43,44,38,45,46,7,8] a0 a ∧ Hid (Below wm42.heap.size wm42 w') ∧
     Hid (Gd fl2 (a.tmps.getD 41 undef=.agg #[.slice B50 m50 d50]/\zad w' (s.num.natAbs) B50 m50 d50))/\
     Hid (Gd fl4 (a.tmps.getD 43 undef=.agg #[.slice B51 m51 d51]/\zad w' (r.den) B51 m51 d51))/\
     Hid (Gd fl5 (a.tmps.getD 44 undef=.tuple #[.agg #[.slice B52 m52 d52],.agg #[.slice B53 m53 d53]]/\zad w' (s.num.natAbs / Nat.gcd s.num.natAbs r.den) B52 m52 d52/\zad w' (r.den / Nat.gcd s.num.natAbs r.den) B53 m53 d53))/\
     Hid (Gd fl6 (a.tmps.getD 38 undef=.tuple #[.agg #[.slice B52 m52 d52],.agg #[.slice B53 m53 d53]]))/\
     Hid (Gd fl7 (a.tmps.getD 45 undef=.agg #[.slice B52 m52 d52]))/\
     Hid (Gd fl8 (a.tmps.getD 46 undef=.agg #[.slice B53 m53 d53]))/\
     Hid (Gd fl9 (a.tmps.getD 7 undef=.pointer (some ⟨ad9,0,none⟩)/\wm42.heap.size<=ad9/\Blk w' ad9 37 (bif fl11 then #[.slice B52 m52 d52] else #[.slice none 0 0])))/\
     Hid (Gd fl10 (a.tmps.getD 8 undef=.pointer (some ⟨ad10,0,none⟩)/\wm42.heap.size<=ad10/\Blk w' ad10 37 (bif fl12 then #[.slice B53 m53 d53] else #[.slice none 0 0])))/\
     Hid (Gd fl9 (Gd fl10 (ad9≠ad10)))/\
     Hid (Gd fl4 (fl2=true))/\
     Hid (Gd fl5 (fl2=true))/\
     Hid (Gd fl5 (fl4=true))/\
     Hid (Gd fl6 (fl5=true))/\
     Hid (Gd fl7 (fl6=true))/\
     Hid (Gd fl8 (fl6=true))/\
     Hid (Gd fl11 (fl5=true))/\
     Hid (Gd fl11 (fl7=true))/\
     Hid (Gd fl11 (fl9=true))/\
     Hid (Gd fl12 (fl8=true))/\
     Hid (Gd fl12 (fl10=true))/\
     Hid (Gd fl12 (fl11=true)))
   (by rfl) ?_ ?_ ?_
  ·exact⟨false,false,false,false,false,false,false,false,false,false,none,0,0,none,0,0,none,0,0,none,0,0,0,0,by kernel_rfl,zdJ.refl _ _,hHeld,Gd.no,Gd.no,Gd.no,Gd.no,Gd.no,Gd.no,Gd.no,Gd.no,Gd.no,Gd.no,Gd.no,Gd.no,Gd.no,Gd.no,Gd.no,Gd.no,Gd.no,Gd.no,Gd.no,Gd.no,Gd.no⟩
  ·intro OPS Ac0 Q0 hO hAs hA
   have RB40:Ac0.tmps.getD 40 undef=.agg #[.bool bab,.slice Bab mab dab]:=(hA 40 undef).trans (by kernel_rfl)
   have RB42:Ac0.tmps.getD 42 undef=.agg #[.bool baa,.slice Baa maa daa,.slice Eaa uaa vaa]:=(hA 42 undef).trans (by kernel_rfl)
   have hsz:Ac0.tmps.size=61:=hAs.trans (by kernel_rfl)
   clear hAs hA
   refine⟨?_,?_⟩
   ·rintro l a w' ⟨fl2,fl4,fl5,fl6,fl7,fl8,fl9,fl10,fl11,fl12,B50,m50,d50,B51,m51,d51,B52,m52,d52,B53,m53,d53,ad9,ad10,rfl,-⟩ hr
    obtain rfl:fl2=true:=als 2 hr hO
    obtain rfl:fl4=true:=als 4 hr hO
    obtain rfl:fl5=true:=als 5 hr hO
    obtain rfl:fl6=true:=als 6 hr hO
    obtain rfl:fl7=true:=als 7 hr hO
    obtain rfl:fl8=true:=als 8 hr hO
    obtain rfl:fl9=true:=als 9 hr hO
    obtain rfl:fl10=true:=als 10 hr hO
    obtain rfl:fl11=true:=als 11 hr hO
    obtain rfl:fl12=true:=als 12 hr hO
    rfl
   ·rintro l a w' i ⟨fl2,fl4,fl5,fl6,fl7,fl8,fl9,fl10,fl11,fl12,B50,m50,d50,B51,m51,d51,B52,m52,d52,B53,m53,d53,ad9,ad10,rfl,HKp,hBi,qf2,qf4,qf5,qf6,qf7,qf8,qf9,qf10,qn9_10,qd4_2,qd5_2,qd5_4,qd6_5,qd7_6,qd8_6,qd11_5,qd11_7,qd11_9,qd12_8,qd12_10,qd12_11⟩ hne hi
    have hlt:i<13:=by have:=zdZ hi;rw [hO] at this;exact this
    rcases (show i=0\/i=1\/i=2\/i=3\/i=4\/i=5\/i=6\/i=7\/i=8\/i=9\/i=10\/i=11\/i=12 by omega) with rfl|rfl|rfl|rfl|rfl|rfl|rfl|rfl|rfl|rfl|rfl|rfl|rfl
    ·cases (zak hi:true=false)
    ·cases (zak hi:true=false)
    ·obtain rfl:fl2=false:=zak hi
     obtain rfl:fl4=false:=Gd.off qd4_2.out
     obtain rfl:fl5=false:=Gd.off qd5_2.out
     obtain rfl:fl6=false:=Gd.off qd6_5.out
     obtain rfl:fl7=false:=Gd.off qd7_6.out
     obtain rfl:fl8=false:=Gd.off qd8_6.out
     obtain rfl:fl11=false:=Gd.off qd11_5.out
     obtain rfl:fl12=false:=Gd.off qd12_8.out
     have rd40:=HKp.get 40 (by decide) RB40
     refine wog hO (λK' hK=>?_)
     go_simp
     refine(C0.out w' hBi.out).mono ?_
     rintro e w2 ⟨nB50,nm50,nd50,rfl,nhw50,hb⟩
     exact hK.out _ _ ⟨zab hBi.out hb,true,false,false,false,false,false,fl9,fl10,false,false,nB50,nm50,nd50,B51,m51,d51,B52,m52,d52,B53,m53,d53,ad9,ad10,by rfl,HKp.put (by decide) _,zab hBi.out hb,Gd.yes ⟨zaZ (HKp.lt (by rw [hsz];decide)) _,nhw50⟩,Gd.no,Gd.no,Gd.no,Gd.no,Gd.no,kq qf9.out λh=>⟨h.1,zaa hb h.2⟩,kq qf10.out λh=>⟨h.1,zaa hb h.2⟩,qn9_10,Gd.no,Gd.no,Gd.no,Gd.no,Gd.no,Gd.no,Gd.no,Gd.no,Gd.no,Gd.no,Gd.no,Gd.no⟩
    ·cases (zak hi:true=false)
    ·obtain rfl:fl4=false:=zak hi
     obtain rfl:fl2=true:=rdp 2 1 hi hO
     obtain rfl:fl5=false:=Gd.off qd5_4.out
     obtain rfl:fl6=false:=Gd.off qd6_5.out
     obtain rfl:fl7=false:=Gd.off qd7_6.out
     obtain rfl:fl8=false:=Gd.off qd8_6.out
     obtain rfl:fl11=false:=Gd.off qd11_5.out
     obtain rfl:fl12=false:=Gd.off qd12_8.out
     have rd42:=HKp.get 42 (by decide) RB42
     refine wog hO (λK' hK=>?_)
     go_simp
     refine(C1.out w' hBi.out).mono ?_
     rintro e w2 ⟨nB51,nm51,nd51,rfl,nhw51,hb⟩
     exact hK.out _ _ ⟨zab hBi.out hb,true,true,false,false,false,false,fl9,fl10,false,false,B50,m50,d50,nB51,nm51,nd51,B52,m52,d52,B53,m53,d53,ad9,ad10,by rfl,HKp.put (by decide) _,zab hBi.out hb,kq qf2.out λh=>(h).below hb,Gd.yes ⟨zaZ (HKp.lt (by rw [hsz];decide)) _,nhw51⟩,Gd.no,Gd.no,Gd.no,Gd.no,kq qf9.out λh=>⟨h.1,zaa hb h.2⟩,kq qf10.out λh=>⟨h.1,zaa hb h.2⟩,qn9_10,λ_=>rfl,Gd.no,Gd.no,Gd.no,Gd.no,Gd.no,Gd.no,Gd.no,Gd.no,Gd.no,Gd.no,Gd.no⟩
    ·obtain rfl:fl5=false:=zak hi
     obtain rfl:fl2=true:=rdp 2 0 hi hO
     obtain rfl:fl4=true:=rdp 4 1 hi hO
     obtain rfl:fl6=false:=Gd.off qd6_5.out
     obtain rfl:fl7=false:=Gd.off qd7_6.out
     obtain rfl:fl8=false:=Gd.off qd8_6.out
     obtain rfl:fl11=false:=Gd.off qd11_5.out
     obtain rfl:fl12=false:=Gd.off qd12_8.out
     have rd41:=qf2.out.get.1
     have rd43:=qf4.out.get.1
     have hw50:=qf2.out.get.2
     have hw51:=qf4.out.get.2
     refine wog hO (λK' hK=>?_)
     go_simp
     refine(C2.out w' hBi.out _ _ _ hw50 _ _ _ hw51).mono ?_
     rintro e w2 ⟨nB52,nm52,nd52,nB53,nm53,nd53,rfl,nhw52,nhw53,hb⟩
     exact hK.out _ _ ⟨zab hBi.out hb,true,true,true,false,false,false,fl9,fl10,false,false,B50,m50,d50,B51,m51,d51,nB52,nm52,nd52,nB53,nm53,nd53,ad9,ad10,by rfl,HKp.put (by decide) _,zab hBi.out hb,kq qf2.out λh=>(h).below hb,kq qf4.out λh=>(h).below hb,Gd.yes ⟨zaZ (HKp.lt (by rw [hsz];decide)) _,nhw52,nhw53⟩,Gd.no,Gd.no,Gd.no,kq qf9.out λh=>⟨h.1,zaa hb h.2⟩,kq qf10.out λh=>⟨h.1,zaa hb h.2⟩,qn9_10,λ_=>rfl,λ_=>rfl,λ_=>rfl,Gd.no,Gd.no,Gd.no,Gd.no,Gd.no,Gd.no,Gd.no,Gd.no,Gd.no⟩
    ·obtain rfl:fl6=false:=zak hi
     obtain rfl:fl5=true:=rdp 5 0 hi hO
     obtain rfl:fl2=true:=qd5_2.out.get
     obtain rfl:fl4=true:=qd5_4.out.get
     obtain rfl:fl7=false:=Gd.off qd7_6.out
     obtain rfl:fl8=false:=Gd.off qd8_6.out
     obtain rfl:fl11=false:=Gd.off qd11_7.out
     obtain rfl:fl12=false:=Gd.off qd12_8.out
     have rd44:=qf5.out.get.1
     refine wog hO (λK' hK=>?_)
     refine zeM (x:=44) (Or.inl rfl) rd44 ?_
     exact hK.out _ _ ⟨hBi.out,true,true,true,true,false,false,fl9,fl10,false,false,B50,m50,d50,B51,m51,d51,B52,m52,d52,B53,m53,d53,ad9,ad10,by rfl,HKp.put (by decide) _,hBi.out,kq qf2.out λh=>(h),kq qf4.out λh=>(h),kq qf5.out λh=>⟨(h.1),(h.2)⟩,Gd.yes (zaZ (HKp.lt (by rw [hsz];decide)) _),Gd.no,Gd.no,kq qf9.out id,kq qf10.out id,qn9_10,λ_=>rfl,λ_=>rfl,λ_=>rfl,λ_=>rfl,Gd.no,Gd.no,Gd.no,Gd.no,Gd.no,Gd.no,Gd.no,Gd.no⟩
    ·obtain rfl:fl7=false:=zak hi
     obtain rfl:fl6=true:=rdp 6 0 hi hO
     obtain rfl:fl5=true:=qd6_5.out.get
     obtain rfl:fl2=true:=qd5_2.out.get
     obtain rfl:fl4=true:=qd5_4.out.get
     obtain rfl:fl11=false:=Gd.off qd11_7.out
     obtain rfl:fl12=false:=Gd.off qd12_11.out
     have rd38:=qf6.out.get
     refine wog hO (λK' hK=>?_)
     refine zbu (x:=38) (k:=0) rfl rd38 rfl ?_
     exact hK.out _ _ ⟨hBi.out,true,true,true,true,true,fl8,fl9,fl10,false,false,B50,m50,d50,B51,m51,d51,B52,m52,d52,B53,m53,d53,ad9,ad10,by rfl,HKp.put (by decide) _,hBi.out,kq qf2.out λh=>(h),kq qf4.out λh=>(h),kq qf5.out λh=>⟨(h.1),(h.2)⟩,kq0 qf6.out,Gd.yes (zaZ (HKp.lt (by rw [hsz];decide)) _),kq0 qf8.out,kq qf9.out id,kq qf10.out id,qn9_10,λ_=>rfl,λ_=>rfl,λ_=>rfl,λ_=>rfl,λ_=>rfl,λ_=>rfl,Gd.no,Gd.no,Gd.no,Gd.no,Gd.no,Gd.no⟩
    ·obtain rfl:fl8=false:=zak hi
     obtain rfl:fl6=true:=rdp 6 0 hi hO
     obtain rfl:fl5=true:=qd6_5.out.get
     obtain rfl:fl2=true:=qd5_2.out.get
     obtain rfl:fl4=true:=qd5_4.out.get
     obtain rfl:fl12=false:=Gd.off qd12_8.out
     have rd38:=qf6.out.get
     refine wog hO (λK' hK=>?_)
     refine zbu (x:=38) (k:=1) rfl rd38 rfl ?_
     exact hK.out _ _ ⟨hBi.out,true,true,true,true,fl7,true,fl9,fl10,fl11,false,B50,m50,d50,B51,m51,d51,B52,m52,d52,B53,m53,d53,ad9,ad10,by rfl,HKp.put (by decide) _,hBi.out,kq qf2.out λh=>(h),kq qf4.out λh=>(h),kq qf5.out λh=>⟨(h.1),(h.2)⟩,kq0 qf6.out,kq0 qf7.out,Gd.yes (zaZ (HKp.lt (by rw [hsz];decide)) _),kq qf9.out id,kq qf10.out id,qn9_10,λ_=>rfl,λ_=>rfl,λ_=>rfl,λ_=>rfl,λ_=>rfl,λ_=>rfl,λ_=>rfl,qd11_7,qd11_9,Gd.no,Gd.no,Gd.no⟩
    ·obtain rfl:fl9=false:=zak hi
     obtain rfl:fl11=false:=Gd.off qd11_9.out
     obtain rfl:fl12=false:=Gd.off qd12_11.out
     refine wog hO (λK' hK=>?_)
     go_simp
     have hb:=zcd w' (.cells #[.slice none 0 0] 37)
     exact hK.out _ _ ⟨zab hBi.out hb,fl2,fl4,fl5,fl6,fl7,fl8,true,fl10,false,false,B50,m50,d50,B51,m51,d51,B52,m52,d52,B53,m53,d53,w'.heap.size,ad10,by rfl,HKp.put (by decide) _,zab hBi.out hb,kq qf2.out λh=>(h).below hb,kq qf4.out λh=>(h).below hb,kq qf5.out λh=>⟨(h.1).below hb,(h.2).below hb⟩,kq0 qf6.out,kq0 qf7.out,kq0 qf8.out,Gd.yes ⟨zaZ (HKp.lt (by rw [hsz];decide)) _,hBi.out.size,Blk.new w' _ _⟩,kq qf10.out λh=>⟨h.1,zaa hb h.2⟩,Gd.yes (qf10.out.mono λh=>by have:=Blk.lt h.2.2;omega),qd4_2,qd5_2,qd5_4,qd6_5,qd7_6,qd8_6,Gd.no,Gd.no,Gd.no,Gd.no,Gd.no,Gd.no⟩
    ·obtain rfl:fl10=false:=zak hi
     obtain rfl:fl12=false:=Gd.off qd12_10.out
     refine wog hO (λK' hK=>?_)
     go_simp
     have hb:=zcd w' (.cells #[.slice none 0 0] 37)
     exact hK.out _ _ ⟨zab hBi.out hb,fl2,fl4,fl5,fl6,fl7,fl8,fl9,true,fl11,false,B50,m50,d50,B51,m51,d51,B52,m52,d52,B53,m53,d53,ad9,w'.heap.size,by rfl,HKp.put (by decide) _,zab hBi.out hb,kq qf2.out λh=>(h).below hb,kq qf4.out λh=>(h).below hb,kq qf5.out λh=>⟨(h.1).below hb,(h.2).below hb⟩,kq0 qf6.out,kq0 qf7.out,kq0 qf8.out,kq qf9.out λh=>⟨h.1,zaa hb h.2⟩,Gd.yes ⟨zaZ (HKp.lt (by rw [hsz];decide)) _,hBi.out.size,Blk.new w' _ _⟩,qf9.out.mono λh=>Gd.yes (by have:=Blk.lt h.2.2;omega),qd4_2,qd5_2,qd5_4,qd6_5,qd7_6,qd8_6,qd11_5,qd11_7,qd11_9,Gd.no,Gd.no,Gd.no⟩
    ·obtain rfl:fl11=false:=zak hi
     obtain rfl:fl2=true:=rdp 2 5 hi hO
     obtain rfl:fl4=true:=rdp 4 7 hi hO
     obtain rfl:fl5=true:=rdp 5 2 hi hO
     obtain rfl:fl6=true:=rdp 6 9 hi hO
     obtain rfl:fl7=true:=rdp 7 1 hi hO
     obtain rfl:fl9=true:=rdp 9 0 hi hO
     obtain rfl:fl10=true:=rdp 10 13 hi hO
     obtain rfl:fl12=false:=Gd.off qd12_11.out
     have rd7:=qf9.out.get.1
     have rd45:=qf7.out.get
     obtain⟨_,hg,hk⟩:=qf9.out.get
     have hk:Blk w' ad9 37 #[.slice none 0 0]:=hk
     obtain⟨sc0,sf0⟩:=st1 hk
     have hj0:=sn1 hk (.slice B52 m52 d52)
     have hBn:=bl1 (.slice B52 m52 d52) hg hBi.out
     refine wog hO (λK' hK=>?_)
     go_simp
     exact hK.out _ _ ⟨hBn,true,true,true,true,true,fl8,true,true,true,false,B50,m50,d50,B51,m51,d51,B52,m52,d52,B53,m53,d53,ad9,ad10,by rfl,HKp,hBn,qf2.out.mono λh=>⟨h.1,zat (h.2) hk zcv (zcg _ _ _)⟩,qf4.out.mono λh=>⟨h.1,zat (h.2) hk zcv (zcg _ _ _)⟩,qf5.out.mono λh=>⟨h.1,zat (h.2.1) hk zcv (zcg _ _ _),zat (h.2.2) hk zcv (zcg _ _ _)⟩,qf6.out.mono λh=>h,qf7.out.mono λh=>h,qf8.out.mono λh=>h,qf9.out.mono λh=>⟨h.1,h.2.1,hj0⟩,λhf9=>(λh=>⟨h.1,h.2.1,Blk.far (p:=⟨ad9,0,none⟩) (h.2.2) (Ne.symm (qn9_10.out rfl hf9)) (.slice B52 m52 d52)⟩) (qf10.out hf9),qn9_10,λ_=>rfl,λ_=>rfl,λ_=>rfl,λ_=>rfl,λ_=>rfl,λ_=>rfl,λ_=>rfl,λ_=>rfl,λ_=>rfl,Gd.no,Gd.no,Gd.no⟩
    ·obtain rfl:fl12=false:=zak hi
     obtain rfl:fl2=true:=rdp 2 5 hi hO
     obtain rfl:fl4=true:=rdp 4 7 hi hO
     obtain rfl:fl5=true:=rdp 5 8 hi hO
     obtain rfl:fl6=true:=rdp 6 9 hi hO
     obtain rfl:fl7=true:=rdp 7 10 hi hO
     obtain rfl:fl8=true:=rdp 8 1 hi hO
     obtain rfl:fl9=true:=rdp 9 12 hi hO
     obtain rfl:fl10=true:=rdp 10 0 hi hO
     obtain rfl:fl11=true:=rdp 11 2 hi hO
     have rd8:=qf10.out.get.1
     have rd46:=qf8.out.get
     obtain⟨_,hg,hk⟩:=qf10.out.get
     have hk:Blk w' ad10 37 #[.slice none 0 0]:=hk
     obtain⟨sc0,sf0⟩:=st1 hk
     have hj0:=sn1 hk (.slice B53 m53 d53)
     have hBn:=bl1 (.slice B53 m53 d53) hg hBi.out
     refine wog hO (λK' hK=>?_)
     go_simp
     exact hK.out _ _ ⟨hBn,true,true,true,true,true,true,true,true,true,true,B50,m50,d50,B51,m51,d51,B52,m52,d52,B53,m53,d53,ad9,ad10,by rfl,HKp,hBn,qf2.out.mono λh=>⟨h.1,zat (h.2) hk zcv (zcg _ _ _)⟩,qf4.out.mono λh=>⟨h.1,zat (h.2) hk zcv (zcg _ _ _)⟩,qf5.out.mono λh=>⟨h.1,zat (h.2.1) hk zcv (zcg _ _ _),zat (h.2.2) hk zcv (zcg _ _ _)⟩,qf6.out.mono λh=>h,qf7.out.mono λh=>h,qf8.out.mono λh=>h,λhf9=>(λh=>⟨h.1,h.2.1,Blk.far (p:=⟨ad10,0,none⟩) (h.2.2) (qn9_10.out hf9 rfl) (.slice B53 m53 d53)⟩) (qf9.out hf9),qf10.out.mono λh=>⟨h.1,h.2.1,hj0⟩,qn9_10,λ_=>rfl,λ_=>rfl,λ_=>rfl,λ_=>rfl,λ_=>rfl,λ_=>rfl,λ_=>rfl,λ_=>rfl,λ_=>rfl,λ_=>rfl,λ_=>rfl,λ_=>rfl⟩
  rintro a wm43 ⟨fl2,fl4,fl5,fl6,fl7,fl8,fl9,fl10,fl11,fl12,B50,m50,d50,B51,m51,d51,B52,m52,d52,B53,m53,d53,ad9,ad10,hl,HKp,hBi,qf2,qf4,qf5,qf6,qf7,qf8,qf9,qf10,qn9_10,qd4_2,qd5_2,qd5_4,qd6_5,qd7_6,qd8_6,qd11_5,qd11_7,qd11_9,qd12_8,qd12_10,qd12_11⟩
  have xx2:fl2=true:=gdl 2 hl
  subst xx2
  have xx4:fl4=true:=gdl 4 hl
  subst xx4
  have xx5:fl5=true:=gdl 5 hl
  subst xx5
  have xx6:fl6=true:=gdl 6 hl
  subst xx6
  have xx7:fl7=true:=gdl 7 hl
  subst xx7
  have xx8:fl8=true:=gdl 8 hl
  subst xx8
  have xx9:fl9=true:=gdl 9 hl
  subst xx9
  have xx10:fl10=true:=gdl 10 hl
  subst xx10
  have xx11:fl11=true:=gdl 11 hl
  subst xx11
  have xx12:fl12=true:=gdl 12 hl
  subst xx12
  obtain⟨rv2,hw50⟩:=qf2.out.get
  obtain⟨rv4,hw51⟩:=qf4.out.get
  obtain⟨rv5,hw52,hw53⟩:=qf5.out.get
  have rv6:=qf6.out.get
  have rv7:=qf7.out.get
  have rv8:=qf8.out.get
  obtain⟨rv9,hg9,hk9⟩:=qf9.out.get
  obtain⟨rv10,hg10,hk10⟩:=qf10.out.get
  obtain rfl:=HKp.eq [(41,.agg #[.slice B50 m50 d50]),(43,.agg #[.slice B51 m51 d51]),(44,.tuple #[.agg #[.slice B52 m52 d52],.agg #[.slice B53 m53 d53]]),(38,.tuple #[.agg #[.slice B52 m52 d52],.agg #[.slice B53 m53 d53]]),(45,.agg #[.slice B52 m52 d52]),(46,.agg #[.slice B53 m53 d53]),(7,.pointer (some ⟨ad9,0,none⟩)),(8,.pointer (some ⟨ad10,0,none⟩))] rfl (by
   intro p hp
   simp only [List.mem_cons,List.not_mem_nil,or_false] at hp
   rcases hp with rfl|rfl|rfl|rfl|rfl|rfl|rfl|rfl
   ·exact rv2
   ·exact rv4
   ·exact rv5
   ·exact rv6
   ·exact rv7
   ·exact rv8
   ·exact rv9
   ·exact rv10)
  have hBv:=hBi.out
  clear hl hBi HKp qf2 qf4 qf5 qf6 qf7 qf8 qf9 qf10 qn9_10 qd4_2 qd5_2 qd5_4 qd6_5 qd7_6 qd8_6 qd11_5 qd11_7 qd11_9 qd12_8 qd12_10 qd12_11 rv2 rv4 rv5 rv6 rv7 rv8 rv9 rv10
  have hk9:Blk wm43 ad9 37 #[.slice B52 m52 d52]:=hk9
  have hk10:Blk wm43 ad10 37 #[.slice B53 m53 d53]:=hk10
  rw [show due #[true,true,true,true,true,true,true,true,true,true,true,true,true]=0 from rfl]
  simp only [zdp,List.foldl,Act.put,List.setIfInBounds_toArray,List.set_cons_zero,List.set_cons_succ]
  refine wpAnyH_done (by kernel_rfl) ?_ _
  refine NoPanic.normal ?_
  have hB:=zab hB hBv
  have g1:=zac hBv g1
  have e1:=zac hBv e1
  have i1:=zac hBv i1
  have g2:=zac hBv g2
  have e2:=zac hBv e2
  have i2:=zac hBv i2
  have k3:=zaa hBv k3
  have g48:=zac hBv g48
  have g49:=zac hBv g49
  have HN46:=lh9 (HN46.out.below hBv)
  have HN47:=lh9 (HN47.out.below hBv)
  obtain⟨ad9_54,hga⟩:∃x,x=ad9:=⟨_,rfl⟩
  subst hga
  have g54:=hk9.c1
  obtain⟨ad10_55,hga⟩:∃x,x=ad10:=⟨_,rfl⟩
  subst hga
  have g55:=hk10.c1
  have HN52:=lh9 hw52
  have HN53:=lh9 hw53
  clear hBv hk9 hk10 hw50 hw51 hw52 hw53 GG
  clear C0 C1 C2
  go_wp2_with fail
  have C0:=lh9 (λw' (h:Below wm43.heap.size wm43 w')=>zay (HSR.out) (HIC.out.belowI (r.num) baa Baa maa daa w' (HT.out _ (zab hB h)) (HNaap.out _ (zab hB h)) (szi HZaap (HNaap.out _ hB))))
  have C1:=lh9 (λw' (h:Below wm43.heap.size wm43 w')=>zay (HSS.out) (HIC.out.belowI (s.num) bab Bab mab dab w' (HT.out _ (zab hB h)) (HNabp.out _ (zab hB h)) (szi HZabp (HNabp.out _ hB))))
  have HZ56:Hid (Sz (K+K) ((r.num.natAbs / Nat.gcd r.num.natAbs s.den)*(s.num.natAbs / Nat.gcd s.num.natAbs r.den))):=Sz.mul HZ46.out HZ52.out
  have C2:=lh9 (λw' (h:Below wm43.heap.size wm43 w')=>zhq (r.num.natAbs / Nat.gcd r.num.natAbs s.den) (s.num.natAbs / Nat.gcd s.num.natAbs r.den) B46 B52 m46 m52 d46 d52 w' (HN46.out.below h) (HN52.out.below h) (szw HZ46 HN46.out) (szw HZ52 HN52.out))
  have HZ57:Hid (Sz (K+K) ((r.den / Nat.gcd s.num.natAbs r.den)*(s.den / Nat.gcd r.num.natAbs s.den))):=Sz.mul HZ53.out HZ47.out
  have C3:=lh9 (λw' (h:Below wm43.heap.size wm43 w')=>zhq (r.den / Nat.gcd s.num.natAbs r.den) (s.den / Nat.gcd r.num.natAbs s.den) B53 B47 m53 m47 d53 d47 w' (HN53.out.below h) (HN47.out.below h) (szw HZ53 HN53.out) (szw HZ47 HN47.out))
  have C4:=lh9 (λw' (h:Below wm43.heap.size wm43 w') B56 m56 d56 (hw56:zad w' ((r.num.natAbs / Nat.gcd r.num.natAbs s.den)*(s.num.natAbs / Nat.gcd s.num.natAbs r.den)) B56 m56 d56) B57 m57 d57 (hw57:zad w' ((r.den / Nat.gcd s.num.natAbs r.den)*(s.den / Nat.gcd r.num.natAbs s.den)) B57 m57 d57)=>zdY (r*s) (!(sr==ss)) ((r.num.natAbs / Nat.gcd r.num.natAbs s.den)*(s.num.natAbs / Nat.gcd s.num.natAbs r.den)) ((r.den / Nat.gcd s.num.natAbs r.den)*(s.den / Nat.gcd r.num.natAbs s.den)) B56 m56 d56 B57 m57 d57 w' (HT.out _ (zab hB h)) hw56 hw57 (szw HZ56 hw56) (szw HZ57 hw57) (HMP.out.1) (HMP.out.2))
  have hBw:=(Below.refl wm43.heap.size wm43).drew
  refine rg (csc g1 (csc e1 (csc i1 (csc g2 (csc e2 (csc i2 (csc g48 (csc g54 (csc g55 (csc g49 csn)))))))))) (λhHeld=>?_)
  refine tk 0 ?_
  refine tk 1 ?_
  refine tk 3 ?_
  refine tk 4 ?_
  refine tk 7 ?_
  refine tk 8 ?_
  refine tk 10 ?_
  refine tk 11 ?_
  refine rc 2 (λK hK=>?_)
  go_simp
  go_at_call 107;(with_reducible refine(C0.out _ hBw).mono ?_);rintro e wa44 ⟨rfl,hb⟩;have hBw:=zab hBw hb;refine hK.out _ _ (Cs.below hHeld hb) (λhHeld=>?_);clear hK K hb
  try simp only [sb9]
  refine rc 5 (λK hK=>?_)
  go_simp
  go_at_call 107;(with_reducible refine(C1.out _ hBw).mono ?_);rintro e wa45 ⟨rfl,hb⟩;have hBw:=zab hBw hb;refine hK.out _ _ (Cs.below hHeld hb) (λhHeld=>?_);clear hK K hb
  try simp only [sb9]
  refine tk 6 ?_
  refine rc 9 (λK hK=>?_)
  go_simp
  go_at_call 108;(with_reducible refine(C2.out _ hBw).mono ?_);rintro e wa46 ⟨B56,m56,d56,rfl,hw56,hb,_⟩;have hBw:=zab hBw hb;refine hK.out _ _ (Cs.below hHeld hb) (λhHeld=>?_);clear hK K hb
  try simp only [sb9]
  refine rc 12 (λK hK=>?_)
  go_simp
  go_at_call 108;(with_reducible refine(C3.out _ hBw).mono ?_);rintro e wa47 ⟨B57,m57,d57,rfl,hw57,hb,_⟩;have hBw:=zab hBw hb;have hw56:=hw56.below hb;refine hK.out _ _ (Cs.below hHeld hb) (λhHeld=>?_);clear hK K hb
  try simp only [sb9]
  refine rc 13 (λK hK=>?_)
  go_simp
  go_at_call 106;(with_reducible refine(C4.out _ hBw _ _ _ hw56 _ _ _ hw57).mono ?_);rintro e wa48 ⟨b58,B58,m58,d58,E58,u58,v58,rfl,hw58,hb⟩;have hBw:=zab hBw hb;have hw56:=hw56.below hb;have hw57:=hw57.below hb;refine hK.out _ _ (Cs.below hHeld hb) (λhHeld=>?_);clear hK K hb
  try simp only [sb9]
  obtain⟨sc0,sf0,sc1,sf1,sc2,sf2⟩:=st3 (zaa hBw k3) (.bool b58) (.slice B58 m58 d58)
  refine rc 14 (λK hK=>?_)
  go_simp
  refine hK.out _ _ (cs3 (.bool b58) (.slice B58 m58 d58) (.slice E58 u58 v58) hHeld) (λhHeld=>?_);clear hK K
  try simp only [sb9]
  refine rdn ?_
  have hB:=zab hB hBw
  have g1:=zac hBw g1
  have e1:=zac hBw e1
  have i1:=zac hBw i1
  have g2:=zac hBw g2
  have e2:=zac hBw e2
  have i2:=zac hBw i2
  have k3:=zaa hBw k3
  have g48:=zac hBw g48
  have g49:=zac hBw g49
  have g54:=zac hBw g54
  have g55:=zac hBw g55
  have HN58:=lh9 hw58
  clear hBw hHeld hw56 hw57 hw58 C0 C1 C2 C3 C4
  obtain⟨r0,r1,r2⟩:=(sn3 k3 (.bool b58) (.slice B58 m58 d58) (.slice E58 u58 v58)).c3
  have HG:=lh9 (gq3 (HN58.out) k3 hB (by omega))
  go_wp2
  refine bodyPost_ret (v:=.agg #[.bool b58,.slice B58 m58 d58,.slice E58 u58 v58]) (by simp [results,Tryz.results38,go_sem,r0,r1,r2]) rfl ?_
  exact HG.out
theorem zpH (r s:Rat)(baa:Bool)(Baa:oA9)(maa daa:Nat)(Eaa:oA9)(uaa vaa:Nat)(bab:Bool)(Bab:oA9)(mab dab:Nat)(Eab:oA9)(uab vab:Nat)(w:World)(hT:zai w)(haa:zah w r baa Baa maa daa Eaa uaa vaa)(hab:zah w s bab Bab mab dab Eab uab vab)(qaa:zaT maa uaa)(qab:zaT mab uab):
  Calls Tryz.prog 38 #[.agg #[.bool baa,.slice Baa maa daa,.slice Eaa uaa vaa],.agg #[.bool bab,.slice Bab mab dab,.slice Eab uab vab]] w (zaH w (r*s)):=by
 by_cases h1:r=0
 ·exact zqP r s baa Baa maa daa Eaa uaa vaa bab Bab mab dab Eab uab vab w hT haa hab qaa qab h1
 ·by_cases h2:s=0
  ·exact zqQ r s baa Baa maa daa Eaa uaa vaa bab Bab mab dab Eab uab vab w hT haa hab qaa qab h1 h2
  ·by_cases h3:r.den=1
   ·by_cases h4:s.den=1
    ·exact zqR r s baa Baa maa daa Eaa uaa vaa bab Bab mab dab Eab uab vab w hT haa hab qaa qab h1 h2 h3 h4
    ·exact zlb r s baa Baa maa daa Eaa uaa vaa bab Bab mab dab Eab uab vab w hT haa hab qaa qab h1 h2 (.inr ⟨h3,h4⟩)
   ·exact zlb r s baa Baa maa daa Eaa uaa vaa bab Bab mab dab Eab uab vab w hT haa hab qaa qab h1 h2 (.inl h3)
theorem zhv (r:Rat)(s:Rat)(baa:Bool)(Baa:oA9)(maa daa:Nat)(Eaa:oA9)(uaa vaa:Nat)(bab:Bool)(Bab:oA9)(mab dab:Nat)(Eab:oA9)(uab vab:Nat)(w:World)(hT:zai w)(haa:zah w r baa Baa maa daa Eaa uaa vaa)(hab:zah w s bab Bab mab dab Eab uab vab)(qaa:zaT maa uaa)(qab:zaT mab uab)(h0:s≠0):
  Calls Tryz.prog 53 #[.agg #[.bool baa,.slice Baa maa daa,.slice Eaa uaa vaa],.agg #[.bool bab,.slice Bab mab dab,.slice Eab uab vab]] w (zbD w (r / s) true):=by
 have HT:=lh9 (λw' (hb:Below w.heap.size w w')=>hT.on hb)
 have HTB:=HT
 obtain⟨K,hKe⟩:∃K,67108864=K:=⟨_,rfl⟩
 have hKK:K<=67108864:=by omega
 have hK0:0<K:=by omega
 have H0:=lh9 h0
 have HNaa:=lh9 (λw' (b:Below w.heap.size w w')=>haa.below b)
 obtain⟨xaa,hxaa,hxwaa⟩:=haa.2
 have HZaa:Hid (SzQ K r):=zaM haa qaa hKe
 have HZaap:Hid (Sz K r.num.natAbs):=HZaa.out.num
 have HZaaq:Hid (Sz K xaa):=zar HZaa.out.den hxaa
 clear haa qaa hxaa hxwaa
 have HNab:=lh9 (λw' (b:Below w.heap.size w w')=>hab.below b)
 obtain⟨xab,hxab,hxwab⟩:=hab.2
 have HZab:Hid (SzQ K s):=zaM hab qab hKe
 have HZabp:Hid (Sz K s.num.natAbs):=HZab.out.num
 have HZabq:Hid (Sz K xab):=zar HZab.out.den hxab
 clear hab qab hxab hxwab
 clear hT hKe h0
 go_enter Tryz.func53,Tryz.ntmps53
 have hB:=Below.refl w.heap.size w
 have HZ4:Hid (SzQ (K) (s⁻¹)):=SzQ.inv HZab.out
 obtain⟨bx1,bx2,bx3,bx4,bz⟩:=zbL w 41 41 41 #[.bool baa,.slice Baa maa daa,.slice Eaa uaa vaa] #[.bool bab,.slice Bab mab dab,.slice Eab uab vab] #[.bool false,.slice none 0 0,.slice none 0 0]
 have hB:=zab hB bx1
 obtain⟨g1,e1,i1⟩:=bx2.c3
 obtain⟨g2,e2,i2⟩:=bx3.c3
 have k3:=bx4
 clear bx1 bx2 bx3 bx4 bz
 go_wp2_with fail
 generalize ((w.alloc (.cells #[.bool baa,.slice Baa maa daa,.slice Eaa uaa vaa] 41)).alloc (.cells #[.bool bab,.slice Bab mab dab,.slice Eab uab vab] 41)).alloc (.cells #[.bool false,.slice none 0 0,.slice none 0 0] 41)=W1 at*
 (with_reducible refine(ziO (s) bab Bab mab dab Eab uab vab _ (HT.out _ hB) (HNab.out _ hB) (szq HZab (HNab.out _ hB)) H0.out).mono ?_)
 rintro e wc2 ⟨b4,B4,m4,d4,E4,u4,v4,rfl,hw4,hb⟩
 have hB:=zab hB hb
 have g1:=zac hb g1
 have e1:=zac hb e1
 have i1:=zac hb i1
 have g2:=zac hb g2
 have e2:=zac hb e2
 have i2:=zac hb i2
 have k3:=zaa hb k3
 have HN4:=lh9 hw4
 clear hb hw4
 have lt1_2:w.heap.size<wc2.heap.size:=World.block_lt_of_cell? wc2 ⟨w.heap.size,0,none⟩ g1
 have lt2_2:w.heap.size+1<wc2.heap.size:=World.block_lt_of_cell? wc2 ⟨w.heap.size+1,0,none⟩ g2
 have lt3_2:w.heap.size+1+1<wc2.heap.size:=k3.lt
 have hq2:=hB.size
 obtain⟨bx1,bx2,bz⟩:=zav wc2 41 #[.bool b4,.slice B4 m4 d4,.slice E4 u4 v4]
 have hB:=zab hB bx1
 have g1:=zac bx1 g1
 have e1:=zac bx1 e1
 have i1:=zac bx1 i1
 have g2:=zac bx1 g2
 have e2:=zac bx1 e2
 have i2:=zac bx1 i2
 have k3:=zaa bx1 k3
 have HN4:=lh9 (HN4.out.below bx1)
 obtain⟨g5,e5,i5⟩:=bx2.c3
 clear bx1 bx2 bz
 go_wp2_with fail
 generalize wc2.alloc (.cells #[.bool b4,.slice B4 m4 d4,.slice E4 u4 v4] 41)=W3 at*
 generalize wc2.heap.size=q3 at*
 have HZ6:Hid (SzQ (K+K) (r*s⁻¹)):=SzQ.mul HZaa.out HZ4.out
 (with_reducible refine(zpH (r) (s⁻¹) baa Baa maa daa Eaa uaa vaa b4 B4 m4 d4 E4 u4 v4 _ (HT.out _ hB) (HNaa.out _ hB) HN4.out (szq HZaa (HNaa.out _ hB)) (szq HZ4 HN4.out)).mono ?_)
 rintro e wc4 ⟨b6,B6,m6,d6,E6,u6,v6,rfl,hw6,hb⟩
 have hB:=zab hB hb
 have g1:=zac hb g1
 have e1:=zac hb e1
 have i1:=zac hb i1
 have g2:=zac hb g2
 have e2:=zac hb e2
 have i2:=zac hb i2
 have k3:=zaa hb k3
 have g5:=zac hb g5
 have e5:=zac hb e5
 have i5:=zac hb i5
 have HN6:=lh9 hw6
 clear hb hw6
 obtain⟨sc0,sf0,sc1,sf1,sc2,sf2⟩:=st3 k3 (.bool b6) (.slice B6 m6 d6)
 obtain⟨r0,r1,r2⟩:=(sn3 k3 (.bool b6) (.slice B6 m6 d6) (.slice E6 u6 v6)).c3
 have HG:=lh9 (gb3 true (zah.to (Rat.div_def r s).symm HN6.out) k3 hB (by omega))
 go_wp2
 refine bodyPost_ret (v:=.tuple #[.agg #[.bool b6,.slice B6 m6 d6,.slice E6 u6 v6],.bool true]) (by simp [results,Tryz.results53,go_sem,r0,r1,r2]) rfl ?_
 exact HG.out
