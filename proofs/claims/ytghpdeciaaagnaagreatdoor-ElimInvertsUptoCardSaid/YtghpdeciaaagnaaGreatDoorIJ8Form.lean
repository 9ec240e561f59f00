/- What this claim leans on. -/
import Derived.Test.YtghpdeciaaagnaaGreatDoorIVPair
namespace Go.Proofs.YtghpdeciaaagnaaGreatDoor
open Go Go.RowKit
set_option maxHeartbeats 16000000
set_option maxRecDepth 100000
set_option linter.unusedVariables false
set_option linter.unusedSimpArgs false
theorem zlZ (r:Rat)(s:Bool)(x:Nat)(y:Nat)(Baa:oA9)(maa daa:Nat)(Bab:oA9)(mab dab:Nat)(w:World)(hT:zai w)(haa:zad w x Baa maa daa)(hab:zad w y Bab mab dab)(qaa:maa<=268435456)(qab:mab<=268435456)(hn:r.num=zba s x)(hd:r.den=y)(hy:y=1):
  Calls Tryz.prog 106 #[.bool s,.agg #[.slice Baa maa daa],.agg #[.slice Bab mab dab]] w (zaH w r):=by
 have HIC:=lh9 (zbV (T:=zai))
 have HT:=lh9 (λw' (hb:Below w.heap.size w w')=>hT.on hb)
 have HTB:=HT
 obtain⟨K,hKe⟩:∃K,268435456=K:=⟨_,rfl⟩
 have hKK:K<=268435456:=by omega
 have hK0:0<K:=by omega
 have HRN:=lh9 hn
 have HRD:Hid (r.den=1):=hd.trans hy
 have HM1:Hid (mab<=1):=len_one hab hy
 have HW1:Hid (((wd y 0:Nat):Int)=1):=by show _=_;rw [hy];rfl
 have HNaa:=lh9 (λw' (b:Below w.heap.size w w')=>haa.below b)
 have HZaa:Hid (Sz K x):=Sz.of_words haa (by omega)
 clear haa qaa
 have HNab:=lh9 (λw' (b:Below w.heap.size w w')=>hab.below b)
 have HZab:Hid (Sz K y):=Sz.of_words hab (by omega)
 clear hab qab
 clear hT hKe hn hd hy
 go_enter Tryz.func106,Tryz.ntmps106
 have hB:=Below.refl w.heap.size w
 have kk2:=(zbL w 37 37 41 #[.slice Baa maa daa] #[.slice Bab mab dab] #[.bool false,.slice none 0 0,.slice none 0 0]).2.2.1
 obtain⟨bx1,bx2,bx3,bx4,bz⟩:=zbL w 37 37 41 #[.slice Baa maa daa] #[.slice Bab mab dab] #[.bool false,.slice none 0 0,.slice none 0 0]
 have hB:=zab hB bx1
 have g1:=bx2.c1
 have g2:=bx3.c1
 have k3:=bx4
 clear bx1 bx2 bx3 bx4 bz
 go_wp2_with fail
 generalize ((w.alloc (.cells #[.slice Baa maa daa] 37)).alloc (.cells #[.slice Bab mab dab] 37)).alloc (.cells #[.bool false,.slice none 0 0,.slice none 0 0] 41)=W1 at*
 have k2:=kk2
 clear kk2
 (with_reducible refine(zpS (HW1.out) (zdf (y) Bab mab dab _ (HNab.out _ hB) HM1.out)).mono ?_)
 rintro e wc2 ⟨rfl,hb⟩
 have hB:=zab hB hb
 have g1:=zac hb g1
 have g2:=zac hb g2
 have k3:=zaa hb k3
 have k2:=zaa hb k2
 clear hb 
 have HN4:=lh9 (zfk wc2)
 obtain⟨sc0,sf0⟩:=st1 k2
 have kz0:=sn1 k2 (.slice none 0 0)
 have g1:=zag (q:=⟨w.heap.size+1,0,none⟩) (.slice none 0 0) (by show w.heap.size≠w.heap.size+1;omega) (g1)
 have k3:=Blk.far (p:=⟨w.heap.size+1,0,none⟩) (k3) (by show w.heap.size+1+1≠w.heap.size+1;omega) (.slice none 0 0)
 have HN4:=lh9 (zat HN4.out k2 (NoU.s1 _ _ _) (zcg _ _ (.slice none 0 0)))
 have hB:=bl1 (.slice none 0 0) (by show w.heap.size<=w.heap.size+1;omega) hB
 have g2:(wc2.setCell ⟨w.heap.size+1,0,none⟩ (.slice none 0 0)).cell? ⟨w.heap.size+1,0,none⟩=some (.slice none 0 0):=kz0.cell 0
 have k2:=kz0
 go_wp2_with fail
 clear sc0 sf0 kz0
 generalize wc2.setCell ⟨w.heap.size+1,0,none⟩ (.slice none 0 0)=W3 at*
 go_wp2_with fail
 have HZ5:Hid (Sz (K) (zba s x).natAbs):=(by rw [zeb];exact HZaa.out)
 have C0:=lh9 (λw' (h:Below W3.heap.size W3 w')=>HIC.out.new s (x) Baa maa daa w' (HT.out _ (zab hB h)) (HNaa.out _ (zab hB h)) (szw HZaa (HNaa.out _ hB)))
 have hBw:=(Below.refl W3.heap.size W3).drew
 refine rg (csc g1 (csc g2 csn)) (λhHeld=>?_)
 refine tk 0 ?_
 refine tk 1 ?_
 refine tk 3 ?_
 refine rc 2 (λK hK=>?_)
 go_simp
 go_at_call 163;(with_reducible refine(C0.out _ hBw).mono ?_);rintro e wa4 ⟨b5,B5,m5,d5,rfl,hw5,hb⟩;have hBw:=zab hBw hb;refine hK.out _ _ (Cs.below hHeld hb) (λhHeld=>?_);clear hK K hb
 try simp only [sb9]
 refine tk 4 ?_
 obtain⟨sc0,sf0,sc1,sf1,sc2,sf2⟩:=st3 (zaa hBw k3) (.bool b5) (.slice B5 m5 d5)
 refine rc 5 (λK hK=>?_)
 go_simp
 refine hK.out _ _ (cs3 (.bool b5) (.slice B5 m5 d5) (.slice none 0 0) hHeld) (λhHeld=>?_);clear hK K
 try simp only [sb9]
 refine rdn ?_
 have hB:=zab hB hBw
 have g1:=zac hBw g1
 have k3:=zaa hBw k3
 have k2:=zaa hBw k2
 have HN4:=lh9 (HN4.out.below hBw)
 have g2:=zac hBw g2
 have HN5:=lh9 hw5
 clear hBw hHeld hw5 C0
 obtain⟨r0,r1,r2⟩:=(sn3 k3 (.bool b5) (.slice B5 m5 d5) (.slice none 0 0)).c3
 have HG:=lh9 (gq3 (zqT HRN.out HRD.out HN5.out HN4.out) k3 hB (by omega))
 go_wp2
 refine bodyPost_ret (v:=.agg #[.bool b5,.slice B5 m5 d5,.slice none 0 0]) (by simp [results,Tryz.results106,go_sem,r0,r1,r2]) rfl ?_
 exact HG.out
theorem zma (r:Rat)(s:Bool)(x:Nat)(y:Nat)(Baa:oA9)(maa daa:Nat)(Bab:oA9)(mab dab:Nat)(w:World)(hT:zai w)(haa:zad w x Baa maa daa)(hab:zad w y Bab mab dab)(qaa:maa<=268435456)(qab:mab<=268435456)(hn:r.num=zba s x)(hd:r.den=y)(hy:y≠1)(hm:mab<=1):
  Calls Tryz.prog 106 #[.bool s,.agg #[.slice Baa maa daa],.agg #[.slice Bab mab dab]] w (zaH w r):=by
 have HIC:=lh9 (zbV (T:=zai))
 have HT:=lh9 (λw' (hb:Below w.heap.size w w')=>hT.on hb)
 have HTB:=HT
 obtain⟨K,hKe⟩:∃K,268435456=K:=⟨_,rfl⟩
 have hKK:K<=268435456:=by omega
 have hK0:0<K:=by omega
 have HRN:=lh9 hn
 have HRD:=lh9 hd
 have HY:=lh9 hy
 have HM1:=lh9 hm
 have HW1:Hid (((wd y 0:Nat):Int)=(y:Int)):=by show _=_;rw [wd0 (zqy hab hm)]
 have kb1:((y:Int)==1)=false:=by rw [beq_eq_false_iff_ne];omega
 have HNaa:=lh9 (λw' (b:Below w.heap.size w w')=>haa.below b)
 have HZaa:Hid (Sz K x):=Sz.of_words haa (by omega)
 clear haa qaa
 have HNab:=lh9 (λw' (b:Below w.heap.size w w')=>hab.below b)
 have HZab:Hid (Sz K y):=Sz.of_words hab (by omega)
 clear hab qab
 clear hT hKe hn hd hy hm
 go_enter Tryz.func106,Tryz.ntmps106
 have hB:=Below.refl w.heap.size w
 have kk2:=(zbL w 37 37 41 #[.slice Baa maa daa] #[.slice Bab mab dab] #[.bool false,.slice none 0 0,.slice none 0 0]).2.2.1
 obtain⟨bx1,bx2,bx3,bx4,bz⟩:=zbL w 37 37 41 #[.slice Baa maa daa] #[.slice Bab mab dab] #[.bool false,.slice none 0 0,.slice none 0 0]
 have hB:=zab hB bx1
 have g1:=bx2.c1
 have g2:=bx3.c1
 have k3:=bx4
 clear bx1 bx2 bx3 bx4 bz
 go_wp2_with fail
 generalize ((w.alloc (.cells #[.slice Baa maa daa] 37)).alloc (.cells #[.slice Bab mab dab] 37)).alloc (.cells #[.bool false,.slice none 0 0,.slice none 0 0] 41)=W1 at*
 have k2:=kk2
 clear kk2
 (with_reducible refine(zpS (HW1.out) (zdf (y) Bab mab dab _ (HNab.out _ hB) HM1.out)).mono ?_)
 rintro e wc2 ⟨rfl,hb⟩
 have hB:=zab hB hb
 have g1:=zac hb g1
 have g2:=zac hb g2
 have k3:=zaa hb k3
 have k2:=zaa hb k2
 clear hb 
 go_wp2_with fail
 have HZ4:Hid (Sz (K) (zba s x).natAbs):=(by rw [zeb];exact HZaa.out)
 have C0:=lh9 (λw' (h:Below wc2.heap.size wc2 w')=>HIC.out.new s (x) Baa maa daa w' (HT.out _ (zab hB h)) (HNaa.out _ (zab hB h)) (szw HZaa (HNaa.out _ hB)))
 have hBw:=(Below.refl wc2.heap.size wc2).drew
 refine rg (csc g1 (csc g2 csn)) (λhHeld=>?_)
 refine tk 0 ?_
 refine tk 1 ?_
 refine tk 3 ?_
 refine rc 2 (λK hK=>?_)
 go_simp
 go_at_call 163;(with_reducible refine(C0.out _ hBw).mono ?_);rintro e wa3 ⟨b4,B4,m4,d4,rfl,hw4,hb⟩;have hBw:=zab hBw hb;refine hK.out _ _ (Cs.below hHeld hb) (λhHeld=>?_);clear hK K hb
 try simp only [sb9]
 refine tk 4 ?_
 obtain⟨sc0,sf0,sc1,sf1,sc2,sf2⟩:=st3 (zaa hBw k3) (.bool b4) (.slice B4 m4 d4)
 refine rc 5 (λK hK=>?_)
 go_simp
 refine hK.out _ _ (cs3 (.bool b4) (.slice B4 m4 d4) (.slice Bab mab dab) hHeld) (λhHeld=>?_);clear hK K
 try simp only [sb9]
 refine rdn ?_
 have hB:=zab hB hBw
 have g1:=zac hBw g1
 have g2:=zac hBw g2
 have k3:=zaa hBw k3
 have k2:=zaa hBw k2
 have HN4:=lh9 hw4
 clear hBw hHeld hw4 C0
 obtain⟨r0,r1,r2⟩:=(sn3 k3 (.bool b4) (.slice B4 m4 d4) (.slice Bab mab dab)).c3
 have HG:=lh9 (gq3 (zjS HRN.out HRD.out HY.out HN4.out (HNab.out _ hB)) k3 hB (by omega))
 go_wp2
 refine bodyPost_ret (v:=.agg #[.bool b4,.slice B4 m4 d4,.slice Bab mab dab]) (by simp [results,Tryz.results106,go_sem,r0,r1,r2]) rfl ?_
 exact HG.out
theorem zmb (r:Rat)(s:Bool)(x:Nat)(y:Nat)(Baa:oA9)(maa daa:Nat)(Bab:oA9)(mab dab:Nat)(w:World)(hT:zai w)(haa:zad w x Baa maa daa)(hab:zad w y Bab mab dab)(qaa:maa<=268435456)(qab:mab<=268435456)(hn:r.num=zba s x)(hd:r.den=y)(hy:y≠1)(hm:1<mab):
  Calls Tryz.prog 106 #[.bool s,.agg #[.slice Baa maa daa],.agg #[.slice Bab mab dab]] w (zaH w r):=by
 have HIC:=lh9 (zbV (T:=zai))
 have HT:=lh9 (λw' (hb:Below w.heap.size w w')=>hT.on hb)
 have HTB:=HT
 obtain⟨K,hKe⟩:∃K,268435456=K:=⟨_,rfl⟩
 have hKK:K<=268435456:=by omega
 have hK0:0<K:=by omega
 have HRN:=lh9 hn
 have HRD:=lh9 hd
 have HY:=lh9 hy
 have HM1:=lh9 hm
 have HNaa:=lh9 (λw' (b:Below w.heap.size w w')=>haa.below b)
 have HZaa:Hid (Sz K x):=Sz.of_words haa (by omega)
 clear haa qaa
 have HNab:=lh9 (λw' (b:Below w.heap.size w w')=>hab.below b)
 have HZab:Hid (Sz K y):=Sz.of_words hab (by omega)
 clear hab qab
 clear hT hKe hn hd hy hm
 go_enter Tryz.func106,Tryz.ntmps106
 have hB:=Below.refl w.heap.size w
 have kk2:=(zbL w 37 37 41 #[.slice Baa maa daa] #[.slice Bab mab dab] #[.bool false,.slice none 0 0,.slice none 0 0]).2.2.1
 obtain⟨bx1,bx2,bx3,bx4,bz⟩:=zbL w 37 37 41 #[.slice Baa maa daa] #[.slice Bab mab dab] #[.bool false,.slice none 0 0,.slice none 0 0]
 have hB:=zab hB bx1
 have g1:=bx2.c1
 have g2:=bx3.c1
 have k3:=bx4
 clear bx1 bx2 bx3 bx4 bz
 go_wp2_with fail
 generalize ((w.alloc (.cells #[.slice Baa maa daa] 37)).alloc (.cells #[.slice Bab mab dab] 37)).alloc (.cells #[.bool false,.slice none 0 0,.slice none 0 0] 41)=W1 at*
 have k2:=kk2
 clear kk2
 (with_reducible refine(zcN Bab mab dab _ HM1.out).mono ?_)
 rintro e wc2 ⟨rfl,hb⟩
 have hB:=zab hB hb
 have g1:=zac hb g1
 have g2:=zac hb g2
 have k3:=zaa hb k3
 have k2:=zaa hb k2
 clear hb 
 go_wp2_with fail
 have HZ4:Hid (Sz (K) (zba s x).natAbs):=(by rw [zeb];exact HZaa.out)
 have C0:=lh9 (λw' (h:Below wc2.heap.size wc2 w')=>HIC.out.new s (x) Baa maa daa w' (HT.out _ (zab hB h)) (HNaa.out _ (zab hB h)) (szw HZaa (HNaa.out _ hB)))
 have hBw:=(Below.refl wc2.heap.size wc2).drew
 refine rg (csc g1 (csc g2 csn)) (λhHeld=>?_)
 refine tk 0 ?_
 refine tk 1 ?_
 refine tk 3 ?_
 refine rc 2 (λK hK=>?_)
 go_simp
 go_at_call 163;(with_reducible refine(C0.out _ hBw).mono ?_);rintro e wa3 ⟨b4,B4,m4,d4,rfl,hw4,hb⟩;have hBw:=zab hBw hb;refine hK.out _ _ (Cs.below hHeld hb) (λhHeld=>?_);clear hK K hb
 try simp only [sb9]
 refine tk 4 ?_
 obtain⟨sc0,sf0,sc1,sf1,sc2,sf2⟩:=st3 (zaa hBw k3) (.bool b4) (.slice B4 m4 d4)
 refine rc 5 (λK hK=>?_)
 go_simp
 refine hK.out _ _ (cs3 (.bool b4) (.slice B4 m4 d4) (.slice Bab mab dab) hHeld) (λhHeld=>?_);clear hK K
 try simp only [sb9]
 refine rdn ?_
 have hB:=zab hB hBw
 have g1:=zac hBw g1
 have g2:=zac hBw g2
 have k3:=zaa hBw k3
 have k2:=zaa hBw k2
 have HN4:=lh9 hw4
 clear hBw hHeld hw4 C0
 obtain⟨r0,r1,r2⟩:=(sn3 k3 (.bool b4) (.slice B4 m4 d4) (.slice Bab mab dab)).c3
 have HG:=lh9 (gq3 (zjS HRN.out HRD.out HY.out HN4.out (HNab.out _ hB)) k3 hB (by omega))
 go_wp2
 refine bodyPost_ret (v:=.agg #[.bool b4,.slice B4 m4 d4,.slice Bab mab dab]) (by simp [results,Tryz.results106,go_sem,r0,r1,r2]) rfl ?_
 exact HG.out
theorem zdY (r:Rat)(s:Bool)(x:Nat)(y:Nat)(Baa:oA9)(maa daa:Nat)(Bab:oA9)(mab dab:Nat)(w:World)(hT:zai w)(haa:zad w x Baa maa daa)(hab:zad w y Bab mab dab)(qaa:maa<=268435456)(qab:mab<=268435456)(hn:r.num=zba s x)(hd:r.den=y):
  Calls Tryz.prog 106 #[.bool s,.agg #[.slice Baa maa daa],.agg #[.slice Bab mab dab]] w (zaH w r):=by
 by_cases hy:y=1
 ·exact zlZ r s x y Baa maa daa Bab mab dab w hT haa hab qaa qab hn hd hy
 ·by_cases hm:mab<=1
  ·exact zma r s x y Baa maa daa Bab mab dab w hT haa hab qaa qab hn hd hy hm
  ·exact zmb r s x y Baa maa daa Bab mab dab w hT haa hab qaa qab hn hd hy (by omega)
def NoIV (u:Value):Prop:=∀k z,u≠.int k z
def zbY (w:World)(v:Value):Prop:=∀g,v.ownBlock=some g->∃(cur:Array Value) (e:TypeId),w.heap[g]?=some (.cells cur e (0,0))/\∀u ∈ cur.toList,NoIV u
theorem zbY.nil (w:World)(c:Nat):zbY w (.slice none 0 c):=λg h=>by simp [Value.ownBlock] at h
theorem zbY.block {w w':World}{v:Value}(h:zbY w v)(hg:∀g,v.ownBlock=some g->w'.heap[g]?=w.heap[g]?):zbY w' v:=λg e=>by
 obtain⟨cur,t,h1,h2⟩:=h g e
 exact⟨cur,t,(hg g e).trans h1,h2⟩
theorem zbY.below {w w':World}{v:Value}(h:zbY w v)(hb:Below w.heap.size w w'):zbY w' v:=λg e=>by
 obtain⟨cur,t,h1,h2⟩:=h g e
 exact⟨cur,t,(hb.block g (Array.getElem?_eq_some_iff.1 h1).1).trans h1,h2⟩
theorem zkp {z:Array Value}{k:Nat}{u:Value}(hz:0<z.size)(hu:u ∈(Builtin.zeroCells z k).toList):u ∈ z.toList:=by
 unfold Builtin.zeroCells at hu
 rw [Array.mem_toList_iff,Array.mem_map] at hu
 obtain⟨i,_,rfl⟩:=hu
 have hlt:i%z.size<z.size:=Nat.mod_lt _ hz
 rw [getElem!_pos z (i%z.size) hlt,Array.mem_toList_iff]
 exact Array.getElem_mem hlt
section
variable {P:Program}(w:World)
theorem zjW (base:Nat)(t ty e:TypeId)(i:TypeInfo)(z:Value)(size bytes:Nat)(ht:P.underlying t=some (.slice e))(hi:P.info? e=some i)(hz:i.zero=some z)
  (hsize:i.size=size) (hby:i.bytes=bytes) (hzs:z.cells.size=size) (hsz:0<size)
  (v:Value) (n:Nat) (xs:List Value) (hown:w.ownsRow base e size v n xs)
  (a:Addr) (m c:Nat) (news:List Value) (hl:news.length=m*size) (hnews:∀j u,news[j]?=some u->w.cell? (a.add j)=some u) (h1:∀u ∈ news,u.oneCell'=true)
  (h63:n+m<=maxLen) (hbytes:(n+m)*bytes<=140737488355328) (hbase:base<=w.heap.size)
  (hv:zbY w v) (hzn:∀u ∈ z.cells.toList,NoIV u) (hnn:∀u ∈ news,NoIV u):
  ∃ v' w',(Builtin.append_ #[t,t] ty #[v,.slice (some a) m c]).run P w = .ok v' w' ∧ w'.ownsRow base e size v' (n + m) (xs ++ news) ∧ w.grownBy w' v.ownBlock ∧
   (v'.ownBlock=v.ownBlock\/v'.ownBlock=some w.heap.size)/\zbY w' v':=by
 subst hsize
 subst hby
 have hsmall:n+m<=9223372036854775807:=by simp only [maxLen] at h63;omega
 have hlen:(xs++news).length=(n+m)*i.size:=by rw [List.length_append,hown.1,hl,Nat.add_mul]
 have grown : ∀ (old : Nat),old < n + m → (∀ u ∈ xs,NoIV u) → ∀ (row : Option Nat),
   (w.drew.alloc (.cells (xs.toArray ++ news.toArray ++ Builtin.zeroCells z.cells (grownCap w (n + m) old e - (n + m))) e)).ownsRow base e i.size
     (.slice (some ⟨w.heap.size,0,none⟩) (n+m) (grownCap w (n+m) old e)) (n+m) (xs++news)/\
   w.grownBy (w.drew.alloc (.cells (xs.toArray++news.toArray++Builtin.zeroCells z.cells (grownCap w (n+m) old e - (n+m))) e)) row/\
   zbY (w.drew.alloc (.cells (xs.toArray++news.toArray++Builtin.zeroCells z.cells (grownCap w (n+m) old e - (n+m))) e)) (.slice (some ⟨w.heap.size,0,none⟩) (n+m) (grownCap w (n+m) old e)):=by
  intro old ho hxs row
  have hge:=grownCap_ge w (n+m) old e
  have hcm:grownCap w (n+m) old e<=maxLen:=grownCap_le_maxLen w (n+m) old e h63
  refine⟨⟨hlen,.inr ⟨w.heap.size,_,_,rfl,hbase,heap_alloc_new w.drew _,hge,hcm,?_,?_⟩⟩,⟨rfl,rfl,rfl,by simp,λk hk _=>heap_alloc_old w.drew _ hk⟩,?_⟩
  ·simp only [Array.size_append,List.size_toArray,size_zeroCells,hzs,hown.1,hl,<-Nat.add_mul]
   congr 1
   omega
  ·simp only [Array.toList_append,List.append_assoc]
   rw [<-List.append_assoc,<-hlen]
   exact List.take_left
  ·intro g hg
   simp [Value.ownBlock] at hg
   subst hg
   refine⟨_,_,heap_alloc_new w.drew _,λu hu=>?_⟩
   simp only [Array.toList_append,List.mem_append] at hu
   rcases hu with(hu|hu)|hu
   ·exact hxs u hu
   ·exact hnn u hu
   ·exact hzn u (zkp (by omega) hu)
 rcases hown.2 with⟨rfl,rfl⟩|⟨g,cap,cur,rfl,hbg,hg,hnc,hcm,hcs,htake⟩
 ·have hx:xs=[]:=List.eq_nil_of_length_eq_zero (by simpa using hown.1)
  subst hx
  by_cases hm:m=0
  ·subst hm
   have hn:news=[]:=List.eq_nil_of_length_eq_zero (by simpa using hl)
   subst hn
   refine⟨.slice none 0 0,w,?_,World.ownsRow_nil w base e i.size,⟨rfl,rfl,rfl,Nat.le_refl _,λ_ _ _=>rfl⟩,Or.inl rfl,zbY.nil _ _⟩
   simp [Builtin.append_,run_underlying ht,sizeOf,typeInfo,hi,Builtin.lenOf,Builtin.firstCells,loadCells,loadCellsFrom]
  ·have hr:=run_append_nil (P:=P) w t ty e i z ht hi hz a m c news hl hnews (by omega) (by omega) (by have hb:=hbytes;simp only [Nat.zero_add] at hb;omega)
   have hgr:=grown 0 (by omega) (λu hu=>by cases hu) (Value.ownBlock (.slice none 0 0))
   simp only [Nat.zero_add,List.nil_append,Array.empty_append] at hgr⊢
   exact⟨_,_,hr,hgr.1,hgr.2.1,Or.inr rfl,hgr.2.2⟩
 ·obtain⟨cur2,e2,hg2,hcn⟩:=hv g rfl
  have hcur:cur2=cur:=by
   rw [hg] at hg2
   injection hg2 with hg2
   injection hg2 with hg2
   exact hg2.symm
  subst hcur
  by_cases hroom:n+m<=cap
  ·have hfit:n*i.size+news.length<=cur2.size:=by rw [hl,hcs,<-Nat.add_mul];exact Nat.mul_le_mul_right _ hroom
   have hr:=run_append_room (P:=P) w t ty e i ht hi g n cap cur2 hg a m c news hl hnews h1 hroom hfit
   refine⟨_,_,hr,⟨hlen,.inr ⟨g,cap,_,rfl,hbg,setRow_heap w g cur2 _ e _ hg,hroom,hcm,?_,?_⟩⟩,⟨rfl,rfl,rfl,by simp,λk _ hk=>setRow_other w g k _ (λe=>hk (by simp [Value.ownBlock,e]))⟩,Or.inl rfl,?_⟩
   ·simp only [List.size_toArray,List.length_append,List.length_take,List.length_drop,Array.length_toList]
    omega
   ·rw [htake,<-hlen]
    exact List.take_left
   ·intro g' hg'
    simp [Value.ownBlock] at hg'
    subst hg'
    refine⟨_,_,setRow_heap w g cur2 _ e _ hg,λu hu=>?_⟩
    rw [List.mem_append,List.mem_append] at hu
    rcases hu with(hu|hu)|hu
    ·exact hcn u (List.mem_of_mem_take hu)
    ·exact hnn u hu
    ·exact hcn u (List.mem_of_mem_drop hu)
  ·have holds:∀j u,xs[j]?=some u->w.cell? ((⟨g,0,none⟩:Addr).add j)=some u:=hown.cells (g:=g) rfl
   have hr:=run_append_grow (P:=P) w t ty e i z ht hi hz ⟨g,0,none⟩ n cap xs hown.1 holds a m c news hl hnews (by omega) (by omega) (growslice_fits (by omega) hbytes)
   have hxs:∀u ∈ xs,NoIV u:=λu hu=>hcn u (List.mem_of_mem_take (by rw [htake];exact hu))
   have hgr:=grown cap (by omega) hxs (Value.ownBlock (.slice (some ⟨g,0,none⟩) n cap))
   exact⟨_,_,hr,hgr.1,hgr.2.1,Or.inr rfl,hgr.2.2⟩
theorem zhG {ops:Array Oper}{rest:List Oper}{o:Oper}{a:Act}{Q:Exit->Act->World->Prop}(hgd:o.guard=none)(s x:Operand)(t:TypeId)
  (ho:o.op=.call {callee:=.builtin .append,args:=#[s,x],argTypes:=#[t,t]})
  (base:Nat) (e:TypeId) (i:TypeInfo) (z:Value) (size bytes:Nat) (ht:P.underlying t=some (.slice e)) (hi:P.info? e=some i) (hz:i.zero=some z)
  (hsize:i.size=size) (hby:i.bytes=bytes) (hzs:z.cells.size=size) (hsz:0<size)
  (v:Value) (n:Nat) (xs:List Value) (hs:a.eval s=v) (hown:w.ownsRow base e size v n xs)
  (ad:Addr) (m c:Nat) (news:List Value) (hx:a.eval x=.slice (some ad) m c) (hl:news.length=m*size) (hnews:∀j u,news[j]?=some u->w.cell? (ad.add j)=some u) (h1:∀u ∈ news,u.oneCell'=true)
  (h63:n+m<=maxLen) (hbytes:(n+m)*bytes<=140737488355328) (hbase:base<=w.heap.size)
  (hv:zbY w v) (hzn:∀u ∈ z.cells.toList,NoIV u) (hnn:∀u ∈ news,NoIV u)
  (h:∀v' w',w'.ownsRow base e size v' (n+m) (xs++news)->w.grownBy w' v.ownBlock->(v'.ownBlock=v.ownBlock\/v'.ownBlock=some w.heap.size)->zbY w' v'->wpList P ops Q rest (a.put o.dst v') w'):
  wpList P ops Q (o::rest) a w:=by
 refine wpList_plain hgd λK hK=>?_
 obtain⟨v',w',hr,h2,h3,h4,h5⟩:=zjW (P:=P) w base t o.type e i z size bytes ht hi hz hsize hby hzs hsz v n xs hown ad m c news hl hnews h1 h63 hbytes hbase hv hzn hnn
 unfold Oper.wp execOp
 simp only [ho,resolve,invoke,builtin,Sem.run_bind,Sem.run_pure,Result.andThen_ok,List.map_toArray,List.map_cons,List.map_nil,hs,hx,hr]
 exact hK _ _ (h v' w' h2 h3 h4 h5)
end
theorem zbY.blk {w:World}{v:Value}{g:Nat}(h:zbY w v)(hg:v.ownBlock=some g):∃(t:TypeId) (cs:Array Value),Blk w g t cs/\NoU cs:=by
 obtain⟨cur,e,h1,h2⟩:=h g hg
 exact⟨e,cur,h1,λu hu k z=>h2 u hu k z⟩
theorem zdT.grown {α:Type}{E:El α}(hE:zdT E){w w':World}{v:Value}{x:α}{b:Bool}{A:oA9}{n c:Nat}{F:oA9}{k f:Nat}(h:E w x b A n c F k f)(hg:w.grownBy w' v.ownBlock)(hn:zbY w v):E w' x b A n c F k f:=by
 cases hv:v.ownBlock with
 |none=>rw [hv] at hg;exact hE.below h (zbw hg)
 |some g=>
   rw [hv] at hg
   obtain⟨t,cs,hk,hc⟩:=hn.blk hv
   exact hE.offg h hk hc (zbl.of_grown hg)
theorem zcw {w w':World}{g:Nat}{t:TypeId}{cs:Array Value}{row:Option Nat}(h:Blk w g t cs)(hg:w.grownBy w' row)(hne:row≠some g):Blk w' g t cs:=(hg.block g (Blk.lt h) (λe=>hne e.symm)).trans h
structure zgp {α:Type}(E:El α)(w:World)(base:Nat)(t:TypeId)(v:Value)(xs:List α)(vs:List Value):Prop where
 own:w.ownsRow base t 3 v xs.length vs
 nou:zbY w v
 num:∀i x,xs[i]?=some x->∃(b:Bool) (B:oA9) (m d:Nat) (F:oA9) (u f:Nat),vs[i*3]?=some (.bool b)/\vs[i*3+1]?=some (.slice B m d)/\vs[i*3+2]?=some (.slice F u f)/\E w x b B m d F u f
section
variable {α:Type}{E:El α}
theorem zgp.nil (w:World)(base:Nat)(t:TypeId):zgp E w base t (.slice none 0 0) [] []:=⟨World.ownsRow_nil _ _ _ _,zbY.nil _ _,λi x hi=>by simp at hi⟩
theorem zgp.len {w:World}{base:Nat}{t:TypeId}{v:Value}{xs:List α}{vs:List Value}(h:zgp E w base t v xs vs):vs.length=xs.length*3:=h.own.1
theorem zgp.shape {w:World}{base:Nat}{t:TypeId}{v:Value}{xs:List α}{vs:List Value}(h:zgp E w base t v xs vs):∃A c,v=.slice A xs.length c/\zaI E w A xs.length c xs/\∀ad,A=some ad->base<=ad.block:=by
 rcases h.own.2 with⟨rfl,h0⟩|⟨g,cap,cur,rfl,hbg,hg,hnc,hcm,hcs,htake⟩
 ·have hx:xs=[]:=List.eq_nil_of_length_eq_zero h0
  subst hx
  exact⟨none,0,rfl,zaI.nil w,λad e=>by cases e⟩
 ·have hcell:=h.own.cells (g:=g) rfl
  refine⟨some ⟨g,0,none⟩,cap,rfl,⟨rfl,hnc,by unfold maxLen at hcm;omega,λi x hi=>?_⟩,λad e=>by injection e with e;subst e;exact hbg⟩
  obtain⟨b,B,m,d,F,u,f,h1,h2,h3,h4⟩:=h.num i x hi
  exact⟨_,b,B,m,d,F,u,f,rfl,(Array.getElem?_eq_some_iff.1 hg).1,hcell _ _ h1,hcell _ _ h2,hcell _ _ h3,h4⟩
theorem zgp.below (hE:zdT E){w w':World}{base:Nat}{t:TypeId}{v:Value}{xs:List α}{vs:List Value}(h:zgp E w base t v xs vs)(hb:Below w.heap.size w w'):zgp E w' base t v xs vs:=by
 refine⟨⟨h.own.1,?_⟩,h.nou.below hb,λi x hi=>?_⟩
 ·rcases h.own.2 with h1|⟨g,cap,cur,e1,e2,e3,e4⟩
  ·exact .inl h1
  ·exact .inr ⟨g,cap,cur,e1,e2,(hb.block g (Blk.lt (t:=t) (cs:=cur) e3)).trans e3,e4⟩
 ·obtain⟨b,B,m,d,F,u,f,h1,h2,h3,h4⟩:=h.num i x hi
  exact⟨b,B,m,d,F,u,f,h1,h2,h3,hE.below h4 hb⟩
theorem zgp.grow (hE:zdT E){w w':World}{base n:Nat}{t:TypeId}{v v':Value}{xs:List α}{vs:List Value}{x:α}{b:Bool}{B F:oA9}{m d u f:Nat}(h:zgp E w base t v xs vs)(hx:E w x b B m d F u f)
  (ho:w'.ownsRow base t 3 v' n (vs++[.bool b,.slice B m d,.slice F u f])) (hn:n=xs.length+1) (hg:w.grownBy w' v.ownBlock) (hnu:zbY w' v'):zgp E w' base t v' (xs++[x]) (vs++[.bool b,.slice B m d,.slice F u f]):=by
 have hl:=h.len
 refine⟨by rw [List.length_append,List.length_singleton,<-hn];exact ho,hnu,λi y hi=>?_⟩
 by_cases hlt:i<xs.length
 ·rw [List.getElem?_append_left hlt] at hi
  obtain⟨b1,B1,m1,d1,F1,u1,f1,h1,h2,h3,h4⟩:=h.num i y hi
  exact⟨b1,B1,m1,d1,F1,u1,f1,by rw [List.getElem?_append_left (by omega)];exact h1,by rw [List.getElem?_append_left (by omega)];exact h2,by rw [List.getElem?_append_left (by omega)];exact h3,hE.grown h4 hg h.nou⟩
 ·rw [List.getElem?_append_right (by omega)] at hi
  have hi2:i=xs.length:=by
   have:=(List.getElem?_eq_some_iff.1 hi).1
   simp at this
   omega
  subst hi2
  obtain rfl:x=y:=by
   rw [Nat.sub_self] at hi
   injection hi
  exact⟨b,B,m,d,F,u,f,by rw [List.getElem?_append_right (by omega),hl,Nat.sub_self];rfl,by rw [List.getElem?_append_right (by omega),hl,Nat.add_sub_cancel_left];rfl,by rw [List.getElem?_append_right (by omega),hl,Nat.add_sub_cancel_left];rfl,hE.grown hx hg h.nou⟩
end
