/- What this claim leans on. -/
import Derived.Test.YtfieheffipfahaaGreatDoorRJ9Lib
import Derived.Test.YtfieheffipfahaaGreatDoorRBun7b
namespace Go.Proofs.YtfieheffipfahaaGreatDoor
open Go Go.RowKit
set_option maxHeartbeats 16000000
set_option maxRecDepth 100000
set_option linter.unusedVariables false
set_option linter.unusedSimpArgs false
def zej (w : World) (x k : Nat) (e : Ending) (w' : World) : Prop:=∃ (A : oA9) (n c : Nat),e = .returned (.tuple #[.agg #[.slice A n c],.int .i64 (k : Int),.nilIface]) ∧ zaf w' x A n c ∧ Below w.heap.size w w'
def zbX (w : World) (er : Int) (e : Ending) (w' : World) : Prop:=e = .returned (.tuple #[.agg #[.slice none 0 0],.int .i64 0,.iface 47 (.int .i64 er)]) ∧ Below w.heap.size w w'
theorem le1 {w W : World} {x k g : Nat} {t : TypeId} {A : oA9} {n c : Nat} {q : oA9} {r s : Nat} {kz : Int} (h : zaf W x A n c) (hz : kz = (k : Int)) (kd : Blk W g t #[.slice q r s]) (hB : Below w.heap.size w W) (hg : w.heap.size ≤ g) : zej w x k (.returned (.tuple #[.agg #[.slice A n c],.int .i64 kz,.nilIface])) (W.setCell ⟨g,0,none⟩ (.slice A n c)) :=
 ⟨_,_,_,by rw [hz],zak h kd (NoU.s1 _ _ _) (zaP _ _ _),bl1 _ hg hB⟩
theorem le0 {w W : World} {er : Int} {g : Nat} (hB : Below w.heap.size w W) (hg : w.heap.size ≤ g) : zbX w er (.returned (.tuple #[.agg #[.slice none 0 0],.int .i64 0,.iface 47 (.int .i64 er)])) (W.setCell ⟨g,0,none⟩ (.slice none 0 0)):=⟨rfl,bl1 _ hg hB⟩
theorem zgh (l : List Nat) (A : oA9) (n c : Nat) (w : World) (h : zaB w l A n c) (he : n ≤ l.getD 0 0) : Calls Tryz.prog 95 #[.slice A n c] w (zbX w 90):=by
 have hlen:=h.len
 obtain ⟨b1,b2,b3⟩:=zaz w 29 #[.slice none 0 0]
 have s0:=st1 b2
 have HG : Hid (zbX w 90 (.returned (.tuple #[.agg #[.slice none 0 0],.int .i64 0,.iface 47 (.int .i64 90)])) (w.alloc (.cells #[.slice none 0 0] 29))):=⟨rfl,b1⟩
 have r0:=b2.c1
 by_cases h0 : n = 0
 ·subst h0
  clear h he hlen b1 b2 b3
  go_enter Tryz.func95,Tryz.ntmps95
  go_wp2
  refine bodyPost_ret (v:=.tuple #[.agg #[.slice none 0 0],.int .i64 0,.iface 47 (.int .i64 90)]) (by simp [results,Tryz.results95,go_sem,r0]) rfl ?_
  exact HG.out
 ·obtain ⟨gb,ob,ib,rfl,hgb,hx,hc⟩:=h.first (by omega)
  obtain ⟨x,hxx⟩ : ∃ x,l.getD 0 0 = x:=⟨_,rfl⟩
  rw [hxx] at hc he hx
  have hc1:=zad b1 hc
  have i0 : ((n : Int) == 0) = false:=by rw [beq_eq_false_iff_ne]; omega
  have i1 : (0 : Int) < (n : Int):=by omega
  have i2 : decide ((n : Int) ≤ (x : Int)) = true:=by simp; omega
  have i5 : decide (n ≤ x) = true:=by simp; omega
  have i3 : IntKind.i64.wrap (x : Int) = (x : Int):=IntWalk.i64_in _ (by omega)
  clear h he hlen b1 b2 b3 hc hxx
  go_enter Tryz.func95,Tryz.ntmps95
  go_wp2
  refine bodyPost_ret (v:=.tuple #[.agg #[.slice none 0 0],.int .i64 0,.iface 47 (.int .i64 90)]) (by simp [results,Tryz.results95,go_sem,r0]) rfl ?_
  exact HG.out
theorem zeS (t z : Bool) (l : List Nat) (A : oA9) (n c : Nat) (w : World) (h : zaB w l A n c) (hn : n ≤ 2147483648) (he : l.getD 0 0 < n) (ht : zbi (zce l 0) = t) (hz : t = true → decide (zcE (zce l 0) = 0) = z) :
  Calls Tryz.prog 95 #[.slice A n c] w (if t = true ∧ z = false then zej w (zcE (zce l 0)) (zat l 0) else zbX w 91):=by
 have hlen:=h.len
 obtain ⟨b1,b2,b3⟩:=zaz w 29 #[.slice none 0 0]
 obtain ⟨gb,ob,ib,rfl,hgb,hx,hc⟩:=h.first (by omega)
 obtain ⟨A1,hs1,hm1⟩:=zjS (n:=n) (c:=c) (k:=1) (m:=1 + l.getD 0 0) (some ⟨gb,ob,ib⟩) (by omega) (by omega) h.2.2.1
 have hme : (l.drop 1).take (1 + l.getD 0 0 - 1) = zce l 0:=by unfold zce; rw [show 1 + l.getD 0 0 - 1 = l.getD 0 0 by omega]
 have HP:=lh9 (fun w' (hb : Below w.heap.size w w') => zlc (zce l 0) A1 (1 + l.getD 0 0 - 1) (c - 1) w' (hme ▸ (hm1 w' l (h.below hb)).1) (hme ▸ (hm1 w' l (h.below hb)).2.1) (by omega))
 have hend : Hid ((1 : Int) + ((l.getD 0 0 : Nat) : Int) = ((zat l 0 : Nat) : Int)):=by show _ = _; unfold zat; omega
 obtain ⟨x,hxx⟩ : ∃ x,l.getD 0 0 = x:=⟨_,rfl⟩
 obtain ⟨E,hE⟩ : ∃ x,zat l 0 = x:=⟨_,rfl⟩
 obtain ⟨V,hV⟩ : ∃ x,zcE (zce l 0) = x:=⟨_,rfl⟩
 rw [hxx] at hc he hx hs1 HP hend
 rw [hE] at hend
 rw [ht,hV] at HP
 rw [hV] at hz
 rw [hE,hV]
 have e1x : 1 + x - 1 = x:=by omega
 rw [e1x] at hs1 HP
 have hs2 : ∀ w,(Instr.slice 42 (.slice (some ⟨gb,ob,ib⟩) n c) (some (.int .i64 1)) (some (.int .i64 (1 + (x : Int)))) none).run Tryz.prog w = .ok (.slice A1 x (c - 1)) w:=fun w => by
  have h9:=hs1 w
  rw [show ((1 + x : Nat) : Int) = 1 + (x : Int) by omega] at h9
  exact h9
 clear hs1 e1x
 have hc1:=zad b1 hc
 have hk1:=b2
 have i0 : ((n : Int) == 0) = false:=by rw [beq_eq_false_iff_ne]; omega
 have i1 : (0 : Int) < (n : Int):=by omega
 have i2 : decide ((n : Int) ≤ (x : Int)) = false:=by simp; omega
 have i5 : decide (n ≤ x) = false:=by simp; omega
 have i3 : IntKind.i64.wrap (x : Int) = (x : Int):=IntWalk.i64_in _ (by omega)
 have i4 : IntKind.i64.wrap (1 + (x : Int)) = 1 + (x : Int):=IntWalk.i64_in _ (by omega)
 have HB:=lh9 b1
 have hHP : Hid (∀ w',Below w.heap.size w w' → Calls Tryz.prog 126 #[.slice A1 x (c - 1)] w' (zbI w' (if t then V else 0) t)):=HP.out
 clear h he hlen b1 b2 b3 hc hxx hE hV ht hm1 hme HP
 cases t with
 | false =>
   clear hz
   rw [if_neg (by simp)]
   go_enter Tryz.func95,Tryz.ntmps95
   go_wp2_with fail
   refine (hHP.out _ HB.out).mono ?_
   rintro e w1 ⟨A2,n2,c2,rfl,hw2,hb⟩
   have hB1:=zac HB.out hb
   have hk2:=zae hb hk1
   obtain ⟨d1,d2,d3⟩:=zaz w1 29 #[.slice A2 n2 c2]
   have hB2:=zac hB1 d1
   have hk3:=zae d1 hk2
   have s0:=st1 hk3
   have HG : Hid (zbX w 91 (.returned (.tuple #[.agg #[.slice none 0 0],.int .i64 0,.iface 47 (.int .i64 91)])) ((w1.alloc (.cells #[.slice A2 n2 c2] 29)).setCell ⟨w.heap.size,0,none⟩ (.slice none 0 0))):=le0 hB2 (Nat.le_refl _)
   have r0:=(sn1 hk3 (.slice none 0 0)).c1
   clear hk1 hk2 hk3 hB1 hB2 d1 d2 d3 hw2 hb HB hHP
   go_wp2
   refine bodyPost_ret (v:=.tuple #[.agg #[.slice none 0 0],.int .i64 0,.iface 47 (.int .i64 91)]) (by simp [results,Tryz.results95,go_sem,r0]) rfl ?_
   exact HG.out
 | true =>
   have hz2:=hz rfl
   clear hz
   rw [if_pos rfl] at hHP
   cases z with
   | true =>
     rw [if_neg (by simp)]
     go_enter Tryz.func95,Tryz.ntmps95
     go_wp2_with fail
     refine (hHP.out _ HB.out).mono ?_
     rintro e w1 ⟨A2,n2,c2,rfl,hw2,hb⟩
     have hB1:=zac HB.out hb
     have hk2:=zae hb hk1
     obtain ⟨d1,d2,d3⟩:=zaz w1 29 #[.slice A2 n2 c2]
     have hB2:=zac hB1 d1
     have hk3:=zae d1 hk2
     have hw3:=hw2.below d1
     have g3:=d2.c1
     have HZ:=lh9 (zch (of_decide_eq_true hz2) hw3)
     clear hk1 hk2 hB1 d1 d2 d3 hw2 hb HB hHP hw3 hz2 hend
     go_wp2_with fail
     generalize w1.alloc (.cells #[.slice A2 n2 c2] 29) = W at *
     refine HZ.out.mono ?_
     rintro e w4 ⟨rfl,hb⟩
     have hB3:=zac hB2 hb
     have hk4:=zae hb hk3
     have s0:=st1 hk4
     have HG : Hid (zbX w 91 (.returned (.tuple #[.agg #[.slice none 0 0],.int .i64 0,.iface 47 (.int .i64 91)])) (w4.setCell ⟨w.heap.size,0,none⟩ (.slice none 0 0))):=le0 hB3 (Nat.le_refl _)
     have r0:=(sn1 hk4 (.slice none 0 0)).c1
     clear hk3 hk4 hB3 hB2 hb HZ g3
     go_wp2
     refine bodyPost_ret (v:=.tuple #[.agg #[.slice none 0 0],.int .i64 0,.iface 47 (.int .i64 91)]) (by simp [results,Tryz.results95,go_sem,r0]) rfl ?_
     exact HG.out
   | false =>
     rw [if_pos ⟨rfl,rfl⟩]
     go_enter Tryz.func95,Tryz.ntmps95
     go_wp2_with fail
     refine (hHP.out _ HB.out).mono ?_
     rintro e w1 ⟨A2,n2,c2,rfl,hw2,hb⟩
     have hB1:=zac HB.out hb
     have hk2:=zae hb hk1
     obtain ⟨d1,d2,d3⟩:=zaz w1 29 #[.slice A2 n2 c2]
     have hB2:=zac hB1 d1
     have hk3:=zae d1 hk2
     have hw3:=hw2.below d1
     have g3:=d2.c1
     have HZ:=lh9 (zcd (of_decide_eq_false hz2) hw3)
     have HW3:=lh9 hw3
     clear hk1 hk2 hB1 d1 d2 d3 hw2 hb HB hHP hw3 hz2
     go_wp2_with fail
     generalize w1.alloc (.cells #[.slice A2 n2 c2] 29) = W at *
     refine HZ.out.mono ?_
     rintro e w4 ⟨rfl,hb⟩
     have hB3:=zac hB2 hb
     have hk4:=zae hb hk3
     have g4:=zad hb g3
     have s0:=st1 hk4
     have HG : Hid (zej w V E (.returned (.tuple #[.agg #[.slice A2 n2 c2],.int .i64 (1 + (x : Int)),.nilIface])) (w4.setCell ⟨w.heap.size,0,none⟩ (.slice A2 n2 c2))):=le1 (HW3.out.below hb) hend.out hk4 hB3 (Nat.le_refl _)
     have r0:=(sn1 hk4 (.slice A2 n2 c2)).c1
     clear hk3 hk4 hB3 hB2 hb HZ g3 HW3 hend
     go_wp2
     refine bodyPost_ret (v:=.tuple #[.agg #[.slice A2 n2 c2],.int .i64 (1 + (x : Int)),.nilIface]) (by simp [results,Tryz.results95,go_sem,r0]) rfl ?_
     exact HG.out
theorem zhf (l : List Nat) (A : oA9) (n c : Nat) (w : World) (h : zaB w l A n c) (hn : n ≤ 2147483648) (he : zax l 0 = 0) : Calls Tryz.prog 95 #[.slice A n c] w (zej w (zaj l 0) (zat l 0)):=by
 unfold zax at he
 rw [h.len] at he
 by_cases h1 : n ≤ 0 + l.getD 0 0
 ·rw [if_pos h1] at he; exact absurd he (by decide)
 ·rw [if_neg h1] at he
  by_cases h2 : zbi (zce l 0) = true ∧ zcE (zce l 0) ≠ 0
  ·have k:=zeS true false l A n c w h hn (by omega) h2.1 (fun _ => decide_eq_false h2.2)
   rw [if_pos ⟨rfl,rfl⟩] at k
   exact k
  ·rw [if_neg h2] at he; exact absurd he (by decide)
theorem zhQ (l : List Nat) (A : oA9) (n c : Nat) (w : World) (h : zaB w l A n c) (hn : n ≤ 2147483648) (he : zax l 0 ≠ 0) : Calls Tryz.prog 95 #[.slice A n c] w (zbX w (zax l 0)):=by
 unfold zax at he ⊢
 rw [h.len] at he ⊢
 by_cases h1 : n ≤ 0 + l.getD 0 0
 ·rw [if_pos h1]; exact zgh l A n c w h (by omega)
 ·rw [if_neg h1] at he ⊢
  by_cases h2 : zbi (zce l 0) = true ∧ zcE (zce l 0) ≠ 0
  ·rw [if_pos h2] at he; exact absurd rfl he
  ·rw [if_neg h2]
   have k:=zeS (zbi (zce l 0)) (decide (zcE (zce l 0) = 0)) l A n c w h hn (by omega) rfl (fun _ => rfl)
   rw [if_neg (by rintro ⟨a,b⟩; exact h2 ⟨a,of_decide_eq_false b⟩)] at k
   exact k
theorem lead_yes (l : List Nat) (k : Nat) (A : oA9) (n c : Nat) (w : World) (h : zaB w (l.drop k) A n c) (hn : n ≤ 2147483648) (hk : k ≤ l.length) (he : zax l k = 0) (u : Nat) (hu : 1 + l.getD k 0 = u) : Calls Tryz.prog 95 #[.slice A n c] w (zej w (zaj l k) u):=by
 subst hu
 have q:=zhf (l.drop k) A n c w h hn (by rw [zgj hk]; exact he)
 rw [zox] at q
 have e : zat (l.drop k) 0 = 1 + l.getD k 0:=by unfold zat; rw [ziG]
 rw [e] at q
 exact q
theorem lead_no (l : List Nat) (k : Nat) (A : oA9) (n c : Nat) (w : World) (h : zaB w (l.drop k) A n c) (hn : n ≤ 2147483648) (hk : k ≤ l.length) (he : zax l k ≠ 0) : Calls Tryz.prog 95 #[.slice A n c] w (zbX w (zax l k)):=by
 have q:=zhQ (l.drop k) A n c w h hn (by rw [zgj hk]; exact he)
 rw [zgj hk] at q
 exact q
theorem zdp (n : Int) (s : ByteArray) (k : Int) (w : World) : Calls Tryz.prog 56 #[.iface 47 (.int .i64 n),.string s,.int .i64 k] w fun e w' => ∃ (et : TypeId) (ex : Value),e = .returned (.iface et ex) ∧ zcm w' (.spot n s k) (.iface et ex) ∧ Below w.heap.size w w':=by
 refine (api_wrap n s k w).mono ?_
 rintro e w' ⟨v,rfl,⟨fb,rfl,h⟩,hb⟩
 exact ⟨_,_,rfl,⟨fb,rfl,h⟩,hb⟩
theorem zlz (r : Rat) (s : Bool) (x : Nat) (y : Nat) (Baa : oA9) (maa daa : Nat) (Bab : oA9) (mab dab : Nat) (w : World) (hT : zam w) (haa : zaf w x Baa maa daa) (hab : zaf w y Bab mab dab) (qaa : maa ≤ 268435456) (qab : mab ≤ 268435456) (hn : r.num = zcD s x) (hd : r.den = y) (hy : y = 1) :
  Calls Tryz.prog 82 #[.bool s,.agg #[.slice Baa maa daa],.agg #[.slice Bab mab dab]] w (zfX w r):=by
 have HIC:=lh9 (zbh (T:=zam))
 have HGC:=lh9 zdW
 have HT:=lh9 (fun w' (hb : Below w.heap.size w w') => hT.on hb)
 have HTB:=HT
 obtain ⟨K,hKe⟩ : ∃ K,268435456 = K:=⟨_,rfl⟩
 have hKK : K ≤ 268435456:=by omega
 have hK0 : 0 < K:=by omega
 have HRN:=lh9 hn
 have HRD : Hid (r.den = 1):=hd.trans hy
 have HM1 : Hid (mab ≤ 1):=len_one hab hy
 have HW1 : Hid (((wd y 0 : Nat) : Int) = 1):=by show _ = _; rw [hy]; rfl
 have HNaa:=lh9 (fun w' (b : Below w.heap.size w w') => haa.below b)
 have HZaa : Hid (Sz K x):=Sz.of_words haa (by omega)
 clear haa qaa
 have HNab:=lh9 (fun w' (b : Below w.heap.size w w') => hab.below b)
 have HZab : Hid (Sz K y):=Sz.of_words hab (by omega)
 clear hab qab
 clear hT hKe hn hd hy
 go_enter Tryz.func82,Tryz.ntmps82
 have hB:=Below.refl w.heap.size w
 have kk2:=(zbp w 29 29 33 #[.slice Baa maa daa] #[.slice Bab mab dab] #[.bool false,.slice none 0 0,.slice none 0 0]).2.2.1
 obtain ⟨bx1,bx2,bx3,bx4,bz⟩:=zbp w 29 29 33 #[.slice Baa maa daa] #[.slice Bab mab dab] #[.bool false,.slice none 0 0,.slice none 0 0]
 have hB:=zac hB bx1
 have g1:=bx2.c1
 have g2:=bx3.c1
 have k3:=bx4
 clear bx1 bx2 bx3 bx4 bz
 go_wp2_with fail
 generalize ((w.alloc (.cells #[.slice Baa maa daa] 29)).alloc (.cells #[.slice Bab mab dab] 29)).alloc (.cells #[.bool false,.slice none 0 0,.slice none 0 0] 33) = W1 at *
 have k2:=kk2
 clear kk2
 (with_reducible refine (zpe (HW1.out) (zdb (y) Bab mab dab _ (HNab.out _ hB) HM1.out)).mono ?_)
 rintro e wc2 ⟨rfl,hb⟩
 have hB:=zac hB hb
 have g1:=zad hb g1
 have g2:=zad hb g2
 have k3:=zae hb k3
 have k2:=zae hb k2
 clear hb 
 have HN4:=lh9 (zaQ wc2)
 obtain ⟨sc0,sf0⟩:=st1 k2
 have kz0:=sn1 k2 (.slice none 0 0)
 have g1:=zag (q:=⟨w.heap.size + 1,0,none⟩) (.slice none 0 0) (by show w.heap.size ≠ w.heap.size + 1; omega) (g1)
 have k3:=Blk.far (p:=⟨w.heap.size + 1,0,none⟩) (k3) (by show w.heap.size + 1 + 1 ≠ w.heap.size + 1; omega) (.slice none 0 0)
 have HN4:=lh9 (zak HN4.out k2 (NoU.s1 _ _ _) (zaP _ _ (.slice none 0 0)))
 have hB:=bl1 (.slice none 0 0) (by show w.heap.size ≤ w.heap.size + 1; omega) hB
 have g2 : (wc2.setCell ⟨w.heap.size + 1,0,none⟩ (.slice none 0 0)).cell? ⟨w.heap.size + 1,0,none⟩ = some (.slice none 0 0):=kz0.cell 0
 have k2:=kz0
 go_wp2_with fail
 clear sc0 sf0 kz0
 generalize wc2.setCell ⟨w.heap.size + 1,0,none⟩ (.slice none 0 0) = W3 at *
 go_wp2_with fail
 have HZ5 : Hid (Sz (K) (zcD s x).natAbs):=(by rw [zfw]; exact HZaa.out)
 have C0:=lh9 (fun w' (h : Below W3.heap.size W3 w') => HIC.out.new s (x) Baa maa daa w' (HT.out _ (zac hB h)) (HNaa.out _ (zac hB h)) (szw HZaa (HNaa.out _ hB)))
 have hBw:=(Below.refl W3.heap.size W3).drew
 refine rg (csc g1 (csc g2 csn)) (fun hHeld => ?_)
 refine tk 0 ?_
 refine tk 1 ?_
 refine tk 3 ?_
 refine rc 2 (fun K hK => ?_)
 go_simp
 go_at_call 38; (with_reducible refine (C0.out _ hBw).mono ?_); rintro e wa4 ⟨b5,B5,m5,d5,rfl,hw5,hb⟩; have hBw:=zac hBw hb; refine hK.out _ _ (Cs.below hHeld hb) (fun hHeld => ?_); clear hK K hb
 try simp only [sb9]
 refine tk 4 ?_
 obtain ⟨sc0,sf0,sc1,sf1,sc2,sf2⟩:=st3 (zae hBw k3) (.bool b5) (.slice B5 m5 d5)
 refine rc 5 (fun K hK => ?_)
 go_simp
 refine hK.out _ _ (cs3 (.bool b5) (.slice B5 m5 d5) (.slice none 0 0) hHeld) (fun hHeld => ?_); clear hK K
 try simp only [sb9]
 refine rdn ?_
 have hB:=zac hB hBw
 have g1:=zad hBw g1
 have k3:=zae hBw k3
 have k2:=zae hBw k2
 have HN4:=lh9 (HN4.out.below hBw)
 have g2:=zad hBw g2
 have HN5:=lh9 hw5
 clear hBw hHeld hw5 C0
 obtain ⟨r0,r1,r2⟩:=(sn3 k3 (.bool b5) (.slice B5 m5 d5) (.slice none 0 0)).c3
 have HG:=lh9 (gq3 (zpO HRN.out HRD.out HN5.out HN4.out) k3 hB (by omega))
 go_wp2
 refine bodyPost_ret (v:=.agg #[.bool b5,.slice B5 m5 d5,.slice none 0 0]) (by simp [results,Tryz.results82,go_sem,r0,r1,r2]) rfl ?_
 exact HG.out
theorem zlA (r : Rat) (s : Bool) (x : Nat) (y : Nat) (Baa : oA9) (maa daa : Nat) (Bab : oA9) (mab dab : Nat) (w : World) (hT : zam w) (haa : zaf w x Baa maa daa) (hab : zaf w y Bab mab dab) (qaa : maa ≤ 268435456) (qab : mab ≤ 268435456) (hn : r.num = zcD s x) (hd : r.den = y) (hy : y ≠ 1) (hm : mab ≤ 1) :
  Calls Tryz.prog 82 #[.bool s,.agg #[.slice Baa maa daa],.agg #[.slice Bab mab dab]] w (zfX w r):=by
 have HIC:=lh9 (zbh (T:=zam))
 have HGC:=lh9 zdW
 have HT:=lh9 (fun w' (hb : Below w.heap.size w w') => hT.on hb)
 have HTB:=HT
 obtain ⟨K,hKe⟩ : ∃ K,268435456 = K:=⟨_,rfl⟩
 have hKK : K ≤ 268435456:=by omega
 have hK0 : 0 < K:=by omega
 have HRN:=lh9 hn
 have HRD:=lh9 hd
 have HY:=lh9 hy
 have HM1:=lh9 hm
 have HW1 : Hid (((wd y 0 : Nat) : Int) = (y : Int)):=by show _ = _; rw [wd0 (zpC hab hm)]
 have kb1 : ((y : Int) == 1) = false:=by rw [beq_eq_false_iff_ne]; omega
 have HNaa:=lh9 (fun w' (b : Below w.heap.size w w') => haa.below b)
 have HZaa : Hid (Sz K x):=Sz.of_words haa (by omega)
 clear haa qaa
 have HNab:=lh9 (fun w' (b : Below w.heap.size w w') => hab.below b)
 have HZab : Hid (Sz K y):=Sz.of_words hab (by omega)
 clear hab qab
 clear hT hKe hn hd hy hm
 go_enter Tryz.func82,Tryz.ntmps82
 have hB:=Below.refl w.heap.size w
 have kk2:=(zbp w 29 29 33 #[.slice Baa maa daa] #[.slice Bab mab dab] #[.bool false,.slice none 0 0,.slice none 0 0]).2.2.1
 obtain ⟨bx1,bx2,bx3,bx4,bz⟩:=zbp w 29 29 33 #[.slice Baa maa daa] #[.slice Bab mab dab] #[.bool false,.slice none 0 0,.slice none 0 0]
 have hB:=zac hB bx1
 have g1:=bx2.c1
 have g2:=bx3.c1
 have k3:=bx4
 clear bx1 bx2 bx3 bx4 bz
 go_wp2_with fail
 generalize ((w.alloc (.cells #[.slice Baa maa daa] 29)).alloc (.cells #[.slice Bab mab dab] 29)).alloc (.cells #[.bool false,.slice none 0 0,.slice none 0 0] 33) = W1 at *
 have k2:=kk2
 clear kk2
 (with_reducible refine (zpe (HW1.out) (zdb (y) Bab mab dab _ (HNab.out _ hB) HM1.out)).mono ?_)
 rintro e wc2 ⟨rfl,hb⟩
 have hB:=zac hB hb
 have g1:=zad hb g1
 have g2:=zad hb g2
 have k3:=zae hb k3
 have k2:=zae hb k2
 clear hb 
 go_wp2_with fail
 have HZ4 : Hid (Sz (K) (zcD s x).natAbs):=(by rw [zfw]; exact HZaa.out)
 have C0:=lh9 (fun w' (h : Below wc2.heap.size wc2 w') => HIC.out.new s (x) Baa maa daa w' (HT.out _ (zac hB h)) (HNaa.out _ (zac hB h)) (szw HZaa (HNaa.out _ hB)))
 have hBw:=(Below.refl wc2.heap.size wc2).drew
 refine rg (csc g1 (csc g2 csn)) (fun hHeld => ?_)
 refine tk 0 ?_
 refine tk 1 ?_
 refine tk 3 ?_
 refine rc 2 (fun K hK => ?_)
 go_simp
 go_at_call 38; (with_reducible refine (C0.out _ hBw).mono ?_); rintro e wa3 ⟨b4,B4,m4,d4,rfl,hw4,hb⟩; have hBw:=zac hBw hb; refine hK.out _ _ (Cs.below hHeld hb) (fun hHeld => ?_); clear hK K hb
 try simp only [sb9]
 refine tk 4 ?_
 obtain ⟨sc0,sf0,sc1,sf1,sc2,sf2⟩:=st3 (zae hBw k3) (.bool b4) (.slice B4 m4 d4)
 refine rc 5 (fun K hK => ?_)
 go_simp
 refine hK.out _ _ (cs3 (.bool b4) (.slice B4 m4 d4) (.slice Bab mab dab) hHeld) (fun hHeld => ?_); clear hK K
 try simp only [sb9]
 refine rdn ?_
 have hB:=zac hB hBw
 have g1:=zad hBw g1
 have g2:=zad hBw g2
 have k3:=zae hBw k3
 have k2:=zae hBw k2
 have HN4:=lh9 hw4
 clear hBw hHeld hw4 C0
 obtain ⟨r0,r1,r2⟩:=(sn3 k3 (.bool b4) (.slice B4 m4 d4) (.slice Bab mab dab)).c3
 have HG:=lh9 (gq3 (zjk HRN.out HRD.out HY.out HN4.out (HNab.out _ hB)) k3 hB (by omega))
 go_wp2
 refine bodyPost_ret (v:=.agg #[.bool b4,.slice B4 m4 d4,.slice Bab mab dab]) (by simp [results,Tryz.results82,go_sem,r0,r1,r2]) rfl ?_
 exact HG.out
theorem zlB (r : Rat) (s : Bool) (x : Nat) (y : Nat) (Baa : oA9) (maa daa : Nat) (Bab : oA9) (mab dab : Nat) (w : World) (hT : zam w) (haa : zaf w x Baa maa daa) (hab : zaf w y Bab mab dab) (qaa : maa ≤ 268435456) (qab : mab ≤ 268435456) (hn : r.num = zcD s x) (hd : r.den = y) (hy : y ≠ 1) (hm : 1 < mab) :
  Calls Tryz.prog 82 #[.bool s,.agg #[.slice Baa maa daa],.agg #[.slice Bab mab dab]] w (zfX w r):=by
 have HIC:=lh9 (zbh (T:=zam))
 have HGC:=lh9 zdW
 have HT:=lh9 (fun w' (hb : Below w.heap.size w w') => hT.on hb)
 have HTB:=HT
 obtain ⟨K,hKe⟩ : ∃ K,268435456 = K:=⟨_,rfl⟩
 have hKK : K ≤ 268435456:=by omega
 have hK0 : 0 < K:=by omega
 have HRN:=lh9 hn
 have HRD:=lh9 hd
 have HY:=lh9 hy
 have HM1:=lh9 hm
 have HNaa:=lh9 (fun w' (b : Below w.heap.size w w') => haa.below b)
 have HZaa : Hid (Sz K x):=Sz.of_words haa (by omega)
 clear haa qaa
 have HNab:=lh9 (fun w' (b : Below w.heap.size w w') => hab.below b)
 have HZab : Hid (Sz K y):=Sz.of_words hab (by omega)
 clear hab qab
 clear hT hKe hn hd hy hm
 go_enter Tryz.func82,Tryz.ntmps82
 have hB:=Below.refl w.heap.size w
 have kk2:=(zbp w 29 29 33 #[.slice Baa maa daa] #[.slice Bab mab dab] #[.bool false,.slice none 0 0,.slice none 0 0]).2.2.1
 obtain ⟨bx1,bx2,bx3,bx4,bz⟩:=zbp w 29 29 33 #[.slice Baa maa daa] #[.slice Bab mab dab] #[.bool false,.slice none 0 0,.slice none 0 0]
 have hB:=zac hB bx1
 have g1:=bx2.c1
 have g2:=bx3.c1
 have k3:=bx4
 clear bx1 bx2 bx3 bx4 bz
 go_wp2_with fail
 generalize ((w.alloc (.cells #[.slice Baa maa daa] 29)).alloc (.cells #[.slice Bab mab dab] 29)).alloc (.cells #[.bool false,.slice none 0 0,.slice none 0 0] 33) = W1 at *
 have k2:=kk2
 clear kk2
 (with_reducible refine (zcH Bab mab dab _ HM1.out).mono ?_)
 rintro e wc2 ⟨rfl,hb⟩
 have hB:=zac hB hb
 have g1:=zad hb g1
 have g2:=zad hb g2
 have k3:=zae hb k3
 have k2:=zae hb k2
 clear hb 
 go_wp2_with fail
 have HZ4 : Hid (Sz (K) (zcD s x).natAbs):=(by rw [zfw]; exact HZaa.out)
 have C0:=lh9 (fun w' (h : Below wc2.heap.size wc2 w') => HIC.out.new s (x) Baa maa daa w' (HT.out _ (zac hB h)) (HNaa.out _ (zac hB h)) (szw HZaa (HNaa.out _ hB)))
 have hBw:=(Below.refl wc2.heap.size wc2).drew
 refine rg (csc g1 (csc g2 csn)) (fun hHeld => ?_)
 refine tk 0 ?_
 refine tk 1 ?_
 refine tk 3 ?_
 refine rc 2 (fun K hK => ?_)
 go_simp
 go_at_call 38; (with_reducible refine (C0.out _ hBw).mono ?_); rintro e wa3 ⟨b4,B4,m4,d4,rfl,hw4,hb⟩; have hBw:=zac hBw hb; refine hK.out _ _ (Cs.below hHeld hb) (fun hHeld => ?_); clear hK K hb
 try simp only [sb9]
 refine tk 4 ?_
 obtain ⟨sc0,sf0,sc1,sf1,sc2,sf2⟩:=st3 (zae hBw k3) (.bool b4) (.slice B4 m4 d4)
 refine rc 5 (fun K hK => ?_)
 go_simp
 refine hK.out _ _ (cs3 (.bool b4) (.slice B4 m4 d4) (.slice Bab mab dab) hHeld) (fun hHeld => ?_); clear hK K
 try simp only [sb9]
 refine rdn ?_
 have hB:=zac hB hBw
 have g1:=zad hBw g1
 have g2:=zad hBw g2
 have k3:=zae hBw k3
 have k2:=zae hBw k2
 have HN4:=lh9 hw4
 clear hBw hHeld hw4 C0
 obtain ⟨r0,r1,r2⟩:=(sn3 k3 (.bool b4) (.slice B4 m4 d4) (.slice Bab mab dab)).c3
 have HG:=lh9 (gq3 (zjk HRN.out HRD.out HY.out HN4.out (HNab.out _ hB)) k3 hB (by omega))
 go_wp2
 refine bodyPost_ret (v:=.agg #[.bool b4,.slice B4 m4 d4,.slice Bab mab dab]) (by simp [results,Tryz.results82,go_sem,r0,r1,r2]) rfl ?_
 exact HG.out
theorem zok (r : Rat) (s : Bool) (x : Nat) (y : Nat) (Baa : oA9) (maa daa : Nat) (Bab : oA9) (mab dab : Nat) (w : World) (hT : zam w) (haa : zaf w x Baa maa daa) (hab : zaf w y Bab mab dab) (qaa : maa ≤ 268435456) (qab : mab ≤ 268435456) (hn : r.num = zcD s x) (hd : r.den = y) :
  Calls Tryz.prog 82 #[.bool s,.agg #[.slice Baa maa daa],.agg #[.slice Bab mab dab]] w (zfX w r):=by
 by_cases hy : y = 1
 ·exact zlz r s x y Baa maa daa Bab mab dab w hT haa hab qaa qab hn hd hy
 ·by_cases hm : mab ≤ 1
  ·exact zlA r s x y Baa maa daa Bab mab dab w hT haa hab qaa qab hn hd hy hm
  ·exact zlB r s x y Baa maa daa Bab mab dab w hT haa hab qaa qab hn hd hy (by omega)
end Go.Proofs.YtfieheffipfahaaGreatDoor
