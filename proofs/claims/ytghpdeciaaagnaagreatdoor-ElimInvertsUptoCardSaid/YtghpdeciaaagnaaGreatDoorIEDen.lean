/- What this claim leans on. -/
import Derived.Test.YtghpdeciaaagnaaGreatDoorIJ8Etc
namespace Go.Proofs.YtghpdeciaaagnaaGreatDoor
open Go Go.RowKit
set_option maxHeartbeats 16000000
set_option maxRecDepth 100000
set_option linter.unusedVariables false
set_option linter.unusedSimpArgs false
theorem LI.szq {K:Nat}{x:Rat}(h:LI K x)(hK:0<K):SzQ K x:=by
 obtain⟨z,rfl,hz⟩:=h
 exact SzQ.whole hz hK
theorem part_den {x:Rat}{K L:Nat}(hz:SzQ K x):SzQ K ((x.den:Nat):Rat):=by
 by_cases hK:K=0
 ·subst hK;exact absurd hz.den (by have:=x.den_nz;unfold Sz;rw [Nat.pow_zero];omega)
 ·rw [<-Rat.intCast_natCast];exact SzQ.whole hz.den (by omega)
theorem part_num {x:Rat}{K:Nat}(hz:SzQ K x):SzQ K (x.num:Rat):=by
 by_cases hK:K=0
 ·subst hK;exact absurd hz.den (by have:=x.den_nz;unfold Sz;rw [Nat.pow_zero];omega)
 ·exact SzQ.whole hz.num (by omega)
theorem part_ne {x:Rat}(h:¬x.den=1):x≠0:=λe=>h (by rw [e];rfl)
theorem Blk.far3 {w:World}{g q:Nat}{t:TypeId}{cs:Array Value}(h:Blk w g t cs)(hne:g≠q)(x y z:Value):Blk (((w.setCell ⟨q,0,none⟩ x).setCell ⟨q,1,none⟩ y).setCell ⟨q,2,none⟩ z) g t cs:=Blk.far (p:=⟨q,2,none⟩) (Blk.far (p:=⟨q,1,none⟩) (Blk.far (p:=⟨q,0,none⟩) h hne x) hne y) hne z
theorem zjs:((1:Int):Rat)=1:=by decide+kernel
theorem zrq:zaD []=1:=rfl
theorem elim_den {K K0 n c:Nat}{xs:List Rat}{A:oA9}{w:World}(hT:zai w)(ha:zaz w A n c xs)(hx:zau K0 xs)(hK:LI K (zaD xs))(hn:n<=1073741824:=by omega)(h9:K+K0<=33554432:=by omega)(hK0:0<K:=by omega):
  Calls Tryz.prog 131 #[.slice A n c] w (zaH w (zaD xs)):=by
 have hl:=ha.len
 have HSX:Hid (∀i,i<n->SzQ K0 (xs.getD i 0)):=λi hi=>hx.at_ (by omega)
 have HSW:Hid (∀k,SzQ K (zaD (xs.take k))):=λk=>(zpk hK).szq hK0
 have HWS:Hid (∀k,k<n->zaD (xs.take (k+1))=zaD (xs.take k)*(((zaD (xs.take k)*xs.getD k 0).den:Nat):Rat)):=λk hk=>zpj (by omega)
 have HWA:Hid (zaD (xs.take n)=zaD xs):=by rw [List.take_of_length_le (by omega)];exact rfl
 have HA:=lh9 ha
 have HT:=lh9 (λw' (hb:Below w.heap.size w w')=>hT.on hb)
 obtain⟨bx1,bx2,bz⟩:=zav w 41 #[.bool false,.slice none 0 0,.slice none 0 0]
 have HB:=lh9 bx1
 have HK2:=lh9 bx2
 have i0:(0:Int)<=(n:Int):=by omega
 unfold zaH
 clear hT ha hx hK hl bx1 bx2 bz
 go_enter Tryz.func131,Tryz.ntmps131
 go_wp2_with fail
 generalize w.alloc (.cells #[.bool false,.slice none 0 0,.slice none 0 0] 41)=W1 at*
 (with_reducible refine(zcR 1 _ (HT.out _ HB.out) (by decide) (by decide)).mono ?_)
 rintro e w1 ⟨b1,A1,n1,c1,E1,k1,f1,rfl,hw1,hb⟩
 rw [zjs,<-zrq] at hw1
 have hB:=zab HB.out hb
 have hk2:=zaa hb HK2.out
 obtain⟨bx1,bx2,bz⟩:=zav w1 41 #[.bool b1,.slice A1 n1 c1,.slice E1 k1 f1]
 have hB:=zab hB bx1
 have hk2:=zaa bx1 hk2
 have hw1:=hw1.below bx1
 have hlt3:w.heap.size<w1.heap.size:=(zaa hb HK2.out).lt
 clear hb bx1 HB HK2 bz
 go_wp2_with fail
 generalize w1.alloc (.cells #[.bool b1,.slice A1 n1 c1,.slice E1 k1 f1] 41)=W2 at*
 generalize w1.heap.size=g3 at*
 go_loopg [12] (n+1) (λg ix wr=>∃(k:Nat) (b:Bool) (B:oA9) (m d:Nat) (E:oA9) (u v:Nat),k<=n/\n<g+k/\ix=.int .i64 k/\Blk wr g3 41 #[.bool b,.slice B m d,.slice E u v]/\zah wr (zaD (xs.take k)) b B m d E u v/\Blk wr w.heap.size 41 #[.bool false,.slice none 0 0,.slice none 0 0]/\Below w.heap.size w wr)
 case atStart=>exact⟨0,b1,A1,n1,c1,E1,k1,f1,Nat.zero_le _,by omega,rfl,bx2,hw1,hk2,hB⟩
 case round=>
  clear hw1 hk2 hB bx2
  obtain⟨k,b,B,m,d,E,u,v,hkn,hg,rfl,hk3,hx3,hk2,hB⟩:=hrel
  by_cases hlt:k<n
  ·obtain⟨ad,b1,B1,m1,d1,E1,u1,v1,rfl,-,hc0,hc1,hc2,hxk⟩:=HA.out.get hB hlt
   have hd1:decide ((k:Int)<(n:Int))=true:=decide_eq_true (by omega)
   have i1:(0:Int)<=(k:Int):=by omega
   have i2:(k:Int)<(n:Int):=by omega
   have HSK:=lh9 (HSW.out k)
   have HSK1:=lh9 (HSW.out (k+1))
   have HXK:=lh9 (HSX.out k hlt)
   have HWK:=lh9 (HWS.out k hlt)
   obtain⟨l1,hl1⟩:∃q,zaD (xs.take (k+1))=q:=⟨_,rfl⟩
   rw [hl1] at HSK1 HWK
   have HL1:=lh9 hl1
   clear hl1
   generalize zaD (xs.take k)=l at*
   generalize xs.getD k 0=x at*
   obtain⟨bx1,bx2,bz⟩:=zav wr 41 #[.bool b1,.slice B1 m1 d1,.slice E1 u1 v1]
   obtain⟨p0,p1,p2⟩:=bx2.c3
   obtain⟨g0,g1,g2⟩:=(zaa bx1 hk3).c3
   have HX:=lh9 (hxk.below bx1)
   have HL3:=lh9 (hx3.below bx1)
   have HK3:=lh9 (zaa bx1 hk3)
   have HK2:=lh9 (zaa bx1 hk2)
   have HB:=lh9 (zab hB bx1)
   have ht2:=hk2.lt
   have ht3:=hk3.lt
   clear hxk hx3 hk3 hk2 hB bx1 bx2 bz
   go_wp2_with fail
   generalize wr.alloc (.cells #[.bool b1,.slice B1 m1 d1,.slice E1 u1 v1] 41)=W4 at*
   (with_reducible refine(zeH (HT.out _ HB.out) HL3.out HX.out HSK.out HXK.out).mono ?_)
   rintro e w3 ⟨b3,A3,n3,c3,E3,k3,f3,rfl,hw3,hb⟩
   clear hc0 hc1 hc2 p0 p1 p2 g0 g1 g2
   have HZ:Hid (SzQ (K+K0) (l*x)):=HSK.out.mul HXK.out
   have HL3:=lh9 (HL3.out.below hb)
   have HK3:=lh9 (zaa hb HK3.out)
   have HK2:=lh9 (zaa hb HK2.out)
   have HB:=lh9 (zab HB.out hb)
   obtain⟨bx1,bx2,bz⟩:=zav w3 41 #[.bool b3,.slice A3 n3 c3,.slice E3 k3 f3]
   obtain⟨p0,p1,p2⟩:=bx2.c3
   have HP:=lh9 (hw3.below bx1)
   have HK6:=lh9 bx2
   have HL3:=lh9 (HL3.out.below bx1)
   have HK3:=lh9 (zaa bx1 HK3.out)
   have HK2:=lh9 (zaa bx1 HK2.out)
   have HB:=lh9 (zab HB.out bx1)
   clear hw3 hb bx1 bx2 bz HX
   go_wp2_with fail
   generalize w3.alloc (.cells #[.bool b3,.slice A3 n3 c3,.slice E3 k3 f3] 41)=W5 at*
   generalize w3.heap.size=q6 at*
   have HIS:=lh9 (zby (l*x) b3 A3 n3 c3 E3 k3 f3 W5 (HT.out _ HB.out) HP.out (HZ.out.fit HP.out (by omega)))
   by_cases hd:(l*x).den=1
   ·have e1:l1=l:=by rw [HWK.out,hd];exact Rat.mul_one l
    have HIS:=HIS.out
    rw [decide_eq_true hd] at HIS
    refine HIS.mono ?_
    rintro e w4 ⟨rfl,hb⟩
    have HL3:=lh9 (HL3.out.below hb)
    have HK3:=lh9 (zaa hb HK3.out)
    have HK2:=lh9 (zaa hb HK2.out)
    have HB:=lh9 (zab HB.out hb)
    clear hb HP HK6 p0 p1 p2 HIS hd
    go_wp2
    go_roundg (n - k)
    case measure=>omega
    case rel=>exact⟨k+1,b,B,m,d,E,u,v,by omega,by omega,by go_num,HK3.out,by rw [HL1.out,e1];exact HL3.out,HK2.out,HB.out⟩
   ·have e1:l1=l*(((l*x).den:Nat):Rat):=HWK.out
    have HND:=lh9 (num_div hd)
    have HNZ:=lh9 (part_ne hd)
    have HIS:=HIS.out
    rw [decide_eq_false hd] at HIS
    refine HIS.mono ?_
    rintro e w4 ⟨rfl,hb⟩
    have HL3:=lh9 (HL3.out.below hb)
    have HK3:=lh9 (zaa hb HK3.out)
    have HK2:=lh9 (zaa hb HK2.out)
    have HK6:=lh9 (zaa hb HK6.out)
    have HP:=lh9 (HP.out.below hb)
    have HB:=lh9 (zab HB.out hb)
    have HZN:Hid (SzQ (K+K0) (((l*x).num:Int):Rat)):=part_num HZ.out
    have HZD:Hid (SzQ (K+K0) (((l*x).den:Nat):Rat)):=part_den (L:=0) HZ.out
    clear hb p0 p1 p2 HIS hd
    go_upto_region 7 with fail
    obtain⟨p0,p1,p2⟩:=HK6.out.c3
    have hbd:=(Below.refl w4.heap.size w4).drew
    have HL3:=lh9 (HL3.out.below hbd)
    have HK3:=lh9 (zaa hbd HK3.out)
    have HK2:=lh9 (zaa hbd HK2.out)
    have HK6:=lh9 (zaa hbd HK6.out)
    have HP:=lh9 (HP.out.below hbd)
    have HB:=lh9 (zab HB.out hbd)
    refine rg (csc p0 (csc p1 (csc p2 csn))) (λhHeld=>?_)
    clear p0 p1 p2 hbd
    generalize w4.drew=D at*
    have ht6:=HK6.out.lt
    refine tk 0 ?_
    refine tk 3 ?_
    refine rcb 1 8 (λKK hK9=>?_) (λKK hK9=>?_)
    ·go_simp
     (with_reducible refine(zmc (l*x) b3 A3 n3 c3 E3 k3 f3 _ (HT.out _ HB.out) HP.out (HZ.out.fit HP.out (by omega))).mono ?_)
     rintro e w5 ⟨b4,A4,n4,c4,rfl,hw4,hb⟩
     refine hK9.out _ _ (Cs.below hHeld hb) (λhHeld=>?_)
     clear hK9 KK
     have HL3:=lh9 (HL3.out.below hb)
     have HK3:=lh9 (zaa hb HK3.out)
     have HK2:=lh9 (zaa hb HK2.out)
     have HK6:=lh9 (zaa hb HK6.out)
     have HP:=lh9 (HP.out.below hb)
     have HB:=lh9 (zab HB.out hb)
     have HN:=lh9 hw4
     clear hw4
     clear hb
     refine rcb 2 8 (λKK hK9=>?_) (λKK hK9=>?_)
     ·go_simp
      (with_reducible refine(zhU (l*x).num b4 A4 n4 c4 _ (HT.out _ HB.out) HN.out (szi (K:=K+K0) (lh9 HZ.out.num) HN.out (by omega))).mono ?_)
      rintro e w5 ⟨b5,A5,n5,c5,E5,k5,f5,rfl,hw5,hb⟩
      refine hK9.out _ _ (Cs.below hHeld hb) (λhHeld=>?_)
      clear hK9 KK
      have HL3:=lh9 (HL3.out.below hb)
      have HK3:=lh9 (zaa hb HK3.out)
      have HK2:=lh9 (zaa hb HK2.out)
      have HK6:=lh9 (zaa hb HK6.out)
      have HP:=lh9 (HP.out.below hb)
      have HB:=lh9 (zab HB.out hb)
      have HW:=lh9 hw5
      clear hw5 HN
      clear hb
      refine rcb 4 8 (λKK hK9=>?_) (λKK hK9=>?_)
      ·go_simp
       (with_reducible refine(zhv (((l*x).num:Int):Rat) (l*x) b5 A5 n5 c5 E5 k5 f5 b3 A3 n3 c3 E3 k3 f3 _ (HT.out _ HB.out) HW.out HP.out (HZN.out.fit HW.out (by omega)) (HZ.out.fit HP.out (by omega)) HNZ.out).mono ?_)
       rintro e w5 ⟨b6,A6,n6,c6,E6,k6,f6,rfl,hw6,hb⟩
       refine hK9.out _ _ (Cs.below hHeld hb) (λhHeld=>?_)
       clear hK9 KK
       have HL3:=lh9 (HL3.out.below hb)
       have HK3:=lh9 (zaa hb HK3.out)
       have HK2:=lh9 (zaa hb HK2.out)
       have HK6:=lh9 (zaa hb HK6.out)
       have HP:=lh9 (HP.out.below hb)
       have HB:=lh9 (zab HB.out hb)
       rw [HND.out] at hw6
       have HR:=lh9 hw6
       clear hw6 HW
       clear hb
       refine tk 5 ?_
       refine tk 6 ?_
       refine tk 7 ?_
       refine rc 8 (λKK hK9=>?_)
       go_simp
       obtain⟨hb,hk7,-⟩:=zav w5 41 #[.bool false,.slice none 0 0,.slice none 0 0]
       refine hK9.out _ _ (Cs.below hHeld hb) (λhHeld=>?_)
       clear hK9 KK
       have hq7:w.heap.size<w5.heap.size/\g3<w5.heap.size/\q6<w5.heap.size:=⟨HK2.out.lt,HK3.out.lt,HK6.out.lt⟩
       have HL3:=lh9 (HL3.out.below hb)
       have HK3:=lh9 (zaa hb HK3.out)
       have HK2:=lh9 (zaa hb HK2.out)
       have HK6:=lh9 (zaa hb HK6.out)
       have HP:=lh9 (HP.out.below hb)
       have HB:=lh9 (zab HB.out hb)
       have HR:=lh9 (HR.out.below hb)
       have HK7:=lh9 hk7
       clear hb hk7
       generalize w5.alloc (.cells #[.bool false,.slice none 0 0,.slice none 0 0] 41)=w7 at*
       generalize w5.heap.size=q7 at*
       have hk7:=HK7.out
       obtain⟨sc0,sf0,sc1,sf1,sc2,sf2⟩:=st3 hk7 (.bool b6) (.slice A6 n6 c6)
       refine rc 9 (λKK hK9=>?_)
       go_simp
       have hfar:=zef w7 q7 (.bool b6) (.slice A6 n6 c6) (.slice E6 k6 f6)
       refine hK9.out _ _ (Cs.far hHeld hfar ⟨(by show q6≠q7;omega),(by show q6≠q7;omega),(by show q6≠q7;omega),trivial⟩) (λhHeld=>?_)
       clear hK9 KK hfar sc0 sf0 sc1 sf1 sc2 sf2
       have HL3:=lh9 (zbN HL3.out hk7 (NoU.s3 _ _ _ _ _ _ _) (zef _ _ (.bool b6) (.slice A6 n6 c6) (.slice E6 k6 f6)))
       have HR:=lh9 (zbN HR.out hk7 (NoU.s3 _ _ _ _ _ _ _) (zef _ _ (.bool b6) (.slice A6 n6 c6) (.slice E6 k6 f6)))
       have HK3:=lh9 (Blk.far3 HK3.out (show g3≠q7 by omega) (.bool b6) (.slice A6 n6 c6) (.slice E6 k6 f6))
       have HK2:=lh9 (Blk.far3 HK2.out (show w.heap.size≠q7 by omega) (.bool b6) (.slice A6 n6 c6) (.slice E6 k6 f6))
       have HB:=lh9 (bl3 (.bool b6) (.slice A6 n6 c6) (.slice E6 k6 f6) (show w.heap.size<=q7 by omega) HB.out)
       have HK7:=lh9 (sn3 hk7 (.bool b6) (.slice A6 n6 c6) (.slice E6 k6 f6))
       clear hk7 HP HK6
       refine tk 10 ?_
       refine rdn ?_
       clear hHeld
       generalize ((w7.setCell ⟨q7,0,none⟩ (.bool b6)).setCell ⟨q7,1,none⟩ (.slice A6 n6 c6)).setCell ⟨q7,2,none⟩ (.slice E6 k6 f6)=W8 at*
       obtain⟨p0,p1,p2⟩:=HK7.out.c3
       obtain⟨g0,g1,g2⟩:=HK3.out.c3
       go_wp2_with fail
       (with_reducible refine(zeH (HT.out _ HB.out) HL3.out HR.out HSK.out HZD.out).mono ?_)
       rintro e w9 ⟨b8,A8,n8,c8,E8,k8,f8,rfl,hw8,hb⟩
       clear p0 p1 p2 g0 g1 g2
       rw [<-e1] at hw8
       have hk3:=zaa hb HK3.out
       have hk2:=zaa hb HK2.out
       have hB:=zab HB.out hb
       obtain⟨sc0,sf0,sc1,sf1,sc2,sf2⟩:=st3 hk3 (.bool b8) (.slice A8 n8 c8)
       have HX9:=lh9 (zbN hw8 hk3 (NoU.s3 _ _ _ _ _ _ _) (zef _ _ (.bool b8) (.slice A8 n8 c8) (.slice E8 k8 f8)))
       have HK9:=lh9 (sn3 hk3 (.bool b8) (.slice A8 n8 c8) (.slice E8 k8 f8))
       have HK29:=lh9 (Blk.far3 hk2 (show w.heap.size≠g3 by omega) (.bool b8) (.slice A8 n8 c8) (.slice E8 k8 f8))
       have HB9:=lh9 (bl3 (.bool b8) (.slice A8 n8 c8) (.slice E8 k8 f8) (show w.heap.size<=g3 by omega) hB)
       clear hb hw8 hk3 hk2 hB HB HK2 HK3 HK7 HL3 HR
       go_wp2
       go_roundg (n - k)
       case measure=>omega
       case rel=>exact⟨k+1,b8,A8,n8,c8,E8,k8,f8,by omega,by omega,by go_num,HK9.out,by rw [HL1.out];exact HX9.out,HK29.out,HB9.out⟩
      ·go_simp
       obtain⟨hb,hk7,-⟩:=zav w5 41 #[.bool false,.slice none 0 0,.slice none 0 0]
       refine hK9.out _ _ (Cs.below hHeld hb) (λhHeld=>?_)
       clear hK9 KK
       have hq7:w.heap.size<w5.heap.size/\g3<w5.heap.size/\q6<w5.heap.size:=⟨HK2.out.lt,HK3.out.lt,HK6.out.lt⟩
       have HL3:=lh9 (HL3.out.below hb)
       have HK3:=lh9 (zaa hb HK3.out)
       have HK2:=lh9 (zaa hb HK2.out)
       have HK6:=lh9 (zaa hb HK6.out)
       have HP:=lh9 (HP.out.below hb)
       have HB:=lh9 (zab HB.out hb)
       have HW:=lh9 (HW.out.below hb)
       have HK7:=lh9 hk7
       clear hb hk7
       generalize w5.alloc (.cells #[.bool false,.slice none 0 0,.slice none 0 0] 41)=w7 at*
       generalize w5.heap.size=q7 at*
       refine rc 4 (λKK hK9=>?_)
       go_simp
       (with_reducible refine(zhv (((l*x).num:Int):Rat) (l*x) b5 A5 n5 c5 E5 k5 f5 b3 A3 n3 c3 E3 k3 f3 _ (HT.out _ HB.out) HW.out HP.out (HZN.out.fit HW.out (by omega)) (HZ.out.fit HP.out (by omega)) HNZ.out).mono ?_)
       rintro e w5 ⟨b6,A6,n6,c6,E6,k6,f6,rfl,hw6,hb⟩
       refine hK9.out _ _ (Cs.below hHeld hb) (λhHeld=>?_)
       clear hK9 KK
       have HL3:=lh9 (HL3.out.below hb)
       have HK3:=lh9 (zaa hb HK3.out)
       have HK2:=lh9 (zaa hb HK2.out)
       have HK6:=lh9 (zaa hb HK6.out)
       have HP:=lh9 (HP.out.below hb)
       have HB:=lh9 (zab HB.out hb)
       have HK7:=lh9 (zaa hb HK7.out)
       rw [HND.out] at hw6
       have HR:=lh9 hw6
       clear hw6 HW
       clear hb
       refine tk 5 ?_
       refine tk 6 ?_
       refine tk 7 ?_
       have hk7:=HK7.out
       obtain⟨sc0,sf0,sc1,sf1,sc2,sf2⟩:=st3 hk7 (.bool b6) (.slice A6 n6 c6)
       refine rc 9 (λKK hK9=>?_)
       go_simp
       have hfar:=zef w5 q7 (.bool b6) (.slice A6 n6 c6) (.slice E6 k6 f6)
       refine hK9.out _ _ (Cs.far hHeld hfar ⟨(by show q6≠q7;omega),(by show q6≠q7;omega),(by show q6≠q7;omega),trivial⟩) (λhHeld=>?_)
       clear hK9 KK hfar sc0 sf0 sc1 sf1 sc2 sf2
       have HL3:=lh9 (zbN HL3.out hk7 (NoU.s3 _ _ _ _ _ _ _) (zef _ _ (.bool b6) (.slice A6 n6 c6) (.slice E6 k6 f6)))
       have HR:=lh9 (zbN HR.out hk7 (NoU.s3 _ _ _ _ _ _ _) (zef _ _ (.bool b6) (.slice A6 n6 c6) (.slice E6 k6 f6)))
       have HK3:=lh9 (Blk.far3 HK3.out (show g3≠q7 by omega) (.bool b6) (.slice A6 n6 c6) (.slice E6 k6 f6))
       have HK2:=lh9 (Blk.far3 HK2.out (show w.heap.size≠q7 by omega) (.bool b6) (.slice A6 n6 c6) (.slice E6 k6 f6))
       have HB:=lh9 (bl3 (.bool b6) (.slice A6 n6 c6) (.slice E6 k6 f6) (show w.heap.size<=q7 by omega) HB.out)
       have HK7:=lh9 (sn3 hk7 (.bool b6) (.slice A6 n6 c6) (.slice E6 k6 f6))
       clear hk7 HP HK6
       refine tk 10 ?_
       refine rdn ?_
       clear hHeld
       generalize ((w5.setCell ⟨q7,0,none⟩ (.bool b6)).setCell ⟨q7,1,none⟩ (.slice A6 n6 c6)).setCell ⟨q7,2,none⟩ (.slice E6 k6 f6)=W8 at*
       obtain⟨p0,p1,p2⟩:=HK7.out.c3
       obtain⟨g0,g1,g2⟩:=HK3.out.c3
       go_wp2_with fail
       (with_reducible refine(zeH (HT.out _ HB.out) HL3.out HR.out HSK.out HZD.out).mono ?_)
       rintro e w9 ⟨b8,A8,n8,c8,E8,k8,f8,rfl,hw8,hb⟩
       clear p0 p1 p2 g0 g1 g2
       rw [<-e1] at hw8
       have hk3:=zaa hb HK3.out
       have hk2:=zaa hb HK2.out
       have hB:=zab HB.out hb
       obtain⟨sc0,sf0,sc1,sf1,sc2,sf2⟩:=st3 hk3 (.bool b8) (.slice A8 n8 c8)
       have HX9:=lh9 (zbN hw8 hk3 (NoU.s3 _ _ _ _ _ _ _) (zef _ _ (.bool b8) (.slice A8 n8 c8) (.slice E8 k8 f8)))
       have HK9:=lh9 (sn3 hk3 (.bool b8) (.slice A8 n8 c8) (.slice E8 k8 f8))
       have HK29:=lh9 (Blk.far3 hk2 (show w.heap.size≠g3 by omega) (.bool b8) (.slice A8 n8 c8) (.slice E8 k8 f8))
       have HB9:=lh9 (bl3 (.bool b8) (.slice A8 n8 c8) (.slice E8 k8 f8) (show w.heap.size<=g3 by omega) hB)
       clear hb hw8 hk3 hk2 hB HB HK2 HK3 HK7 HL3 HR
       go_wp2
       go_roundg (n - k)
       case measure=>omega
       case rel=>exact⟨k+1,b8,A8,n8,c8,E8,k8,f8,by omega,by omega,by go_num,HK9.out,by rw [HL1.out];exact HX9.out,HK29.out,HB9.out⟩
     ·go_simp
      obtain⟨hb,hk7,-⟩:=zav w5 41 #[.bool false,.slice none 0 0,.slice none 0 0]
      refine hK9.out _ _ (Cs.below hHeld hb) (λhHeld=>?_)
      clear hK9 KK
      have hq7:w.heap.size<w5.heap.size/\g3<w5.heap.size/\q6<w5.heap.size:=⟨HK2.out.lt,HK3.out.lt,HK6.out.lt⟩
      have HL3:=lh9 (HL3.out.below hb)
      have HK3:=lh9 (zaa hb HK3.out)
      have HK2:=lh9 (zaa hb HK2.out)
      have HK6:=lh9 (zaa hb HK6.out)
      have HP:=lh9 (HP.out.below hb)
      have HB:=lh9 (zab HB.out hb)
      have HN:=lh9 (HN.out.below hb)
      have HK7:=lh9 hk7
      clear hb hk7
      generalize w5.alloc (.cells #[.bool false,.slice none 0 0,.slice none 0 0] 41)=w7 at*
      generalize w5.heap.size=q7 at*
      refine rc 2 (λKK hK9=>?_)
      go_simp
      (with_reducible refine(zhU (l*x).num b4 A4 n4 c4 _ (HT.out _ HB.out) HN.out (szi (K:=K+K0) (lh9 HZ.out.num) HN.out (by omega))).mono ?_)
      rintro e w5 ⟨b5,A5,n5,c5,E5,k5,f5,rfl,hw5,hb⟩
      refine hK9.out _ _ (Cs.below hHeld hb) (λhHeld=>?_)
      clear hK9 KK
      have HL3:=lh9 (HL3.out.below hb)
      have HK3:=lh9 (zaa hb HK3.out)
      have HK2:=lh9 (zaa hb HK2.out)
      have HK6:=lh9 (zaa hb HK6.out)
      have HP:=lh9 (HP.out.below hb)
      have HB:=lh9 (zab HB.out hb)
      have HK7:=lh9 (zaa hb HK7.out)
      have HW:=lh9 hw5
      clear hw5 HN
      clear hb
      refine rc 4 (λKK hK9=>?_)
      go_simp
      (with_reducible refine(zhv (((l*x).num:Int):Rat) (l*x) b5 A5 n5 c5 E5 k5 f5 b3 A3 n3 c3 E3 k3 f3 _ (HT.out _ HB.out) HW.out HP.out (HZN.out.fit HW.out (by omega)) (HZ.out.fit HP.out (by omega)) HNZ.out).mono ?_)
      rintro e w5 ⟨b6,A6,n6,c6,E6,k6,f6,rfl,hw6,hb⟩
      refine hK9.out _ _ (Cs.below hHeld hb) (λhHeld=>?_)
      clear hK9 KK
      have HL3:=lh9 (HL3.out.below hb)
      have HK3:=lh9 (zaa hb HK3.out)
      have HK2:=lh9 (zaa hb HK2.out)
      have HK6:=lh9 (zaa hb HK6.out)
      have HP:=lh9 (HP.out.below hb)
      have HB:=lh9 (zab HB.out hb)
      have HK7:=lh9 (zaa hb HK7.out)
      rw [HND.out] at hw6
      have HR:=lh9 hw6
      clear hw6 HW
      clear hb
      refine tk 5 ?_
      refine tk 6 ?_
      refine tk 7 ?_
      have hk7:=HK7.out
      obtain⟨sc0,sf0,sc1,sf1,sc2,sf2⟩:=st3 hk7 (.bool b6) (.slice A6 n6 c6)
      refine rc 9 (λKK hK9=>?_)
      go_simp
      have hfar:=zef w5 q7 (.bool b6) (.slice A6 n6 c6) (.slice E6 k6 f6)
      refine hK9.out _ _ (Cs.far hHeld hfar ⟨(by show q6≠q7;omega),(by show q6≠q7;omega),(by show q6≠q7;omega),trivial⟩) (λhHeld=>?_)
      clear hK9 KK hfar sc0 sf0 sc1 sf1 sc2 sf2
      have HL3:=lh9 (zbN HL3.out hk7 (NoU.s3 _ _ _ _ _ _ _) (zef _ _ (.bool b6) (.slice A6 n6 c6) (.slice E6 k6 f6)))
      have HR:=lh9 (zbN HR.out hk7 (NoU.s3 _ _ _ _ _ _ _) (zef _ _ (.bool b6) (.slice A6 n6 c6) (.slice E6 k6 f6)))
      have HK3:=lh9 (Blk.far3 HK3.out (show g3≠q7 by omega) (.bool b6) (.slice A6 n6 c6) (.slice E6 k6 f6))
      have HK2:=lh9 (Blk.far3 HK2.out (show w.heap.size≠q7 by omega) (.bool b6) (.slice A6 n6 c6) (.slice E6 k6 f6))
      have HB:=lh9 (bl3 (.bool b6) (.slice A6 n6 c6) (.slice E6 k6 f6) (show w.heap.size<=q7 by omega) HB.out)
      have HK7:=lh9 (sn3 hk7 (.bool b6) (.slice A6 n6 c6) (.slice E6 k6 f6))
      clear hk7 HP HK6
      refine tk 10 ?_
      refine rdn ?_
      clear hHeld
      generalize ((w5.setCell ⟨q7,0,none⟩ (.bool b6)).setCell ⟨q7,1,none⟩ (.slice A6 n6 c6)).setCell ⟨q7,2,none⟩ (.slice E6 k6 f6)=W8 at*
      obtain⟨p0,p1,p2⟩:=HK7.out.c3
      obtain⟨g0,g1,g2⟩:=HK3.out.c3
      go_wp2_with fail
      (with_reducible refine(zeH (HT.out _ HB.out) HL3.out HR.out HSK.out HZD.out).mono ?_)
      rintro e w9 ⟨b8,A8,n8,c8,E8,k8,f8,rfl,hw8,hb⟩
      clear p0 p1 p2 g0 g1 g2
      rw [<-e1] at hw8
      have hk3:=zaa hb HK3.out
      have hk2:=zaa hb HK2.out
      have hB:=zab HB.out hb
      obtain⟨sc0,sf0,sc1,sf1,sc2,sf2⟩:=st3 hk3 (.bool b8) (.slice A8 n8 c8)
      have HX9:=lh9 (zbN hw8 hk3 (NoU.s3 _ _ _ _ _ _ _) (zef _ _ (.bool b8) (.slice A8 n8 c8) (.slice E8 k8 f8)))
      have HK9:=lh9 (sn3 hk3 (.bool b8) (.slice A8 n8 c8) (.slice E8 k8 f8))
      have HK29:=lh9 (Blk.far3 hk2 (show w.heap.size≠g3 by omega) (.bool b8) (.slice A8 n8 c8) (.slice E8 k8 f8))
      have HB9:=lh9 (bl3 (.bool b8) (.slice A8 n8 c8) (.slice E8 k8 f8) (show w.heap.size<=g3 by omega) hB)
      clear hb hw8 hk3 hk2 hB HB HK2 HK3 HK7 HL3 HR
      go_wp2
      go_roundg (n - k)
      case measure=>omega
      case rel=>exact⟨k+1,b8,A8,n8,c8,E8,k8,f8,by omega,by omega,by go_num,HK9.out,by rw [HL1.out];exact HX9.out,HK29.out,HB9.out⟩
    ·go_simp
     obtain⟨hb,hk7,-⟩:=zav D 41 #[.bool false,.slice none 0 0,.slice none 0 0]
     refine hK9.out _ _ (Cs.below hHeld hb) (λhHeld=>?_)
     clear hK9 KK
     have hq7:w.heap.size<D.heap.size/\g3<D.heap.size/\q6<D.heap.size:=⟨HK2.out.lt,HK3.out.lt,HK6.out.lt⟩
     have HL3:=lh9 (HL3.out.below hb)
     have HK3:=lh9 (zaa hb HK3.out)
     have HK2:=lh9 (zaa hb HK2.out)
     have HK6:=lh9 (zaa hb HK6.out)
     have HP:=lh9 (HP.out.below hb)
     have HB:=lh9 (zab HB.out hb)
     have HK7:=lh9 hk7
     clear hb hk7
     generalize D.alloc (.cells #[.bool false,.slice none 0 0,.slice none 0 0] 41)=w7 at*
     generalize D.heap.size=q7 at*
     refine rc 1 (λKK hK9=>?_)
     go_simp
     (with_reducible refine(zmc (l*x) b3 A3 n3 c3 E3 k3 f3 _ (HT.out _ HB.out) HP.out (HZ.out.fit HP.out (by omega))).mono ?_)
     rintro e w5 ⟨b4,A4,n4,c4,rfl,hw4,hb⟩
     refine hK9.out _ _ (Cs.below hHeld hb) (λhHeld=>?_)
     clear hK9 KK
     have HL3:=lh9 (HL3.out.below hb)
     have HK3:=lh9 (zaa hb HK3.out)
     have HK2:=lh9 (zaa hb HK2.out)
     have HK6:=lh9 (zaa hb HK6.out)
     have HP:=lh9 (HP.out.below hb)
     have HB:=lh9 (zab HB.out hb)
     have HK7:=lh9 (zaa hb HK7.out)
     have HN:=lh9 hw4
     clear hw4
     clear hb
     refine rc 2 (λKK hK9=>?_)
     go_simp
     (with_reducible refine(zhU (l*x).num b4 A4 n4 c4 _ (HT.out _ HB.out) HN.out (szi (K:=K+K0) (lh9 HZ.out.num) HN.out (by omega))).mono ?_)
     rintro e w5 ⟨b5,A5,n5,c5,E5,k5,f5,rfl,hw5,hb⟩
     refine hK9.out _ _ (Cs.below hHeld hb) (λhHeld=>?_)
     clear hK9 KK
     have HL3:=lh9 (HL3.out.below hb)
     have HK3:=lh9 (zaa hb HK3.out)
     have HK2:=lh9 (zaa hb HK2.out)
     have HK6:=lh9 (zaa hb HK6.out)
     have HP:=lh9 (HP.out.below hb)
     have HB:=lh9 (zab HB.out hb)
     have HK7:=lh9 (zaa hb HK7.out)
     have HW:=lh9 hw5
     clear hw5 HN
     clear hb
     refine rc 4 (λKK hK9=>?_)
     go_simp
     (with_reducible refine(zhv (((l*x).num:Int):Rat) (l*x) b5 A5 n5 c5 E5 k5 f5 b3 A3 n3 c3 E3 k3 f3 _ (HT.out _ HB.out) HW.out HP.out (HZN.out.fit HW.out (by omega)) (HZ.out.fit HP.out (by omega)) HNZ.out).mono ?_)
     rintro e w5 ⟨b6,A6,n6,c6,E6,k6,f6,rfl,hw6,hb⟩
     refine hK9.out _ _ (Cs.below hHeld hb) (λhHeld=>?_)
     clear hK9 KK
     have HL3:=lh9 (HL3.out.below hb)
     have HK3:=lh9 (zaa hb HK3.out)
     have HK2:=lh9 (zaa hb HK2.out)
     have HK6:=lh9 (zaa hb HK6.out)
     have HP:=lh9 (HP.out.below hb)
     have HB:=lh9 (zab HB.out hb)
     have HK7:=lh9 (zaa hb HK7.out)
     rw [HND.out] at hw6
     have HR:=lh9 hw6
     clear hw6 HW
     clear hb
     refine tk 5 ?_
     refine tk 6 ?_
     refine tk 7 ?_
     have hk7:=HK7.out
     obtain⟨sc0,sf0,sc1,sf1,sc2,sf2⟩:=st3 hk7 (.bool b6) (.slice A6 n6 c6)
     refine rc 9 (λKK hK9=>?_)
     go_simp
     have hfar:=zef w5 q7 (.bool b6) (.slice A6 n6 c6) (.slice E6 k6 f6)
     refine hK9.out _ _ (Cs.far hHeld hfar ⟨(by show q6≠q7;omega),(by show q6≠q7;omega),(by show q6≠q7;omega),trivial⟩) (λhHeld=>?_)
     clear hK9 KK hfar sc0 sf0 sc1 sf1 sc2 sf2
     have HL3:=lh9 (zbN HL3.out hk7 (NoU.s3 _ _ _ _ _ _ _) (zef _ _ (.bool b6) (.slice A6 n6 c6) (.slice E6 k6 f6)))
     have HR:=lh9 (zbN HR.out hk7 (NoU.s3 _ _ _ _ _ _ _) (zef _ _ (.bool b6) (.slice A6 n6 c6) (.slice E6 k6 f6)))
     have HK3:=lh9 (Blk.far3 HK3.out (show g3≠q7 by omega) (.bool b6) (.slice A6 n6 c6) (.slice E6 k6 f6))
     have HK2:=lh9 (Blk.far3 HK2.out (show w.heap.size≠q7 by omega) (.bool b6) (.slice A6 n6 c6) (.slice E6 k6 f6))
     have HB:=lh9 (bl3 (.bool b6) (.slice A6 n6 c6) (.slice E6 k6 f6) (show w.heap.size<=q7 by omega) HB.out)
     have HK7:=lh9 (sn3 hk7 (.bool b6) (.slice A6 n6 c6) (.slice E6 k6 f6))
     clear hk7 HP HK6
     refine tk 10 ?_
     refine rdn ?_
     clear hHeld
     generalize ((w5.setCell ⟨q7,0,none⟩ (.bool b6)).setCell ⟨q7,1,none⟩ (.slice A6 n6 c6)).setCell ⟨q7,2,none⟩ (.slice E6 k6 f6)=W8 at*
     obtain⟨p0,p1,p2⟩:=HK7.out.c3
     obtain⟨g0,g1,g2⟩:=HK3.out.c3
     go_wp2_with fail
     (with_reducible refine(zeH (HT.out _ HB.out) HL3.out HR.out HSK.out HZD.out).mono ?_)
     rintro e w9 ⟨b8,A8,n8,c8,E8,k8,f8,rfl,hw8,hb⟩
     clear p0 p1 p2 g0 g1 g2
     rw [<-e1] at hw8
     have hk3:=zaa hb HK3.out
     have hk2:=zaa hb HK2.out
     have hB:=zab HB.out hb
     obtain⟨sc0,sf0,sc1,sf1,sc2,sf2⟩:=st3 hk3 (.bool b8) (.slice A8 n8 c8)
     have HX9:=lh9 (zbN hw8 hk3 (NoU.s3 _ _ _ _ _ _ _) (zef _ _ (.bool b8) (.slice A8 n8 c8) (.slice E8 k8 f8)))
     have HK9:=lh9 (sn3 hk3 (.bool b8) (.slice A8 n8 c8) (.slice E8 k8 f8))
     have HK29:=lh9 (Blk.far3 hk2 (show w.heap.size≠g3 by omega) (.bool b8) (.slice A8 n8 c8) (.slice E8 k8 f8))
     have HB9:=lh9 (bl3 (.bool b8) (.slice A8 n8 c8) (.slice E8 k8 f8) (show w.heap.size<=g3 by omega) hB)
     clear hb hw8 hk3 hk2 hB HB HK2 HK3 HK7 HL3 HR
     go_wp2
     go_roundg (n - k)
     case measure=>omega
     case rel=>exact⟨k+1,b8,A8,n8,c8,E8,k8,f8,by omega,by omega,by go_num,HK9.out,by rw [HL1.out];exact HX9.out,HK29.out,HB9.out⟩
  ·have hk:k=n:=by omega
   subst hk
   have hd1:decide ((k:Int)<(k:Int))=false:=by simp
   rw [HWA.out] at hx3
   obtain⟨g0,g1,g2⟩:=hk3.c3
   obtain⟨sc0,sf0,sc1,sf1,sc2,sf2⟩:=st3 hk2 (.bool b) (.slice B m d)
   obtain⟨r0,r1,r2⟩:=(sn3 hk2 (.bool b) (.slice B m d) (.slice E u v)).c3
   have HG:=lh9 (gq3 hx3 hk2 hB (Nat.le_refl _))
   clear hx3 hk3 hk2 hB
   go_wp2
   refine bodyPost_ret (v:=.agg #[.bool b,.slice B m d,.slice E u v]) (by simp [results,Tryz.results131,go_sem,r0,r1,r2]) rfl ?_
   exact HG.out
