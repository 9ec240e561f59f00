/- What this claim leans on. -/
import Derived.Test.YtcojjcjgbepicaaGreatDoorKEAwake
namespace Go.Proofs.YtcojjcjgbepicaaGreatDoor
open Go Go.RowKit
set_option maxHeartbeats 16000000
set_option maxRecDepth 100000
set_option linter.unusedVariables false
set_option linter.unusedSimpArgs false
theorem elimKernel_core (z0:Nat)(A0:oA9)(n0 c0:Nat)(R0:RowV)(w:World)(hz0:z0<=255)(h0:zba w A0 n0 c0 R0)(hT:zai w):
  Calls Tryz.prog 8 #[.agg #[.int .u8 (z0:Int),.slice A0 n0 c0]] w λe w'=>e=.returned (.bool true)/\Below w.heap.size w w':=by
 have HMK:=lh9 (λW (hb:Below w.heap.size w W)=>zmV (hT.on hb) hz0 (h0.below hb))
 have HZ:=lh9 (zlr (m:=z0%7) h0 (Nat.min_le_left n0 6))
 have HD:=lh9 (ziu (z0%7) R0 (min n0 6))
 obtain⟨m,hm0⟩:∃m,z0%7=m:=⟨_,rfl⟩
 obtain⟨N,hN0⟩:∃N,min n0 6=N:=⟨_,rfl⟩
 have bm:m<=6:=by omega
 have bN:N<=6:=by omega
 rw [hm0,hN0] at HMK HZ HD
 obtain⟨X,hX0⟩:∃X,zit m R0 N=X:=⟨_,rfl⟩
 rw [hX0] at HMK HZ HD
 clear hX0 hm0 hN0
 have HW:Hid (zbZ 8 X):=(zbZ.of_sz HZ.out HD.out).up (by omega)
 have HRZ:Hid (zaB 1174 (zcY m X)):=(zgL HD.out (by omega:N<=64) HW.out).1.up (by omega)
 have HKO:=lh9 (ker_ok HD.out)
 have HKZ:=lh9 (ker_sz HD.out HRZ.out (by decide))
 have HKW:Hid (zbZ 8219 (zcd m (zaE m X).ld (zcY m X) m)):=(zbZ.of_sz HKZ.out HKO.out.dims).up (by omega)
 have HLT:Hid (∀l ∈(zaE m X).ld,l<m):=ok_lt (zcn HD.out)
 have HRED1:Hid (∀(w':World) (A:oA9) (c:Nat),zai w'->zaU w' A N c m X->Hid (Calls Tryz.prog 40 #[.agg #[.slice A N c,.int .i64 (m:Int)]] w' (zgr w' N m (zcY m X) (zaE m X).ld))):=λw' A c ht h=>zgA ht h HZ.out HW.out (by decide) (by decide) (by decide)
 have HKER:Hid (∀(w':World) (A:oA9) (c:Nat),zai w'->zaU w' A N c m X->Hid (Calls Tryz.prog 51 #[.agg #[.slice A N c,.int .i64 (m:Int)]] w' (zia w' m (zcd m (zaE m X).ld (zcY m X) m)))):=λw' A c ht h=>zlj ht h HZ.out HW.out (by decide) (by decide) (by decide)
 have HIND:Hid (∀(w':World) (Q:oA9) (k q:Nat),k=(zcd m (zaE m X).ld (zcY m X) m).length->zai w'->zay (zaN zah) w' Q k (zcd m (zaE m X).ld (zcY m X) m)->Hid (Calls Tryz.prog 33 #[.int .i64 (m:Int),.slice Q k q] w' (λeo w2=>eo=.returned (.bool true)/\Below w'.heap.size w' w2))):=λw' Q k q hk ht h=>by
  subst hk
  exact zmH true (decide_eq_true HKO.out.rank) ht h HKO.out.dims (by have:=HKO.out.len;omega) (by omega) HKZ.out HKW.out (by decide) (by decide) (by decide)
 obtain⟨RM,hRM⟩:∃RM,zcY m X=RM:=⟨_,rfl⟩
 obtain⟨ld,hld⟩:∃ld,(zaE m X).ld=ld:=⟨_,rfl⟩
 rw [hRM] at HRED1
 rw [hld] at HRED1 HLT
 rw [hRM,hld] at HKO HKZ HKER HIND
 obtain⟨KM,hKM⟩:∃KM,zcd m ld RM m=KM:=⟨_,rfl⟩
 rw [hKM] at HKO HKZ HKER HIND
 clear hRM hld hKM HKW HRZ HW
 have HT:=lh9 (λw' (hb:Below w.heap.size w w')=>hT.on hb)
 clear hT h0 hz0
 go_enter Tryz.func8,Tryz.ntmps8
 obtain⟨bx1,bx2,-⟩:=zax w 24 #[.int .u8 (z0:Int),.slice A0 n0 c0]
 have HB:=lh9 bx1
 have HK1:=lh9 bx2
 clear bx1 bx2
 go_wp2_with fail
 generalize w.alloc (.cells #[.int .u8 (z0:Int),.slice A0 n0 c0] 24)=W1 at*
 (with_reducible refine(zlA (HT.out _ HB.out)).mono ?_)
 rintro e W2 ⟨rfl,hb⟩
 have HB:=lh9 (zaa HB.out hb)
 obtain⟨p0,p1⟩:=(zab hb HK1.out).c2
 clear hb HK1
 go_wp2_with fail
 clear p0 p1
 (with_reducible refine(HMK.out _ HB.out).mono ?_)
 rintro e W3 ⟨A3,c3,rfl,hm3,-,hb⟩
 obtain⟨bx1,bx2,-⟩:=zax W3 32 #[.slice A3 N c3,.int .i64 (m:Int)]
 have HB:=lh9 (zaa HB.out (zaa hb bx1))
 have HM:=lh9 (hm3.keep bx1)
 have HK3:=lh9 bx2
 obtain⟨p0,p1⟩:=HK3.out.c2
 clear hb bx1 bx2 hm3 HMK
 go_wp2_with fail
 generalize W3.alloc (.cells #[.slice A3 N c3,.int .i64 (m:Int)] 32)=W4 at*
 generalize W3.heap.size=q3 at*
 clear p0 p1
 (with_reducible refine(HRED1.out _ A3 c3 (HT.out _ HB.out) HM.out).out.mono ?_)
 rintro e W5 ⟨A5,c5,B5,k5,cB5,rfl,hk5,hm5,hI5,hc5,hc6,hb⟩
 obtain⟨bx1,bx2,-⟩:=zax W5 32 #[.slice A5 N c5,.int .i64 (m:Int)]
 have hbx:=zaa hb bx1
 have HB:=lh9 (zaa HB.out hbx)
 have HM:=lh9 (HM.out.keep hbx)
 have HK3:=lh9 (zab hbx HK3.out)
 have HI:=lh9 (hI5.keep bx1)
 have HKL:=lh9 hk5
 obtain⟨p0,p1⟩:=HK3.out.c2
 clear hb bx1 bx2 hbx hm5 hI5 HRED1 hk5
 go_wp2_with fail
 generalize W5.alloc (.cells #[.slice A5 N c5,.int .i64 (m:Int)] 32)=W6 at*
 generalize W5.heap.size=q4 at*
 clear p0 p1
 (with_reducible refine(HKER.out _ A3 c3 (HT.out _ HB.out) HM.out).out.mono ?_)
 rintro e W7 ⟨A7,k7,c7,rfl,hk7,hL7,-,hc7,hc8,hb⟩
 have HB:=lh9 (zaa HB.out hb)
 have HM:=lh9 (HM.out.keep hb)
 have HK3:=lh9 (zab hb HK3.out)
 have HI:=lh9 (HI.out.keep hb)
 have HL:=lh9 hL7
 have HKK:=lh9 hk7
 have HIND:=lh9 (λw' ht h=>(HIND.out w' A7 k7 c7 hk7 ht h).out)
 have hsm:k7+k5=m:=by rw [hk7,HKL.out];exact HKO.out.len
 have HT:=lh9 (λw' (hb:Below W7.heap.size W7 w')=>HT.out w' (zaa HB.out hb))
 have HM:=lh9 (λw' (hb:Below W7.heap.size W7 w')=>HM.out.keep hb)
 have HI:=lh9 (λw' (hb:Below W7.heap.size W7 w')=>HI.out.keep hb)
 have HK3:=lh9 (λw' (hb:Below W7.heap.size W7 w')=>zab hb HK3.out)
 have HLB:=lh9 (λw' (hb:Below W7.heap.size W7 w')=>HL.out.below (zam zaf) hb)
 have HBW:=lh9 (λw' (hb:Below W7.heap.size W7 w')=>zaa HB.out hb)
 have HB:=lh9 (Below.refl W7.heap.size W7)
 obtain⟨p0,p1⟩:=(HK3.out _ HB.out).c2
 have i9:(m:Int) - (k5:Int)=(k7:Int):=by omega
 have b5:k5<=6:=by omega
 have b7:k7<=6:=by omega
 clear hb hL7 HKER hk7 hsm
 go_wp2_with fail
 (with_reducible refine(zbw A3 N c3 (m:Int) _).mono ?_)
 rintro e X0 ⟨rfl,hb⟩
 have HB:=lh9 (zaa HB.out hb)
 clear p0 p1
 obtain⟨p0,p1⟩:=(HK3.out _ HB.out).c2
 clear hb
 go_wp2_with fail
 (with_reducible refine(zbw A3 N c3 (m:Int) _).mono ?_)
 rintro e X1 ⟨rfl,hb⟩
 have HB:=lh9 (zaa HB.out hb)
 clear p0 p1
 clear hb
 go_wp2_with fail
 (with_reducible refine(HIND.out _ (HT.out _ HB.out) (HLB.out _ HB.out)).mono ?_)
 rintro e X2 ⟨rfl,hb⟩
 have HB:=lh9 (zaa HB.out hb)
 clear hb HIND HLB i9
 go_wp2_with fail
 have hB:=HB.out
 clear HB
 go_loopg [7] (k7+1) (λg ix wr=>∃(i:Nat),i<=k7/\k7<g+i/\ix=.int .i64 i/\Below W7.heap.size W7 wr)
 case atStart=>exact⟨0,Nat.zero_le _,by omega,rfl,hB⟩
 case round=>
  clear hB
  obtain⟨i,hik,hg,rfl,hB⟩:=hrel
  have HB:=lh9 hB
  clear hB
  by_cases hlt:i<k7
  ·have hd1:decide ((i:Int)<(k7:Int))=true:=decide_eq_true (by omega)
   have i0:(0:Int)<=(i:Int):=by omega
   have i1:(i:Int)<(k7:Int):=by omega
   have hiK:i<KM.length:=by rw [<-HKK.out];exact hlt
   have HYZ:Hid (zar 1174 (KM.getD i [])):=HKZ.out.row hiK
   have hyl:(KM.getD i []).length=m:=HKO.out.dims.row hiK
   have HTE:=lh9 (decide_eq_true (HKO.out.zero i hiK))
   have HTS:Hid (zar 7057 (zdh X (KM.getD i []))):=(times_sz HZ.out HYZ.out (k:=m) HD.out.cols hyl).up (by omega)
   obtain⟨cc,hcm,hcn,hone⟩:=HKO.out.one i hiK
   have HON:=lh9 hone
   have HCN:=lh9 hcn
   obtain⟨ad,B,d,hA,-,hcB,hvB⟩:=HL.out.get (m:=m) (zam zaf) (Below.refl W7.heap.size W7) (i:=i) hlt hyl
   obtain⟨Y,hY⟩:∃Y,KM.getD i []=Y:=⟨_,rfl⟩
   rw [hY] at HYZ HTE HTS hvB
   simp only [hY] at HON
   have hvB:zaC W7 B m d Y:=hvB
   have HCB:=lh9 (λw' (hb:Below W7.heap.size W7 w')=>zac hb hcB)
   have HVB:=lh9 (λw' (hb:Below W7.heap.size W7 w')=>hvB.keep hb)
   subst hA
   clear hone hcn hcB hvB hY hyl
   obtain⟨p0,p1⟩:=(HK3.out _ HB.out).c2
   have hc:=HCB.out _ HB.out
   go_wp2_with fail
   have hbd:=(Below.refl wr.heap.size wr).drew
   have HB:=lh9 (zaa HB.out hbd)
   refine rg (csc p0 (csc p1 (csc hc csn))) (λhHeld=>?_)
   clear p0 p1 hc hbd
   generalize wr.drew=D9 at*
   refine tk 0 ?_
   refine tk 1 ?_
   refine tk 2 ?_
   refine tk 3 ?_
   refine tk 4 ?_
   refine rc 5 (λKK hK=>?_)
   go_simp
   (with_reducible refine(zoW (K:=1) (K':=1174) (HT.out _ HB.out) (HM.out _ HB.out) (HVB.out _ HB.out) HZ.out HYZ.out (by decide) (by decide) (by omega)).mono ?_)
   rintro e X3 ⟨g8,rfl,-,ho8,hb⟩
   refine hK.out _ _ (Cs.below hHeld hb) (λhHeld=>?_)
   clear hK KK
   have HB:=lh9 (zaa HB.out hb)
   have HV8:=lh9 (zaI ho8)
   clear hb ho8
   refine tk 6 ?_
   refine tk 7 ?_
   refine tk 8 ?_
   refine tk 9 ?_
   refine tk 10 ?_
   refine rdn ?_
   clear hHeld
   go_wp2_with fail
   (with_reducible refine(vec_zero HTE.out (HT.out _ HB.out) HV8.out HTS.out (by omega) (by decide)).mono ?_)
   rintro e X4 ⟨rfl,hb⟩
   have HB:=lh9 (zaa HB.out hb)
   clear hb HV8 HTE HTS
   go_wp2_with fail
   have hB:=HB.out
   clear HB
   go_loopg [10,11] (m+1) (λg ol ix wr=>∃(j:Nat) (o:Int),j<=m/\m<g+j/\ix=.int .i64 j/\ol=.int .i64 o/\Hid (o=if cc<j then 1 else 0)/\Below W7.heap.size W7 wr)
   case atStart=>exact⟨0,0,Nat.zero_le _,by omega,rfl,rfl,by show _=_;rw [if_neg (by omega)],hB⟩
   case round=>
    clear hB
    obtain⟨j,o,hjm,hg2,rfl,rfl,hoe,hB⟩:=hrel
    have HB:=lh9 hB
    have HO:=lh9 hoe.out
    clear hB hoe
    obtain⟨p0,p1⟩:=(HK3.out _ HB.out).c2
    by_cases hlj:j<m
    ·have hd2:decide ((j:Int)<(m:Int))=true:=decide_eq_true (by omega)
     go_wp2_with fail
     (with_reducible refine(zbw A3 N c3 (m:Int) _).mono ?_)
     rintro e X5 ⟨rfl,hb⟩
     have HB:=lh9 (zaa HB.out hb)
     clear p0 p1
     clear hb
     go_wp2_with fail
     have hB:=HB.out
     clear HB
     go_loopg [12,13] (k5+1) (λg bl ix wr=>∃(l:Nat) (b:Bool),l<=k5/\k5<g+l/\ix=.int .i64 l/\bl=.bool b/\Hid (Seen b ld l j)/\Below W7.heap.size W7 wr)
     case atStart=>exact⟨0,false,Nat.zero_le _,by omega,rfl,rfl,⟨λh=>absurd h (by decide),fun⟨q,hq,_⟩=>absurd hq (by omega)⟩,hB⟩
     case round=>
      clear hB
      obtain⟨l,b,hlk,hg3,rfl,rfl,hbe,hB⟩:=hrel
      have HB:=lh9 hB
      have HBE:=lh9 hbe.out
      clear hB hbe
      by_cases hll:l<k5
      ·have hd3:decide ((l:Int)<(k5:Int))=true:=decide_eq_true (by omega)
       cases b
       ·have hlL:l<ld.length:=by rw [<-HKL.out];exact hll
        have i2:(0:Int)<=(l:Int):=by omega
        have i3:(l:Int)<(k5:Int):=by omega
        obtain⟨ae,hae,hc⟩:=(HI.out _ HB.out).num l hll
        rw [zmX hlL] at hc
        obtain⟨v,hv⟩:∃v,ld.getD l 0=v:=⟨_,rfl⟩
        rw [hv] at hc
        by_cases hvj:v=j
        ·have HBE2:Hid (Seen true ld (l+1) j):=⟨λ_=>⟨l,by omega,hv.trans hvj⟩,λ_=>rfl⟩
         subst hvj
         subst hae
         clear hv HBE
         go_wp2
         go_roundg (k5 - l)
         case measure=>omega
         case rel=>exact⟨l+1,true,by omega,by omega,by go_num,rfl,HBE2,HB.out⟩
        ·have HBE2:Hid (Seen false ld (l+1) j):=⟨λh=>absurd h (by decide),fun⟨q,hq,e⟩=>by
          by_cases e2:q=l
          ·rw [e2] at e;exact absurd (hv.symm.trans e) hvj
          ·exact HBE.out.2 ⟨q,by omega,e⟩⟩
         have hd4:((v:Int)==(j:Int))=false:=by rw [beq_eq_false_iff_ne];omega
         subst hae
         clear hv HBE
         go_wp2
         go_roundg (k5 - l)
         case measure=>omega
         case rel=>exact⟨l+1,false,by omega,by omega,by go_num,rfl,HBE2,HB.out⟩
       ·have HBE2:Hid (Seen true ld (l+1) j):=⟨λ_=>by obtain⟨q,hq,e⟩:=HBE.out.1 rfl;exact⟨q,by omega,e⟩,λ_=>rfl⟩
        clear HBE
        go_wp2
        go_roundg (k5 - l)
        case measure=>omega
        case rel=>exact⟨l+1,true,by omega,by omega,by go_num,rfl,HBE2,HB.out⟩
      ·have hd3:decide ((l:Int)<(k5:Int))=false:=decide_eq_false (by omega)
       have hle:l=ld.length:=by rw [<-HKL.out];omega
       have hmem:(∃q,q<l/\ld.getD q 0=j)↔j ∈ ld:=by
        rw [hle]
        exact⟨fun⟨q,hq,e⟩=>e▸zcE hq,λh=>zdJ h⟩
       have HBE2:Hid (b=true↔j ∈ ld):=HBE.out.trans hmem
       clear hle hmem HBE
       cases b
       ·have hjn:j ∉ ld:=λh=>absurd (HBE2.out.2 h) (by decide)
        have HVJ:=lh9 (HON.out j hlj hjn)
        have i2:(0:Int)<=(j:Int):=by omega
        have i3:(j:Int)<(m:Int):=by omega
        have hc:=HCB.out _ HB.out
        obtain⟨ae,b1,B1,m1,d1,E1,u1,v1,hae,-,hc0,hc1,hc2,hx⟩:=(HVB.out _ HB.out).get (Below.refl _ _) (i:=j) hlj
        have HX1:=lh9 hx
        have HSZ:Hid (SzQ 1174 (Y.getD j 0)):=HYZ.out.at_ (by rw [(HVB.out _ HB.out).len];exact hlj)
        subst hae
        clear hx hjn HBE2
        by_cases hjc:j=cc
        ·have HO2:Hid (o+1=if cc<j+1 then 1 else 0):=by show _=_;rw [HO.out,if_neg (by omega),if_pos (by omega)];rfl
         have ho0:o=0:=by rw [HO.out,if_neg (by omega)]
         have HY1:Hid (Y.getD j 0=1):=by have:=HVJ.out;rw [if_pos hjc] at this;exact this
         subst ho0
         clear hjc
         go_wp2_with fail
         (with_reducible refine(ziK (t:=false) (decide_eq_false (by rw [HY1.out];decide+kernel)) (HT.out _ HB.out) HX1.out HSZ.out (by decide)).mono ?_)
         rintro e X6 ⟨rfl,hb⟩
         have HB:=lh9 (zaa HB.out hb)
         clear hc hc0 hc1 hc2 HX1
         have hc:=HCB.out _ HB.out
         obtain⟨af,b2,B2,m2,d2,E2,u2,v2,hae,-,hc0,hc1,hc2,hx⟩:=(HVB.out _ HB.out).get (Below.refl _ _) (i:=j) hlj
         obtain rfl:ae=af:=Option.some.inj hae
         have HX1:=lh9 hx
         clear hx hae hb HVJ
         go_wp2_with fail
         (with_reducible refine(znW (λ_ _ h hb=>h.on hb) zbH qc10 1 1 (Y.getD j 0) 1174 b2 B2 m2 d2 E2 u2 v2 _ (by decide) HSZ.out HX1.out (HT.out _ HB.out) (by decide) (by decide) (by decide) (by decide) (by decide) (by rw [HY1.out];decide+kernel)).mono ?_)
         rintro e X7 ⟨rfl,hb⟩
         have HB:=lh9 (zaa HB.out hb)
         clear hb hc hc0 hc1 hc2 HX1 HSZ HO
         go_wp2
         go_roundg (m - j)
         case measure=>omega
         case rel=>exact⟨j+1,1,by omega,by omega,by go_num,rfl,HO2,HB.out⟩
        ·have HO2:Hid (o=if cc<j+1 then 1 else 0):=HO.out.trans (zlL hjc)
         have HY0:Hid (Y.getD j 0=0):=by have:=HVJ.out;rw [if_neg hjc] at this;exact this
         clear hjc
         go_wp2_with fail
         (with_reducible refine(ziK (t:=true) (decide_eq_true HY0.out) (HT.out _ HB.out) HX1.out HSZ.out (by decide)).mono ?_)
         rintro e X8 ⟨rfl,hb⟩
         have HB:=lh9 (zaa HB.out hb)
         clear hb hc hc0 hc1 hc2 HX1 HSZ HO HVJ
         go_wp2
         go_roundg (m - j)
         case measure=>omega
         case rel=>exact⟨j+1,o,by omega,by omega,by go_num,rfl,HO2,HB.out⟩
       ·have hjl:j ∈ ld:=HBE2.out.1 rfl
        have hjc:j≠cc:=λe=>HCN.out (e▸hjl)
        have HO2:Hid (o=if cc<j+1 then 1 else 0):=HO.out.trans (zlL hjc)
        clear HBE2 hjl HO
        go_wp2
        go_roundg (m - j)
        case measure=>omega
        case rel=>exact⟨j+1,o,by omega,by omega,by go_num,rfl,HO2,HB.out⟩
    ·have hd2:decide ((j:Int)<(m:Int))=false:=decide_eq_false (by omega)
     have ho1:o=1:=by rw [HO.out,if_pos (by omega)]
     subst ho1
     go_wp2_with fail
     (with_reducible refine(zbw A3 N c3 (m:Int) _).mono ?_)
     rintro e X9 ⟨rfl,hb⟩
     have HB:=lh9 (zaa HB.out hb)
     clear p0 p1
     clear hb
     clear HO
     go_wp2
     go_roundg (k7 - i)
     case measure=>omega
     case rel=>exact⟨i+1,by omega,by omega,by go_num,HB.out⟩
  ·have hd1:decide ((i:Int)<(k7:Int))=false:=decide_eq_false (by omega)
   have HB:=lh9 (HBW.out _ HB.out)
   go_wp2
   go_ret
   exact⟨rfl,HB.out⟩
