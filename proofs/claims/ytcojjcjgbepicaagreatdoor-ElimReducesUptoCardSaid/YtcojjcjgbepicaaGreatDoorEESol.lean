/- What this claim leans on. -/
import Derived.Test.YtcojjcjgbepicaaGreatDoorEERed
namespace Go.Proofs.YtcojjcjgbepicaaGreatDoor
open Go Go.RowKit
set_option maxHeartbeats 16000000
set_option maxRecDepth 100000
set_option linter.unusedVariables false
set_option linter.unusedSimpArgs false
def ziU (m:Nat)(ld:List Nat)(R:List (List Rat))(i:Nat):List Rat:=(List.range i).foldl (λx r=>x.set (ld.getD r 0) (atM R r m)) (List.replicate m 0)
theorem znH (m:Nat)(ld:List Nat)(R:List (List Rat))(i:Nat):ziU m ld R (i+1)=(ziU m ld R i).set (ld.getD i 0) (atM R i m):=by unfold ziU;rw [List.range_succ,List.foldl_append];rfl
def solX (m:Nat)(ld:List Nat)(R:List (List Rat)):List Rat:=if m ∈ ld then [] else ziU m ld R ld.length
def solN (m:Nat)(ld:List Nat):Int:=if m ∈ ld then 1 else if ld.length<m then 3 else 2
def zgr (w:World)(xs:List Rat)(z:Int)(eo:Ending)(w':World):Prop:=∃(A:oA9) (k c:Nat),eo=.returned (.tuple #[.slice A k c,.int .i64 z,.bool true])/\zaC w' A k c xs/\Below w.heap.size w w'
def zcA (n m p:Nat)(MM:List (List Rat))(xs:List Rat):List (List Rat):=zdy n p λa b=>if b=m then xs.getD a 0 else atM MM a b
theorem zgm (n m p:Nat)(MM:List (List Rat))(xs:List Rat):zaW (zcA n m p MM xs) n p:=zeo _ _ _
theorem zjd {n m p K:Nat}{MM:List (List Rat)}{xs:List Rat}(hp:m+1=p)(hd:zaW MM n m)(h:zaA K MM)(hl:xs.length=n)(hx:zat K xs):zaA K (zcA n m p MM xs):=zaA.tab λr c hr hc=>by
 by_cases e:c=m
 ·rw [if_pos e];exact hx.at_ (by omega)
 ·rw [if_neg e];exact h.at_ hd hr (by omega)
section
variable {w:World}{A:oA9}{n c m K K0:Nat}{MM:List (List Rat)}{V:oA9}{k cv:Nat}{xs:List Rat}
theorem zio {p:Nat}(hp:m+1=p)(hT:zaj w)(h:zaS w A n c m MM)(z:zaA K0 MM)(hv:zaC w V n cv xs)(zx:zat K0 xs)(hm6:m<64)(hW:zbP K (zcA n m p MM xs))(hK:260*K+269<=33554432:=by omega)(hK0:K+K0<=33554432:=by omega)(hKp:0<K:=by omega):
  Calls Tryz.prog 35 #[.agg #[.slice A n c,.int .i64 (m:Int)],.slice V n cv] w (zgr w (solX m (zaJ p (zcA n m p MM xs)).ld (zcG p (zcA n m p MM xs))) (solN m (zaJ p (zcA n m p MM xs)).ld)):=by
 have hn:=h.hn
 have HT:=lh9 (λw' (hb:Below w.heap.size w w')=>hT.on hb)
 have hdW:zaW (zcA n m p MM xs) n p:=zgm n m p MM xs
 have hok:=zcM hdW
 obtain⟨s1,-,-,-⟩:=zgJ hdW hn hW
 have HS1:=lh9 s1
 have HLM:Hid (∀l ∈(zaJ p (zcA n m p MM xs)).ld,l<p):=ok_lt hok
 have HLN:Hid ((zaJ p (zcA n m p MM xs)).ld.length<=n):=ok_len hok
 have HZW:Hid (zaA K0 (zcA n m p MM xs)):=zjd hp h.dims z hv.len zx
 obtain⟨bx1,bx2,-⟩:=zaw w 32 #[.slice A n c,.int .i64 (m:Int)]
 obtain⟨p0,p1⟩:=bx2.c2
 have HWC:Hid (Calls _ _ _ _ (zfw _ n p (zcA n m p MM xs))):=(zlM (K:=K0) hp (hT.on bx1) (h.keep bx1) z (hv.keep bx1) zx hm6 (by omega))
 have HB:=lh9 bx1
 have HK2:=lh9 bx2
 have HREDA:Hid (∀(w':World) (A':oA9) (c':Nat),zaj w'->zaS w' A' n c' p (zcA n m p MM xs)->Hid (Calls Tryz.prog 40 #[.agg #[.slice A' n c',.int .i64 (p:Int)]] w' (zeT w' n p (zcG p (zcA n m p MM xs)) (zaJ p (zcA n m p MM xs)).ld))):=λw' A' c' h1 h2=>zfb h1 h2 HZW.out hW hK hK0 hKp
 obtain⟨ld,hld⟩:∃ld,(zaJ p (zcA n m p MM xs)).ld=ld:=⟨_,rfl⟩
 obtain⟨RM,hRM⟩:∃RM,zcG p (zcA n m p MM xs)=RM:=⟨_,rfl⟩
 rw [hld] at HLM HLN HREDA⊢
 rw [hRM] at HS1 HREDA⊢
 unfold zgr
 clear hT h z hW bx1 bx2 hok s1 hRM hld hv zx hdW HZW
 have i0:(0:Int)<=(m:Int):=by omega
 go_enter Tryz.func35,Tryz.ntmps35
 go_wp2_with fail
 clear p0 p1
 generalize w.alloc (.cells #[.slice A n c,.int .i64 (m:Int)] 32)=W1 at*
 refine HWC.out.mono ?_
 rintro eo w2 ⟨A2,c2,rfl,hm2,-,hb⟩
 obtain⟨bx1,bx2,-⟩:=zaw w2 32 #[.slice A2 n c2,.int .i64 (p:Int)]
 obtain⟨p0,p1⟩:=bx2.c2
 have hbx:=zaa hb bx1
 have HB:=lh9 (zaa HB.out hbx)
 have HK2:=lh9 (zab hbx HK2.out)
 have HRED:=HREDA.out _ A2 c2 (HT.out _ HB.out) (hm2.keep bx1)
 clear hb hm2 bx1 bx2 hbx HWC HREDA
 go_wp2_with fail
 clear p0 p1
 generalize w2.alloc (.cells #[.slice A2 n c2,.int .i64 (p:Int)] 32)=W3 at*
 refine HRED.out.mono ?_
 rintro eo w4 ⟨A4,c4,B4,k4,cB4,rfl,hk4,hm4,hI4,hc3,hc4,hb⟩
 obtain⟨bx1,bx2,-⟩:=zaw w4 32 #[.slice A4 n c4,.int .i64 (p:Int)]
 have hbx:=zaa hb bx1
 have HB:=lh9 (zaa HB.out hbx)
 have HK2:=lh9 (zab hbx HK2.out)
 have HM4:=lh9 (hm4.keep bx1)
 have HI4:=lh9 (hI4.keep bx1)
 have HK9:=lh9 bx2
 have HKK:=lh9 hk4
 obtain⟨p0,p1⟩:=HK2.out.c2
 clear hb hm4 hI4 bx1 bx2 hbx HRED hk4
 go_wp2_with fail
 clear p0 p1
 generalize w4.alloc (.cells #[.slice A4 n c4,.int .i64 (p:Int)] 32)=W5 at*
 generalize w4.heap.size=q9 at*
 refine(zbK A n c (m:Int) _).mono ?_
 rintro eo w6 ⟨rfl,hb⟩
 have HB:=lh9 (zaa HB.out hb)
 have HK2:=lh9 (zab hb HK2.out)
 have HK9:=lh9 (zab hb HK9.out)
 have HM4:=lh9 (HM4.out.keep hb)
 have HI4:=lh9 (HI4.out.keep hb)
 clear hb
 go_wp2_with fail
 by_cases hin:m ∈ ld
 ·have hX:solX m ld RM=[]:=by unfold solX;rw [if_pos hin]
  have hN:solN m ld=1:=by unfold solN;rw [if_pos hin]
  have HX:=lh9 hX
  have HN:=lh9 hN
  refine(zdi (decide_eq_true (zhP.2 hin)) HI4.out (by have:=HKK.out;have:=HLN.out;omega)).mono ?_
  rintro eo w7 ⟨rfl,hb⟩
  have HB:=lh9 (zaa HB.out hb)
  have HV:=lh9 (zaN.nil (E:=zai) w7)
  clear hb hin hX hN
  go_wp2
  refine bodyPost_ret (v:=.tuple #[.slice none 0 0,.int .i64 1,.bool true]) (by simp [results,Tryz.results35,go_sem]) rfl ?_
  exact⟨none,0,0,by rw [HN.out],by rw [HX.out];exact HV.out,HB.out⟩
 ·have hX:solX m ld RM=ziU m ld RM ld.length:=by unfold solX;rw [if_neg hin]
  have hN:solN m ld=if ld.length<m then 3 else 2:=by unfold solN;rw [if_neg hin]
  have HX:=lh9 hX
  have HN:=lh9 hN
  have HLM2:Hid (∀i,i<ld.length->ld.getD i 0<m):=λi hi=>by
   have h1:=HLM.out _ (zeh hi)
   have h2:ld.getD i 0≠m:=λe=>hin (e▸zeh hi)
   omega
  refine(zdi (decide_eq_false (λh9=>hin (zhP.1 h9))) HI4.out (by have:=HKK.out;have:=HLN.out;omega)).mono ?_
  rintro eo w7 ⟨rfl,hb⟩
  have HB:=lh9 (zaa HB.out hb)
  have HK2:=lh9 (zab hb HK2.out)
  have HK9:=lh9 (zab hb HK9.out)
  have HM4:=lh9 (HM4.out.keep hb)
  have HI4:=lh9 (HI4.out.keep hb)
  obtain⟨p0,p1⟩:=HK2.out.c2
  clear hb hin hX hN
  go_wp2_with fail
  clear p0 p1
  refine(zbK A n c (m:Int) _).mono ?_
  rintro eo w8 ⟨rfl,hb⟩
  have HB:=lh9 (zaa HB.out hb)
  have HK2:=lh9 (zab hb HK2.out)
  have HK9:=lh9 (zab hb HK9.out)
  have HM4:=lh9 (HM4.out.keep hb)
  have HI4:=lh9 (HI4.out.keep hb)
  clear hb
  have HM8:=lh9 (λw' (hb:Below w8.heap.size w8 w')=>HM4.out.keep hb)
  have HI8:=lh9 (λw' (hb:Below w8.heap.size w8 w')=>HI4.out.keep hb)
  have HK28:=lh9 (λw' (hb:Below w8.heap.size w8 w')=>zab hb HK2.out)
  have HK98:=lh9 (λw' (hb:Below w8.heap.size w8 w')=>zab hb HK9.out)
  have HT8:=lh9 (λw' (hb:Below w8.heap.size w8 w')=>HT.out w' (zaa HB.out hb))
  have HL2:=lh9 HK2.out.lt
  have HL9:=lh9 HK9.out.lt
  clear HM4 HI4 HK2 HK9 HT
  go_wp2_with fail
  (with_reducible refine(zja m _ (by omega)).mono ?_)
  rintro eo w9 ⟨g9,rfl,hg9,ho9,hB9⟩
  have hx9:zbT w9 g9 m (ziU m ld RM 0):=ho9
  clear ho9
  go_wp2_with fail
  go_loopg [40] (k4+1) (λgg ix wx=>∃(r:Nat),r<=k4/\k4<gg+r/\ix=.int .i64 r/\zbT wx g9 m (ziU m ld RM r)/\Below w8.heap.size w8 wx)
  case atStart=>exact⟨0,Nat.zero_le _,by omega,rfl,hx9,hB9⟩
  case round=>
   clear hx9 hB9
   obtain⟨r,hrk,hg2,rfl,hx,hB7⟩:=hrel
   by_cases hlr:r<k4
   ·have hd3:decide ((r:Int)<(k4:Int))=true:=decide_eq_true (by omega)
    have i1:(0:Int)<=(r:Int):=by omega
    have i2:(r:Int)<(k4:Int):=by omega
    have hrl:r<ld.length:=by rw [<-HKK.out];exact hlr
    have HB7:=lh9 hB7
    obtain⟨ad,hadB,hc⟩:=(HI8.out _ hB7).num r hlr
    rw [zkv hrl] at hc
    have hlm:ld.getD r 0<m:=HLM2.out r hrl
    have HKS:=lh9 (znH m ld RM r)
    obtain⟨l,hl⟩:∃l,ld.getD r 0=l:=⟨_,rfl⟩
    rw [hl] at hc hlm HKS
    have i3:(0:Int)<=(l:Int):=by omega
    have i4:(l:Int)<(m:Int):=by omega
    have hrn:r<n:=by have:=HLN.out;omega
    have hmp:m<p:=by omega
    have HX7:=lh9 hx
    subst hadB
    clear hx hB7 hl
    go_upto_region 11 with fail
    clear hc
    obtain⟨p0,p1⟩:=(HK98.out _ HB7.out).c2
    obtain⟨p2,p3⟩:=(HK28.out _ HB7.out).c2
    have hbd:=(Below.refl wr.heap.size wr).drew
    refine rg (csc p0 (csc p1 (csc p2 (csc p3 csn)))) (λhHeld=>?_)
    have HX7:=lh9 (HX7.out.keep hbd)
    have HB7:=lh9 (zaa HB7.out hbd)
    clear p0 p1 p2 p3 hbd
    generalize wr.drew=D at*
    refine tk 0 ?_
    refine tk 1 ?_
    refine tk 2 ?_
    refine tk 3 ?_
    refine tk 4 ?_
    refine rc 5 (λKK hKQ=>?_)
    go_simp
    refine(zbK A n c (m:Int) _).mono ?_
    rintro eo w11 ⟨rfl,hb⟩
    refine hKQ.out _ _ (Cs.below hHeld hb) (λhHeld=>?_)
    have HX7:=lh9 (HX7.out.keep hb)
    have HB7:=lh9 (zaa HB7.out hb)
    clear hKQ KK hb
    refine rc 6 (λKK hKQ=>?_)
    go_simp
    (with_reducible refine(zkw (HT8.out _ HB7.out) (HM8.out _ HB7.out) HS1.out hrn hmp (by omega)).mono ?_)
    rintro eo w12 ⟨b8,A8,n8,c8,E8,k8,f8,rfl,hw8,hb⟩
    refine hKQ.out _ _ (Cs.below hHeld hb) (λhHeld=>?_)
    have hX9:=HX7.out.keep hb
    have hr4:=zbi.set_ zaf hX9 hlm hw8
    rw [<-HKS.out] at hr4
    obtain⟨q0,q1,q2,sc0,sf0,sc1,sf1,sc2,sf2⟩:=hX9.ready hlm (.bool b8) (.slice A8 n8 c8)
    have HR4:=lh9 hr4
    have HB9:=lh9 (zbQ (l*3) (l*3+1) (l*3+2) (.bool b8) (.slice A8 n8 c8) (.slice E8 k8 f8) hg9 (zaa HB7.out hb))
    clear hKQ KK hb hw8 hX9 hr4 HX7 HB7 HKS
    refine tk 7 ?_
    refine rc 8 (λKK hKQ=>?_)
    go_simp
    refine hKQ.out _ _ (Cs.far hHeld ((((zba.refl g9 w12).set_ (l*3) (.bool b8)).set_ (l*3+1) (.slice A8 n8 c8)).set_ (l*3+2) (.slice E8 k8 f8)) ⟨(by have:=HL9.out;show q9≠g9;omega),(by have:=HL9.out;show q9≠g9;omega),(by have:=HL2.out;show w.heap.size≠g9;omega),(by have:=HL2.out;show w.heap.size≠g9;omega),trivial⟩) (λhHeld=>?_)
    clear hKQ KK sc0 sf0 sc1 sf1 sc2 sf2
    refine rdn ?_
    clear hHeld
    go_wp2
    go_roundg (k4 - r)
    case measure=>omega
    case rel=>exact⟨r+1,by omega,by omega,by go_num,HR4.out,HB9.out⟩
   ·have hk9:r=k4:=by omega
    have hd3:decide ((r:Int)<(k4:Int))=false:=by rw [hk9];simp
    have HXF:Hid (zbT wr g9 m (solX m ld RM)):=by rw [HX.out,<-HKK.out,<-hk9];exact hx
    have HB7:=lh9 hB7
    obtain⟨p2,p3⟩:=(HK28.out _ hB7).c2
    clear hx hB7 hk9
    go_wp2_with fail
    clear p2 p3
    refine(zbK A n c (m:Int) _).mono ?_
    rintro eo w11 ⟨rfl,hb⟩
    have HXF:=lh9 (HXF.out.keep hb)
    have HBF:=lh9 (zaa HB.out (zaa HB7.out hb))
    clear hb HB7
    by_cases hlt:k4<m
    ·have d5:decide ((k4:Int)<(m:Int))=true:=decide_eq_true (by omega)
     have hN3:solN m ld=3:=by rw [HN.out,if_pos (by rw [<-HKK.out];exact hlt)]
     have HN3:=lh9 hN3
     clear hN3
     go_wp2
     refine bodyPost_ret (v:=.tuple #[.slice (some ⟨g9,0,none⟩) m m,.int .i64 3,.bool true]) (by simp [results,Tryz.results35,go_sem]) rfl ?_
     exact⟨_,_,_,by rw [HN3.out],zaD HXF.out,HBF.out⟩
    ·have d5:decide ((k4:Int)<(m:Int))=false:=decide_eq_false (by omega)
     have hN2:solN m ld=2:=by rw [HN.out,if_neg (by rw [<-HKK.out];exact hlt)]
     have HN2:=lh9 hN2
     clear hN2
     go_wp2
     refine bodyPost_ret (v:=.tuple #[.slice (some ⟨g9,0,none⟩) m m,.int .i64 2,.bool true]) (by simp [results,Tryz.results35,go_sem]) rfl ?_
     exact⟨_,_,_,by rw [HN2.out],zaD HXF.out,HBF.out⟩
end
def detE (m:Nat)(MM:List (List Rat)):Rat:=if (zaJ m MM).ld.length<m then 0 else(zaJ m MM).p / zbp MM
theorem zjJ:∀{M:List (List Rat)} {r:Rat},r≠0->M.foldl (λr row=>r*zaK row) r≠0
 |[],_,h=>h
 |L::M,r,h=>by
   rw [List.foldl_cons]
   refine zjJ λe=>?_
   rcases Rat.mul_eq_zero.1 e with e|e
   ·exact h e
   ·exact zjY L e
theorem znq (M:List (List Rat)):zbp M≠0:=zjJ (by decide+kernel)
section
variable {w:World}{A:oA9}{n c m K K0:Nat}{MM:List (List Rat)}
theorem elim_det (hT:zaj w)(h:zaS w A n c m MM)(hnm:n=m)(z:zaA K0 MM)(hW:zbP K MM)(hK:260*K+269<=33554432:=by omega)(hK0:K+K0<=33554432:=by omega)(hKp:0<K:=by omega):
  Calls Tryz.prog 23 #[.agg #[.slice A n c,.int .i64 (m:Int)]] w (zbw w (detE m MM) true):=by
 obtain⟨hn,hm⟩:=And.intro h.hn h.hm
 have HM:=lh9 (λw' (hb:Below w.heap.size w w')=>h.keep hb)
 have HT:=lh9 (λw' (hb:Below w.heap.size w w')=>hT.on hb)
 have HZ:=lh9 z
 have HW:=lh9 hW
 have HD:=lh9 h.dims
 have hok:=zcM h.dims
 obtain⟨s1,s2,s3,s4⟩:=zgJ h.dims hn hW
 have HS2:=lh9 s2
 have HS3:=lh9 s3
 have HRQ:Hid (SzQ (1+64*K) (zbp MM)):=by
  have:=zhf hW MM.length (Nat.le_refl _)
  rw [List.take_length] at this
  exact(this.up (Nat.add_le_add_left (Nat.mul_le_mul_right _ (by rw [h.dims.rows];omega)) _)).szq (by omega)
 have HRN:=lh9 (znq MM)
 obtain⟨bx1,bx2,bx3,-⟩:=zbz w 32 53 #[.slice A n c,.int .i64 (m:Int)] #[.bool false,.slice none 0 0,.slice none 0 0]
 obtain⟨p0,p1⟩:=bx2.c2
 have HB:=lh9 bx1
 have HK1:=lh9 bx2
 have HK2:=lh9 bx3
 have hst:zeO m (zbf MM)=zaJ m MM:=rfl
 have HDE:Hid (detE m MM=if (zaJ m MM).ld.length<m then 0 else(zaJ m MM).p / zbp MM):=rfl
 obtain⟨st,hst2⟩:∃st,zaJ m MM=st:=⟨_,rfl⟩
 rw [hst2] at hst HS2 HS3 HDE
 have HST:=lh9 hst
 have d1:((n:Int) !=(m:Int))=false:=by rw [hnm];simp
 have HNM:=lh9 hnm
 clear h hT z hW bx1 bx2 bx3 hst hst2 hok s1 s2 s3 s4 hnm
 go_enter Tryz.func23,Tryz.ntmps23
 go_wp2_with fail
 generalize (w.alloc (.cells #[.slice A n c,.int .i64 (m:Int)] 32)).alloc (.cells #[.bool false,.slice none 0 0,.slice none 0 0] 53)=W1 at*
 have hbd:=(Below.refl W1.heap.size W1).drew
 refine rg (csc p0 (csc p1 csn)) (λhHeld=>?_)
 have HB:=lh9 (zaa HB.out hbd)
 have HK1:=lh9 (zab hbd HK1.out)
 have HK2:=lh9 (zab hbd HK2.out)
 clear p0 p1 hbd
 generalize W1.drew=D at*
 refine tk 0 ?_
 refine tk 2 ?_
 refine rc 1 (λKK hK9=>?_)
 go_simp
 refine(zbu A n c (m:Int) _).mono ?_
 rintro eo w2 ⟨rfl,hb⟩
 refine hK9.out _ _ (Cs.below hHeld hb) (λhHeld=>?_)
 have HB:=lh9 (zaa HB.out hb)
 have HK1:=lh9 (zab hb HK1.out)
 have HK2:=lh9 (zab hb HK2.out)
 clear hK9 KK hb
 refine rc 3 (λKK hK9=>?_)
 go_simp
 refine(zbK A n c (m:Int) _).mono ?_
 rintro eo w3 ⟨rfl,hb⟩
 refine hK9.out _ _ (Cs.below hHeld hb) (λhHeld=>?_)
 have HB:=lh9 (zaa HB.out hb)
 have HK1:=lh9 (zab hb HK1.out)
 have HK2:=lh9 (zab hb HK2.out)
 clear hK9 KK hb
 refine tk 4 ?_
 refine rdn ?_
 clear hHeld
 go_upto_region 3 with fail
 have hbd:=(Below.refl w3.heap.size w3).drew
 obtain⟨p0,p1⟩:=HK1.out.c2
 refine rg (csc p0 (csc p1 csn)) (λhHeld=>?_)
 have HB:=lh9 (zaa HB.out hbd)
 have HK1:=lh9 (zab hbd HK1.out)
 have HK2:=lh9 (zab hbd HK2.out)
 clear p0 p1 hbd
 generalize w3.drew=D3 at*
 refine tk 0 ?_
 refine tk 2 ?_
 refine rc 1 (λKK hK9=>?_)
 go_simp
 refine(zbK A n c (m:Int) _).mono ?_
 rintro eo w2 ⟨rfl,hb⟩
 refine hK9.out _ _ (Cs.below hHeld hb) (λhHeld=>?_)
 have HB:=lh9 (zaa HB.out hb)
 have HK1:=lh9 (zab hb HK1.out)
 have HK2:=lh9 (zab hb HK2.out)
 clear hK9 KK hb
 refine rc 3 (λKK hK9=>?_)
 go_simp
 (with_reducible refine(zfc (HT.out _ HB.out) (HM.out _ HB.out) HZ.out (by omega)).mono ?_)
 rintro eo w3 ⟨g3,rfl,hg3,ho3,hb⟩
 refine hK9.out _ _ (Cs.below hHeld hb) (λhHeld=>?_)
 have HB:=lh9 (zaa HB.out hb)
 have HK1:=lh9 (zab hb HK1.out)
 have HK2:=lh9 (zab hb HK2.out)
 have HR:=lh9 ho3.rows
 clear hK9 KK hb hg3 ho3
 refine rc 4 (λKK hK9=>?_)
 go_simp
 (with_reducible refine(zgZ (HT.out _ HB.out) HR.out HD.out HZ.out HW.out hn (by omega) (Nat.le_refl _) hK hK0 hKp).mono ?_)
 rintro eo w4 ⟨g4,rfl,hg4,⟨A4,cA4,B4,k4,cB4,z0,z1,z2,u0,u1,u2,hes⟩,hb⟩
 rw [HST.out] at hes
 refine hK9.out _ _ (Cs.below hHeld hb) (λhHeld=>?_)
 have HB:=lh9 (zaa HB.out hb)
 have HK1:=lh9 (zab hb HK1.out)
 have HK2:=lh9 (zab hb HK2.out)
 have HES:=lh9 hes
 clear hK9 KK hb hg4 hes HR
 refine tk 5 ?_
 refine rdn ?_
 clear hHeld
 go_upto_region 4 with fail
 have hbd:=(Below.refl w4.heap.size w4).drew
 obtain⟨p0,p1⟩:=HK1.out.c2
 obtain⟨-,p2,-⟩:=HES.out.cells
 refine rg (csc p0 (csc p1 (csc p2 csn))) (λhHeld=>?_)
 have HB:=lh9 (zaa HB.out hbd)
 have HES:=lh9 (HES.out.below hbd)
 have HK2:=lh9 (zab hbd HK2.out)
 clear p0 p1 p2 hbd HK1
 generalize w4.drew=D4 at*
 refine tk 0 ?_
 refine tk 1 ?_
 refine tk 2 ?_
 refine tk 3 ?_
 refine tk 4 ?_
 refine tk 5 ?_
 refine rc 6 (λKK hK9=>?_)
 go_simp
 refine(zbu A n c (m:Int) _).mono ?_
 rintro eo w5 ⟨rfl,hb⟩
 refine hK9.out _ _ (Cs.below hHeld hb) (λhHeld=>?_)
 have HB:=lh9 (zaa HB.out hb)
 have HES:=lh9 (HES.out.below hb)
 have HK2:=lh9 (zab hb HK2.out)
 clear hK9 KK hb
 refine tk 7 ?_
 refine rdn ?_
 clear hHeld
 have HHK:=lh9 HES.out.hk
 by_cases hlt:k4<n
 ·have d2:decide ((k4:Int)<(n:Int))=true:=decide_eq_true (by omega)
  have hde:detE m MM=0:=by rw [HDE.out,HHK.out,if_pos (by have:=HNM.out;omega)]
  have HD9:=lh9 hde
  obtain⟨sc0,sf0,sc1,sf1,sc2,sf2⟩:=st3 HK2.out (.bool false) (.slice none 0 0)
  obtain⟨r0,r1,r2⟩:=(sn3 HK2.out (.bool false) (.slice none 0 0) (.slice none 0 0)).c3
  have HBF:=lh9 (bl3 (.bool false) (.slice none 0 0) (.slice none 0 0) (show w.heap.size<=w.heap.size+1 by omega) HB.out)
  have HGF:=lh9 (ziN (((w5.setCell ⟨w.heap.size+1,0,none⟩ (.bool false)).setCell ⟨w.heap.size+1,1,none⟩ (.slice none 0 0)).setCell ⟨w.heap.size+1,2,none⟩ (.slice none 0 0)))
  clear HB HK2 HES hde
  go_wp2
  refine bodyPost_ret (v:=.tuple #[.agg #[.bool false,.slice none 0 0,.slice none 0 0],.bool true]) (by simp [results,Tryz.results23,go_sem,r0,r1,r2]) rfl ?_
  exact⟨_,_,_,_,_,_,_,rfl,by rw [HD9.out];exact HGF.out,HBF.out⟩
 ·have d2:decide ((k4:Int)<(n:Int))=false:=decide_eq_false (by omega)
  have hde:detE m MM=st.p / zbp MM:=by rw [HDE.out,HHK.out,if_neg (by have:=HNM.out;omega)]
  have HD9:=lh9 hde
  clear hde
  obtain⟨b6,A6,n6,c6,E6,k6,f6,rfl,rfl,rfl,hr6⟩:=HES.out.lead
  obtain⟨b7,A7,n7,c7,E7,k7,f7,rfl,rfl,rfl,hr7⟩:=HES.out.rsd
  have HNG:Hid (g4≠w.heap.size+1):=λe=>by subst e;exact absurd (zcT HES.out.blk HK2.out) (by decide)
  go_upto_region 6 with fail
  have hbd:=(Below.refl w5.heap.size w5).drew
  obtain⟨-,-,p2,p3,p4,p5,p6,p7⟩:=HES.out.cells
  refine rg (csc p2 (csc p3 (csc p4 (csc p5 (csc p6 (csc p7 csn)))))) (λhHeld=>?_)
  have HB:=lh9 (zaa HB.out hbd)
  have HK2:=lh9 (zab hbd HK2.out)
  have HR6:=lh9 (hr6.below hbd)
  have HR7:=lh9 (hr7.below hbd)
  clear p2 p3 p4 p5 p6 p7 hbd hr6 hr7 HES
  generalize w5.drew=D5 at*
  refine tk 0 ?_
  refine tk 1 ?_
  refine tk 2 ?_
  refine tk 3 ?_
  refine tk 4 ?_
  refine tk 5 ?_
  refine tk 6 ?_
  refine tk 7 ?_
  refine rc 8 (λKK hK9=>?_)
  go_simp
  (with_reducible refine(zgI st.p (zbp MM) b6 A6 n6 c6 E6 k6 f6 b7 A7 n7 c7 E7 k7 f7 _ (HT.out _ HB.out) HR6.out HR7.out (HS2.out.fit HR6.out (by omega)) (HRQ.out.fit HR7.out (by omega)) HRN.out).mono ?_)
  rintro eo w6 ⟨b8,A8,n8,c8,E8,k8,f8,rfl,hw8,hb⟩
  refine hK9.out _ _ (Cs.below hHeld hb) (λhHeld=>?_)
  have HB:=lh9 (zaa HB.out hb)
  have HK2:=lh9 (zab hb HK2.out)
  have HR8:=lh9 hw8
  clear hK9 KK hb hw8 HR6 HR7
  refine tk 9 ?_
  refine tk 10 ?_
  obtain⟨sc0,sf0,sc1,sf1,sc2,sf2⟩:=st3 HK2.out (.bool b8) (.slice A8 n8 c8)
  obtain⟨r0,r1,r2⟩:=(sn3 HK2.out (.bool b8) (.slice A8 n8 c8) (.slice E8 k8 f8)).c3
  have HG:=lh9 (gb3 true HR8.out HK2.out HB.out (show w.heap.size<=w.heap.size+1 by omega))
  refine rc 11 (λKK hK9=>?_)
  go_simp
  refine hK9.out _ _ (Cs.far hHeld (zdM _ _ (.bool b8) (.slice A8 n8 c8) (.slice E8 k8 f8)) ⟨HNG.out,HNG.out,HNG.out,HNG.out,HNG.out,HNG.out,trivial⟩) (λhHeld=>?_)
  clear hK9 KK sc0 sf0 sc1 sf1 sc2 sf2
  refine tk 12 ?_
  refine rdn ?_
  clear hHeld HB HK2 HR8
  go_wp2
  refine bodyPost_ret (v:=.tuple #[.agg #[.bool b8,.slice A8 n8 c8,.slice E8 k8 f8],.bool true]) (by simp [results,Tryz.results23,go_sem,r0,r1,r2]) rfl ?_
  rw [HD9.out]
  exact HG.out
end
