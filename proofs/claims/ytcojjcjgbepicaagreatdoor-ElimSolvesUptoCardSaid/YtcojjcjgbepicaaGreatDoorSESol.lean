/- What this claim leans on. -/
import Derived.Test.YtcojjcjgbepicaaGreatDoorSERed
import Derived.Test.YtcojjcjgbepicaaGreatDoorSMGrid
namespace Go.Proofs.YtcojjcjgbepicaaGreatDoor
open Go Go.RowKit
set_option maxHeartbeats 16000000
set_option maxRecDepth 100000
set_option linter.unusedVariables false
set_option linter.unusedSimpArgs false
def zfw (m:Nat)(ld:List Nat)(R:List (List Rat))(i:Nat):List Rat:=(List.range i).foldl (λx r=>x.set (ld.getD r 0) (atM R r m)) (List.replicate m 0)
theorem zdS (m:Nat)(ld:List Nat)(R:List (List Rat))(i:Nat):zfw m ld R (i+1)=(zfw m ld R i).set (ld.getD i 0) (atM R i m):=by unfold zfw;rw [List.range_succ,List.foldl_append];rfl
theorem zhn (m:Nat)(ld:List Nat)(R:List (List Rat))(i:Nat):(zfw m ld R i).length=m:=by
 induction i with
 |zero=>exact List.length_replicate
 |succ i ih=>rw [zdS,List.length_set,ih]
def zeQ (m:Nat)(ld:List Nat)(R:List (List Rat)):List Rat:=if m ∈ ld then [] else zfw m ld R ld.length
def zgQ (m:Nat)(ld:List Nat):Int:=if m ∈ ld then 1 else if ld.length<m then 3 else 2
def zfa (w:World)(xs:List Rat)(z:Int)(eo:Ending)(w':World):Prop:=∃(A:oA9) (k c:Nat),eo=.returned (.tuple #[.slice A k c,.int .i64 z,.bool true])/\zaC w' A k c xs/\Below w.heap.size w w'
def zaN (n m p:Nat)(MM:List (List Rat))(xs:List Rat):List (List Rat):=zew n p λa b=>if b=m then xs.getD a 0 else atM MM a b
theorem zcP (n m p:Nat)(MM:List (List Rat))(xs:List Rat):zbh (zaN n m p MM xs) n p:=zhq _ _ _
theorem zfB {n m p K:Nat}{MM:List (List Rat)}{xs:List Rat}(hp:m+1=p)(hd:zbh MM n m)(h:zaD K MM)(hl:xs.length=n)(hx:zaq K xs):zaD K (zaN n m p MM xs):=zaD.tab λr c hr hc=>by
 by_cases e:c=m
 ·rw [if_pos e];exact hx.at_ (by omega)
 ·rw [if_neg e];exact h.at_ hd hr (by omega)
section
variable {w:World}{A:oA9}{n c m K K0:Nat}{MM:List (List Rat)}{V:oA9}{k cv:Nat}{xs:List Rat}
theorem zjr (hkn:k≠n):
  Calls Tryz.prog 35 #[.agg #[.slice A n c,.int .i64 (m:Int)],.slice V k cv] w (λeo w'=>eo=.returned (.tuple #[.slice none 0 0,.int .i64 0,.bool false])/\Below w.heap.size w w'):=by
 obtain⟨bx1,bx2,-⟩:=zaw w 32 #[.slice A n c,.int .i64 (m:Int)]
 obtain⟨p0,p1⟩:=bx2.c2
 have HW:=lh9 (ziH (A:=A) (c:=c) (m:=m) (V:=V) (cv:=cv) (w:=w.alloc (.cells #[.slice A n c,.int .i64 (m:Int)] 32)) hkn)
 have HB:=lh9 bx1
 clear bx1 bx2 hkn
 go_enter Tryz.func35,Tryz.ntmps35
 go_wp2_with fail
 generalize w.alloc (.cells #[.slice A n c,.int .i64 (m:Int)] 32)=W1 at*
 refine HW.out.mono ?_
 rintro eo w2 ⟨rfl,hb⟩
 obtain⟨t1,-,-⟩:=zaw w2 32 #[.slice none 0 0,.int .i64 0]
 have HB:=lh9 (zaa HB.out (zaa hb t1))
 clear hb t1 p0 p1 HW
 go_wp2
 refine bodyPost_ret (v:=.tuple #[.slice none 0 0,.int .i64 0,.bool false]) (by simp [results,Tryz.results35,go_sem]) rfl ?_
 exact⟨rfl,HB.out⟩
theorem zgi {p:Nat}(hp:m+1=p)(hT:zaj w)(h:zaW w A n c m MM)(z:zaD K0 MM)(hv:zaC w V n cv xs)(zx:zaq K0 xs)(hm6:m<64)(hW:zbT K (zaN n m p MM xs))(hK:260*K+269<=33554432:=by omega)(hK0:K+K0<=33554432:=by omega)(hKp:0<K:=by omega):
  Calls Tryz.prog 35 #[.agg #[.slice A n c,.int .i64 (m:Int)],.slice V n cv] w (zfa w (zeQ m (zaA p (zaN n m p MM xs)).ld (zdP p (zaN n m p MM xs))) (zgQ m (zaA p (zaN n m p MM xs)).ld)):=by
 have hn:=h.hn
 have HT:=lh9 (λw' (hb:Below w.heap.size w w')=>hT.on hb)
 have hdW:zbh (zaN n m p MM xs) n p:=zcP n m p MM xs
 have hok:=zcM hdW
 obtain⟨s1,-,-,-⟩:=zgN hdW hn hW
 have HS1:=lh9 s1
 have HLM:Hid (∀l ∈(zaA p (zaN n m p MM xs)).ld,l<p):=ok_lt hok
 have HLN:Hid ((zaA p (zaN n m p MM xs)).ld.length<=n):=ok_len hok
 have HZW:Hid (zaD K0 (zaN n m p MM xs)):=zfB hp h.dims z hv.len zx
 obtain⟨bx1,bx2,-⟩:=zaw w 32 #[.slice A n c,.int .i64 (m:Int)]
 obtain⟨p0,p1⟩:=bx2.c2
 have HWC:Hid (Calls _ _ _ _ (zem _ n p (zaN n m p MM xs))):=(zhz (K:=K0) hp (hT.on bx1) (h.keep bx1) z (hv.keep bx1) zx hm6 (by omega))
 have HB:=lh9 bx1
 have HK2:=lh9 bx2
 have HREDA:Hid (∀(w':World) (A':oA9) (c':Nat),zaj w'->zaW w' A' n c' p (zaN n m p MM xs)->Hid (Calls Tryz.prog 40 #[.agg #[.slice A' n c',.int .i64 (p:Int)]] w' (zgu w' n p (zdP p (zaN n m p MM xs)) (zaA p (zaN n m p MM xs)).ld))):=λw' A' c' h1 h2=>zgD h1 h2 HZW.out hW hK hK0 hKp
 obtain⟨ld,hld⟩:∃ld,(zaA p (zaN n m p MM xs)).ld=ld:=⟨_,rfl⟩
 obtain⟨RM,hRM⟩:∃RM,zdP p (zaN n m p MM xs)=RM:=⟨_,rfl⟩
 rw [hld] at HLM HLN HREDA⊢
 rw [hRM] at HS1 HREDA⊢
 unfold zfa
 clear hT h z hW bx1 bx2 hok s1 hRM hld hv zx hdW HZW
 have i0:(0:Int)<=(m:Int):=by omega
 go_enter Tryz.func35,Tryz.ntmps35
 go_wp2_with fail
 clear p0 p1
 generalize w.alloc (.cells #[.slice A n c,.int .i64 (m:Int)] 32)=W1 at*
 refine HWC.out.mono ?_
 rintro eo w2 ⟨A2,c2,rfl,hm2,-,hb⟩
 obtain⟨bx1,bx2,-⟩:=zaw w2 32 #[.slice A2 n c2,.int .i64 (p:Int)]
 obtain⟨p0,p1⟩:=bx2.c2
 have hbx:=zaa hb bx1
 have HB:=lh9 (zaa HB.out hbx)
 have HK2:=lh9 (zab hbx HK2.out)
 have HRED:=HREDA.out _ A2 c2 (HT.out _ HB.out) (hm2.keep bx1)
 clear hb hm2 bx1 bx2 hbx HWC HREDA
 go_wp2_with fail
 clear p0 p1
 generalize w2.alloc (.cells #[.slice A2 n c2,.int .i64 (p:Int)] 32)=W3 at*
 refine HRED.out.mono ?_
 rintro eo w4 ⟨A4,c4,B4,k4,cB4,rfl,hk4,hm4,hI4,hc3,hc4,hb⟩
 obtain⟨bx1,bx2,-⟩:=zaw w4 32 #[.slice A4 n c4,.int .i64 (p:Int)]
 have hbx:=zaa hb bx1
 have HB:=lh9 (zaa HB.out hbx)
 have HK2:=lh9 (zab hbx HK2.out)
 have HM4:=lh9 (hm4.keep bx1)
 have HI4:=lh9 (hI4.keep bx1)
 have HK9:=lh9 bx2
 have HKK:=lh9 hk4
 obtain⟨p0,p1⟩:=HK2.out.c2
 clear hb hm4 hI4 bx1 bx2 hbx HRED hk4
 go_wp2_with fail
 clear p0 p1
 generalize w4.alloc (.cells #[.slice A4 n c4,.int .i64 (p:Int)] 32)=W5 at*
 generalize w4.heap.size=q9 at*
 refine(zbp A n c (m:Int) _).mono ?_
 rintro eo w6 ⟨rfl,hb⟩
 have HB:=lh9 (zaa HB.out hb)
 have HK2:=lh9 (zab hb HK2.out)
 have HK9:=lh9 (zab hb HK9.out)
 have HM4:=lh9 (HM4.out.keep hb)
 have HI4:=lh9 (HI4.out.keep hb)
 clear hb
 go_wp2_with fail
 by_cases hin:m ∈ ld
 ·have hX:zeQ m ld RM=[]:=by unfold zeQ;rw [if_pos hin]
  have hN:zgQ m ld=1:=by unfold zgQ;rw [if_pos hin]
  have HX:=lh9 hX
  have HN:=lh9 hN
  refine(zdl (decide_eq_true (zhV.2 hin)) HI4.out (by have:=HKK.out;have:=HLN.out;omega)).mono ?_
  rintro eo w7 ⟨rfl,hb⟩
  have HB:=lh9 (zaa HB.out hb)
  have HV:=lh9 (zaM.nil (E:=zah) w7)
  clear hb hin hX hN
  go_wp2
  refine bodyPost_ret (v:=.tuple #[.slice none 0 0,.int .i64 1,.bool true]) (by simp [results,Tryz.results35,go_sem]) rfl ?_
  exact⟨none,0,0,by rw [HN.out],by rw [HX.out];exact HV.out,HB.out⟩
 ·have hX:zeQ m ld RM=zfw m ld RM ld.length:=by unfold zeQ;rw [if_neg hin]
  have hN:zgQ m ld=if ld.length<m then 3 else 2:=by unfold zgQ;rw [if_neg hin]
  have HX:=lh9 hX
  have HN:=lh9 hN
  have HLM2:Hid (∀i,i<ld.length->ld.getD i 0<m):=λi hi=>by
   have h1:=HLM.out _ (zcB hi)
   have h2:ld.getD i 0≠m:=λe=>hin (e▸zcB hi)
   omega
  refine(zdl (decide_eq_false (λh9=>hin (zhV.1 h9))) HI4.out (by have:=HKK.out;have:=HLN.out;omega)).mono ?_
  rintro eo w7 ⟨rfl,hb⟩
  have HB:=lh9 (zaa HB.out hb)
  have HK2:=lh9 (zab hb HK2.out)
  have HK9:=lh9 (zab hb HK9.out)
  have HM4:=lh9 (HM4.out.keep hb)
  have HI4:=lh9 (HI4.out.keep hb)
  obtain⟨p0,p1⟩:=HK2.out.c2
  clear hb hin hX hN
  go_wp2_with fail
  clear p0 p1
  refine(zbp A n c (m:Int) _).mono ?_
  rintro eo w8 ⟨rfl,hb⟩
  have HB:=lh9 (zaa HB.out hb)
  have HK2:=lh9 (zab hb HK2.out)
  have HK9:=lh9 (zab hb HK9.out)
  have HM4:=lh9 (HM4.out.keep hb)
  have HI4:=lh9 (HI4.out.keep hb)
  clear hb
  have HM8:=lh9 (λw' (hb:Below w8.heap.size w8 w')=>HM4.out.keep hb)
  have HI8:=lh9 (λw' (hb:Below w8.heap.size w8 w')=>HI4.out.keep hb)
  have HK28:=lh9 (λw' (hb:Below w8.heap.size w8 w')=>zab hb HK2.out)
  have HK98:=lh9 (λw' (hb:Below w8.heap.size w8 w')=>zab hb HK9.out)
  have HT8:=lh9 (λw' (hb:Below w8.heap.size w8 w')=>HT.out w' (zaa HB.out hb))
  have HL2:=lh9 HK2.out.lt
  have HL9:=lh9 HK9.out.lt
  clear HM4 HI4 HK2 HK9 HT
  go_wp2_with fail
  (with_reducible refine(zjh m _ (by omega)).mono ?_)
  rintro eo w9 ⟨g9,rfl,hg9,ho9,hB9⟩
  have hx9:zbK w9 g9 m (zfw m ld RM 0):=ho9
  clear ho9
  go_wp2_with fail
  go_loopg [40] (k4+1) (λgg ix wx=>∃(r:Nat),r<=k4/\k4<gg+r/\ix=.int .i64 r/\zbK wx g9 m (zfw m ld RM r)/\Below w8.heap.size w8 wx)
  case atStart=>exact⟨0,Nat.zero_le _,by omega,rfl,hx9,hB9⟩
  case round=>
   clear hx9 hB9
   obtain⟨r,hrk,hg2,rfl,hx,hB7⟩:=hrel
   by_cases hlr:r<k4
   ·have hd3:decide ((r:Int)<(k4:Int))=true:=decide_eq_true (by omega)
    have i1:(0:Int)<=(r:Int):=by omega
    have i2:(r:Int)<(k4:Int):=by omega
    have hrl:r<ld.length:=by rw [<-HKK.out];exact hlr
    have HB7:=lh9 hB7
    obtain⟨ad,hadB,hc⟩:=(HI8.out _ hB7).num r hlr
    rw [znf hrl] at hc
    have hlm:ld.getD r 0<m:=HLM2.out r hrl
    have HKS:=lh9 (zdS m ld RM r)
    obtain⟨l,hl⟩:∃l,ld.getD r 0=l:=⟨_,rfl⟩
    rw [hl] at hc hlm HKS
    have i3:(0:Int)<=(l:Int):=by omega
    have i4:(l:Int)<(m:Int):=by omega
    have hrn:r<n:=by have:=HLN.out;omega
    have hmp:m<p:=by omega
    have HX7:=lh9 hx
    subst hadB
    clear hx hB7 hl
    go_upto_region 11 with fail
    clear hc
    obtain⟨p0,p1⟩:=(HK98.out _ HB7.out).c2
    obtain⟨p2,p3⟩:=(HK28.out _ HB7.out).c2
    have hbd:=(Below.refl wr.heap.size wr).drew
    refine rg (csc p0 (csc p1 (csc p2 (csc p3 csn)))) (λhHeld=>?_)
    have HX7:=lh9 (HX7.out.keep hbd)
    have HB7:=lh9 (zaa HB7.out hbd)
    clear p0 p1 p2 p3 hbd
    generalize wr.drew=D at*
    refine tk 0 ?_
    refine tk 1 ?_
    refine tk 2 ?_
    refine tk 3 ?_
    refine tk 4 ?_
    refine rc 5 (λKK hKQ=>?_)
    go_simp
    refine(zbp A n c (m:Int) _).mono ?_
    rintro eo w11 ⟨rfl,hb⟩
    refine hKQ.out _ _ (Cs.below hHeld hb) (λhHeld=>?_)
    have HX7:=lh9 (HX7.out.keep hb)
    have HB7:=lh9 (zaa HB7.out hb)
    clear hKQ KK hb
    refine rc 6 (λKK hKQ=>?_)
    go_simp
    (with_reducible refine(mat_at (HT8.out _ HB7.out) (HM8.out _ HB7.out) HS1.out hrn hmp (by omega)).mono ?_)
    rintro eo w12 ⟨b8,A8,n8,c8,E8,k8,f8,rfl,hw8,hb⟩
    refine hKQ.out _ _ (Cs.below hHeld hb) (λhHeld=>?_)
    have hX9:=HX7.out.keep hb
    have hr4:=zbf.set_ zaf hX9 hlm hw8
    rw [<-HKS.out] at hr4
    obtain⟨q0,q1,q2,sc0,sf0,sc1,sf1,sc2,sf2⟩:=hX9.ready hlm (.bool b8) (.slice A8 n8 c8)
    have HR4:=lh9 hr4
    have HB9:=lh9 (zbB (l*3) (l*3+1) (l*3+2) (.bool b8) (.slice A8 n8 c8) (.slice E8 k8 f8) hg9 (zaa HB7.out hb))
    clear hKQ KK hb hw8 hX9 hr4 HX7 HB7 HKS
    refine tk 7 ?_
    refine rc 8 (λKK hKQ=>?_)
    go_simp
    refine hKQ.out _ _ (Cs.far hHeld ((((zba.refl g9 w12).set_ (l*3) (.bool b8)).set_ (l*3+1) (.slice A8 n8 c8)).set_ (l*3+2) (.slice E8 k8 f8)) ⟨(by have:=HL9.out;show q9≠g9;omega),(by have:=HL9.out;show q9≠g9;omega),(by have:=HL2.out;show w.heap.size≠g9;omega),(by have:=HL2.out;show w.heap.size≠g9;omega),trivial⟩) (λhHeld=>?_)
    clear hKQ KK sc0 sf0 sc1 sf1 sc2 sf2
    refine rdn ?_
    clear hHeld
    go_wp2
    go_roundg (k4 - r)
    case measure=>omega
    case rel=>exact⟨r+1,by omega,by omega,by go_num,HR4.out,HB9.out⟩
   ·have hk9:r=k4:=by omega
    have hd3:decide ((r:Int)<(k4:Int))=false:=by rw [hk9];simp
    have HXF:Hid (zbK wr g9 m (zeQ m ld RM)):=by rw [HX.out,<-HKK.out,<-hk9];exact hx
    have HB7:=lh9 hB7
    obtain⟨p2,p3⟩:=(HK28.out _ hB7).c2
    clear hx hB7 hk9
    go_wp2_with fail
    clear p2 p3
    refine(zbp A n c (m:Int) _).mono ?_
    rintro eo w11 ⟨rfl,hb⟩
    have HXF:=lh9 (HXF.out.keep hb)
    have HBF:=lh9 (zaa HB.out (zaa HB7.out hb))
    clear hb HB7
    by_cases hlt:k4<m
    ·have d5:decide ((k4:Int)<(m:Int))=true:=decide_eq_true (by omega)
     have hN3:zgQ m ld=3:=by rw [HN.out,if_pos (by rw [<-HKK.out];exact hlt)]
     have HN3:=lh9 hN3
     clear hN3
     go_wp2
     refine bodyPost_ret (v:=.tuple #[.slice (some ⟨g9,0,none⟩) m m,.int .i64 3,.bool true]) (by simp [results,Tryz.results35,go_sem]) rfl ?_
     exact⟨_,_,_,by rw [HN3.out],zaE HXF.out,HBF.out⟩
    ·have d5:decide ((k4:Int)<(m:Int))=false:=decide_eq_false (by omega)
     have hN2:zgQ m ld=2:=by rw [HN.out,if_neg (by rw [<-HKK.out];exact hlt)]
     have HN2:=lh9 hN2
     clear hN2
     go_wp2
     refine bodyPost_ret (v:=.tuple #[.slice (some ⟨g9,0,none⟩) m m,.int .i64 2,.bool true]) (by simp [results,Tryz.results35,go_sem]) rfl ?_
     exact⟨_,_,_,by rw [HN2.out],zaE HXF.out,HBF.out⟩
end
def detE (m:Nat)(MM:List (List Rat)):Rat:=if (zaA m MM).ld.length<m then 0 else(zaA m MM).p / zbs MM
theorem zjW:∀{M:List (List Rat)} {r:Rat},r≠0->M.foldl (λr row=>r*zaJ row) r≠0
 |[],_,h=>h
 |L::M,r,h=>by
   rw [List.foldl_cons]
   refine zjW λe=>?_
   rcases Rat.mul_eq_zero.1 e with e|e
   ·exact h e
   ·exact zkl L e
theorem znt (M:List (List Rat)):zbs M≠0:=zjW (by decide+kernel)
section
variable {w:World}{A:oA9}{n c m K K0:Nat}{MM:List (List Rat)}
theorem elim_det (hT:zaj w)(h:zaW w A n c m MM)(hnm:n=m)(z:zaD K0 MM)(hW:zbT K MM)(hK:260*K+269<=33554432:=by omega)(hK0:K+K0<=33554432:=by omega)(hKp:0<K:=by omega):
  Calls Tryz.prog 23 #[.agg #[.slice A n c,.int .i64 (m:Int)]] w (zbq w (detE m MM) true):=by
 obtain⟨hn,hm⟩:=And.intro h.hn h.hm
 have HM:=lh9 (λw' (hb:Below w.heap.size w w')=>h.keep hb)
 have HT:=lh9 (λw' (hb:Below w.heap.size w w')=>hT.on hb)
 have HZ:=lh9 z
 have HW:=lh9 hW
 have HD:=lh9 h.dims
 have hok:=zcM h.dims
 obtain⟨s1,s2,s3,s4⟩:=zgN h.dims hn hW
 have HS2:=lh9 s2
 have HS3:=lh9 s3
 have HRQ:Hid (SzQ (1+64*K) (zbs MM)):=by
  have:=zhl hW MM.length (Nat.le_refl _)
  rw [List.take_length] at this
  exact(this.up (Nat.add_le_add_left (Nat.mul_le_mul_right _ (by rw [h.dims.rows];omega)) _)).szq (by omega)
 have HRN:=lh9 (znt MM)
 obtain⟨bx1,bx2,bx3,-⟩:=zbC w 32 53 #[.slice A n c,.int .i64 (m:Int)] #[.bool false,.slice none 0 0,.slice none 0 0]
 obtain⟨p0,p1⟩:=bx2.c2
 have HB:=lh9 bx1
 have HK1:=lh9 bx2
 have HK2:=lh9 bx3
 have hst:zeW m (zbg MM)=zaA m MM:=rfl
 have HDE:Hid (detE m MM=if (zaA m MM).ld.length<m then 0 else(zaA m MM).p / zbs MM):=rfl
 obtain⟨st,hst2⟩:∃st,zaA m MM=st:=⟨_,rfl⟩
 rw [hst2] at hst HS2 HS3 HDE
 have HST:=lh9 hst
 have d1:((n:Int) !=(m:Int))=false:=by rw [hnm];simp
 have HNM:=lh9 hnm
 clear h hT z hW bx1 bx2 bx3 hst hst2 hok s1 s2 s3 s4 hnm
 go_enter Tryz.func23,Tryz.ntmps23
 go_wp2_with fail
 generalize (w.alloc (.cells #[.slice A n c,.int .i64 (m:Int)] 32)).alloc (.cells #[.bool false,.slice none 0 0,.slice none 0 0] 53)=W1 at*
 have hbd:=(Below.refl W1.heap.size W1).drew
 refine rg (csc p0 (csc p1 csn)) (λhHeld=>?_)
 have HB:=lh9 (zaa HB.out hbd)
 have HK1:=lh9 (zab hbd HK1.out)
 have HK2:=lh9 (zab hbd HK2.out)
 clear p0 p1 hbd
 generalize W1.drew=D at*
 refine tk 0 ?_
 refine tk 2 ?_
 refine rc 1 (λKK hK9=>?_)
 go_simp
 refine(zcC A n c (m:Int) _).mono ?_
 rintro eo w2 ⟨rfl,hb⟩
 refine hK9.out _ _ (Cs.below hHeld hb) (λhHeld=>?_)
 have HB:=lh9 (zaa HB.out hb)
 have HK1:=lh9 (zab hb HK1.out)
 have HK2:=lh9 (zab hb HK2.out)
 clear hK9 KK hb
 refine rc 3 (λKK hK9=>?_)
 go_simp
 refine(zbp A n c (m:Int) _).mono ?_
 rintro eo w3 ⟨rfl,hb⟩
 refine hK9.out _ _ (Cs.below hHeld hb) (λhHeld=>?_)
 have HB:=lh9 (zaa HB.out hb)
 have HK1:=lh9 (zab hb HK1.out)
 have HK2:=lh9 (zab hb HK2.out)
 clear hK9 KK hb
 refine tk 4 ?_
 refine rdn ?_
 clear hHeld
 go_upto_region 3 with fail
 have hbd:=(Below.refl w3.heap.size w3).drew
 obtain⟨p0,p1⟩:=HK1.out.c2
 refine rg (csc p0 (csc p1 csn)) (λhHeld=>?_)
 have HB:=lh9 (zaa HB.out hbd)
 have HK1:=lh9 (zab hbd HK1.out)
 have HK2:=lh9 (zab hbd HK2.out)
 clear p0 p1 hbd
 generalize w3.drew=D3 at*
 refine tk 0 ?_
 refine tk 2 ?_
 refine rc 1 (λKK hK9=>?_)
 go_simp
 refine(zbp A n c (m:Int) _).mono ?_
 rintro eo w2 ⟨rfl,hb⟩
 refine hK9.out _ _ (Cs.below hHeld hb) (λhHeld=>?_)
 have HB:=lh9 (zaa HB.out hb)
 have HK1:=lh9 (zab hb HK1.out)
 have HK2:=lh9 (zab hb HK2.out)
 clear hK9 KK hb
 refine rc 3 (λKK hK9=>?_)
 go_simp
 (with_reducible refine(zfg (HT.out _ HB.out) (HM.out _ HB.out) HZ.out (by omega)).mono ?_)
 rintro eo w3 ⟨g3,rfl,hg3,ho3,hb⟩
 refine hK9.out _ _ (Cs.below hHeld hb) (λhHeld=>?_)
 have HB:=lh9 (zaa HB.out hb)
 have HK1:=lh9 (zab hb HK1.out)
 have HK2:=lh9 (zab hb HK2.out)
 have HR:=lh9 ho3.rows
 clear hK9 KK hb hg3 ho3
 refine rc 4 (λKK hK9=>?_)
 go_simp
 (with_reducible refine(zhf (HT.out _ HB.out) HR.out HD.out HZ.out HW.out hn (by omega) (Nat.le_refl _) hK hK0 hKp).mono ?_)
 rintro eo w4 ⟨g4,rfl,hg4,⟨A4,cA4,B4,k4,cB4,z0,z1,z2,u0,u1,u2,hes⟩,hb⟩
 rw [HST.out] at hes
 refine hK9.out _ _ (Cs.below hHeld hb) (λhHeld=>?_)
 have HB:=lh9 (zaa HB.out hb)
 have HK1:=lh9 (zab hb HK1.out)
 have HK2:=lh9 (zab hb HK2.out)
 have HES:=lh9 hes
 clear hK9 KK hb hg4 hes HR
 refine tk 5 ?_
 refine rdn ?_
 clear hHeld
 go_upto_region 4 with fail
 have hbd:=(Below.refl w4.heap.size w4).drew
 obtain⟨p0,p1⟩:=HK1.out.c2
 obtain⟨-,p2,-⟩:=HES.out.cells
 refine rg (csc p0 (csc p1 (csc p2 csn))) (λhHeld=>?_)
 have HB:=lh9 (zaa HB.out hbd)
 have HES:=lh9 (HES.out.below hbd)
 have HK2:=lh9 (zab hbd HK2.out)
 clear p0 p1 p2 hbd HK1
 generalize w4.drew=D4 at*
 refine tk 0 ?_
 refine tk 1 ?_
 refine tk 2 ?_
 refine tk 3 ?_
 refine tk 4 ?_
 refine tk 5 ?_
 refine rc 6 (λKK hK9=>?_)
 go_simp
 refine(zcC A n c (m:Int) _).mono ?_
 rintro eo w5 ⟨rfl,hb⟩
 refine hK9.out _ _ (Cs.below hHeld hb) (λhHeld=>?_)
 have HB:=lh9 (zaa HB.out hb)
 have HES:=lh9 (HES.out.below hb)
 have HK2:=lh9 (zab hb HK2.out)
 clear hK9 KK hb
 refine tk 7 ?_
 refine rdn ?_
 clear hHeld
 have HHK:=lh9 HES.out.hk
 by_cases hlt:k4<n
 ·have d2:decide ((k4:Int)<(n:Int))=true:=decide_eq_true (by omega)
  have hde:detE m MM=0:=by rw [HDE.out,HHK.out,if_pos (by have:=HNM.out;omega)]
  have HD9:=lh9 hde
  obtain⟨sc0,sf0,sc1,sf1,sc2,sf2⟩:=st3 HK2.out (.bool false) (.slice none 0 0)
  obtain⟨r0,r1,r2⟩:=(sn3 HK2.out (.bool false) (.slice none 0 0) (.slice none 0 0)).c3
  have HBF:=lh9 (bl3 (.bool false) (.slice none 0 0) (.slice none 0 0) (show w.heap.size<=w.heap.size+1 by omega) HB.out)
  have HGF:=lh9 (ziT (((w5.setCell ⟨w.heap.size+1,0,none⟩ (.bool false)).setCell ⟨w.heap.size+1,1,none⟩ (.slice none 0 0)).setCell ⟨w.heap.size+1,2,none⟩ (.slice none 0 0)))
  clear HB HK2 HES hde
  go_wp2
  refine bodyPost_ret (v:=.tuple #[.agg #[.bool false,.slice none 0 0,.slice none 0 0],.bool true]) (by simp [results,Tryz.results23,go_sem,r0,r1,r2]) rfl ?_
  exact⟨_,_,_,_,_,_,_,rfl,by rw [HD9.out];exact HGF.out,HBF.out⟩
 ·have d2:decide ((k4:Int)<(n:Int))=false:=decide_eq_false (by omega)
  have hde:detE m MM=st.p / zbs MM:=by rw [HDE.out,HHK.out,if_neg (by have:=HNM.out;omega)]
  have HD9:=lh9 hde
  clear hde
  obtain⟨b6,A6,n6,c6,E6,k6,f6,rfl,rfl,rfl,hr6⟩:=HES.out.lead
  obtain⟨b7,A7,n7,c7,E7,k7,f7,rfl,rfl,rfl,hr7⟩:=HES.out.rsd
  have HNG:Hid (g4≠w.heap.size+1):=λe=>by subst e;exact absurd (zcV HES.out.blk HK2.out) (by decide)
  go_upto_region 6 with fail
  have hbd:=(Below.refl w5.heap.size w5).drew
  obtain⟨-,-,p2,p3,p4,p5,p6,p7⟩:=HES.out.cells
  refine rg (csc p2 (csc p3 (csc p4 (csc p5 (csc p6 (csc p7 csn)))))) (λhHeld=>?_)
  have HB:=lh9 (zaa HB.out hbd)
  have HK2:=lh9 (zab hbd HK2.out)
  have HR6:=lh9 (hr6.below hbd)
  have HR7:=lh9 (hr7.below hbd)
  clear p2 p3 p4 p5 p6 p7 hbd hr6 hr7 HES
  generalize w5.drew=D5 at*
  refine tk 0 ?_
  refine tk 1 ?_
  refine tk 2 ?_
  refine tk 3 ?_
  refine tk 4 ?_
  refine tk 5 ?_
  refine tk 6 ?_
  refine tk 7 ?_
  refine rc 8 (λKK hK9=>?_)
  go_simp
  (with_reducible refine(zgM st.p (zbs MM) b6 A6 n6 c6 E6 k6 f6 b7 A7 n7 c7 E7 k7 f7 _ (HT.out _ HB.out) HR6.out HR7.out (HS2.out.fit HR6.out (by omega)) (HRQ.out.fit HR7.out (by omega)) HRN.out).mono ?_)
  rintro eo w6 ⟨b8,A8,n8,c8,E8,k8,f8,rfl,hw8,hb⟩
  refine hK9.out _ _ (Cs.below hHeld hb) (λhHeld=>?_)
  have HB:=lh9 (zaa HB.out hb)
  have HK2:=lh9 (zab hb HK2.out)
  have HR8:=lh9 hw8
  clear hK9 KK hb hw8 HR6 HR7
  refine tk 9 ?_
  refine tk 10 ?_
  obtain⟨sc0,sf0,sc1,sf1,sc2,sf2⟩:=st3 HK2.out (.bool b8) (.slice A8 n8 c8)
  obtain⟨r0,r1,r2⟩:=(sn3 HK2.out (.bool b8) (.slice A8 n8 c8) (.slice E8 k8 f8)).c3
  have HG:=lh9 (gb3 true HR8.out HK2.out HB.out (show w.heap.size<=w.heap.size+1 by omega))
  refine rc 11 (λKK hK9=>?_)
  go_simp
  refine hK9.out _ _ (Cs.far hHeld (zdV _ _ (.bool b8) (.slice A8 n8 c8) (.slice E8 k8 f8)) ⟨HNG.out,HNG.out,HNG.out,HNG.out,HNG.out,HNG.out,trivial⟩) (λhHeld=>?_)
  clear hK9 KK sc0 sf0 sc1 sf1 sc2 sf2
  refine tk 12 ?_
  refine rdn ?_
  clear hHeld HB HK2 HR8
  go_wp2
  refine bodyPost_ret (v:=.tuple #[.agg #[.bool b8,.slice A8 n8 c8,.slice E8 k8 f8],.bool true]) (by simp [results,Tryz.results23,go_sem,r0,r1,r2]) rfl ?_
  rw [HD9.out]
  exact HG.out
end
theorem zbT.up {K K':Nat}{M:List (List Rat)}(h:zbT K M)(e:K<=K'):zbT K' M:=⟨λrow hr=>(h.q row hr).up e,λrow hr x hx=>(h.x row hr x hx).up e⟩
theorem znJ {r:Rat}{M:List (List Rat)}(i j:Nat):atM (zcO r M) i j=r*atM M i j:=by
 unfold atM zcO
 rw [List.getD_eq_getElem?_getD (l:=List.map _ _),List.getD_eq_getElem?_getD (l:=M),List.getElem?_map]
 cases M[i]? with
 |none=>exact(Rat.mul_zero r).symm
 |some row=>exact zeu j
theorem zla {n m:Nat}{M:List (List Rat)}(h:zbh M n m):RF n m (atM M) (zaA m M).ld (atM (zdP m M)):=by
 have e:atM (zdP m M)=λi j=>(zaA m M).p⁻¹*atM (zaA m M).S i j:=by
  funext i j;exact znJ i j
 rw [e]
 refine RF.of_elim (zcM h) λi hi=>⟨zaJ (M.getD i []),zjk (by decide+kernel),λj hj=>zki h hi j⟩
theorem zeM:∀{ld:List Nat} {m:Nat},ld.Pairwise (·<·)->(∀l ∈ ld,l<m)->(zdL ld m).length+ld.length=m
 |ld,0,_,h=>by
   have:ld=[]:=by
    cases ld with
    |nil=>rfl
    |cons x xs=>exact absurd (h x List.mem_cons_self) (by omega)
   subst this;rfl
 |ld,m+1,hp,h=>by
   by_cases hm:m ∈ ld
   ·-- m is the last one
    have h1:=zeM (ld:=ld.erase m) (m:=m) (hp.sublist (List.erase_sublist)) λl hl=>by
     have hn:ld.Nodup:=hp.imp fun{a b} hab=>by omega
     have h2:=(hn.mem_erase_iff).1 hl
     have:=h l h2.2
     have:=h2.1
     omega
    have h3:(zdL ld (m+1))=zdL (ld.erase m) m:=by
     unfold zdL
     rw [List.range_succ,List.filter_append]
     have:List.filter (λc=> !decide (c ∈ ld)) [m]=[]:=by simp [hm]
     rw [this,List.append_nil]
     refine List.filter_congr λc hc=>?_
     have hne:c≠m:=by have:=List.mem_range.1 hc;omega
     have:=List.mem_erase_of_ne (l:=ld) hne
     simp [this]
    rw [h3]
    rw [List.length_erase_of_mem hm] at h1
    have:=List.length_pos_of_mem hm
    omega
   ·have h1:=zeM (ld:=ld) (m:=m) hp λl hl=>by
     have:=h l hl
     have:l≠m:=λe=>hm (e▸hl)
     omega
    have h3:(zdL ld (m+1))=zdL ld m++[m]:=by
     unfold zdL
     rw [List.range_succ,List.filter_append]
     simp [hm]
    rw [h3,List.length_append]
    show _+1+_=_
    omega
theorem zbc.below {W W':World}{A:oA9}{n c:Nat}{R:RowV}(h:zbc W A n c R)(hb:Below W.heap.size W W'):zbc W' A n c R:=⟨h.fits,h.small,λr hr=>by
 obtain⟨ad,e,h1,h2,h3⟩:=h.row r hr
 exact⟨ad,e,Nat.lt_of_lt_of_le h1 hb.size,zac hb h2,h3.below hb⟩⟩
def zjA (w:World)(xs:List Rat)(e:Ending)(w':World):Prop:=∃(v:Value) (vs:List Value),e=.returned v/\zdC zah w' w.heap.size 53 v xs vs/\Below w.heap.size w w'
theorem ziD {A:oA9}{n c:Nat}{L:List (Int×Int)}{w:World}(hT:zaj w)(h:zaT w A n c L):
  Calls Tryz.prog 36 #[.slice A n c] w (zjA w (zdx L)):=by
 obtain⟨i1',hi1,hz10,hz11,hz12⟩:=info_parts zkF
 have hn0:n<=1048576:=Nat.le_trans h.fits h.small
 have HL:=lh9 h.len
 have HG:Hid (∀k,k<n->zcc (L.getD k (0,0)).1/\zcc (L.getD k (0,0)).2/\∃ad,A=some ad/\ad.block<w.heap.size/\w.cell? (ad.add (k*2))=some (.int .i64 (L.getD k (0,0)).1)/\w.cell? (ad.add (k*2+1))=some (.int .i64 (L.getD k (0,0)).2)):=λk hk=>by
  have hl:=h.len
  have e:L[k]?=some (L.getD k (0,0)):=by rw [List.getD_eq_getElem?_getD,List.getElem?_eq_getElem (by omega)];rfl
  obtain⟨h1,h2⟩:=h.ints _ (List.mem_of_getElem? e)
  exact⟨h1,h2,h.row k _ e⟩
 have HS:Hid (∀k,k<n->zdx (L.take (k+1))=zdx (L.take k)++[qOf (L.getD k (0,0)).1 (L.getD k (0,0)).2]):=λk hk=>by
  have hl:=h.len
  unfold zdx
  rw [List.take_succ_eq_append_getElem (by omega),List.map_append,List.getD_eq_getElem?_getD,List.getElem?_eq_getElem (by omega)]
  rfl
 have HT:=lh9 (λw' (hb:Below w.heap.size w w')=>hT.on hb)
 unfold zjA
 clear h hT
 have hB:=Below.refl w.heap.size w
 go_enter Tryz.func36,Tryz.ntmps36
 go_wp2_with fail
 go_loopg [3,4] (n+1) (λg sl ix wr=>∃(k:Nat) (v:Value) (vs:List Value),k<=n/\n<g+k/\ix=.int .i64 k/\v=sl/\zdC zah wr w.heap.size 53 v (zdx (L.take k)) vs/\Below w.heap.size w wr)
 case atStart=>exact⟨0,_,_,Nat.zero_le _,by omega,rfl,rfl,zdC.nil _ _ _,hB⟩
 case round=>
  clear hB
  obtain⟨k,v,vs,hkn,hg,rfl,rfl,hon,hB⟩:=hrel
  by_cases hlt:k<n
  ·obtain⟨hi1',hi2',ad,rfl,hadb,hc0,hc1⟩:=HG.out k hlt
   have HSK:=lh9 (HS.out k hlt)
   obtain⟨q,hq⟩:∃q,L.getD k (0,0)=q:=⟨_,rfl⟩
   rw [hq] at hi1' hi2' hc0 hc1 HSK
   obtain⟨q1,q2⟩:=q
   dsimp only at hi1' hi2' hc0 hc1 HSK
   have hc0:=zac hB hc0
   have hc1:=zgz (zac hB hc1)
   have hd1:decide ((k:Int)<(n:Int))=true:=decide_eq_true (by omega)
   have i1:(0:Int)<=(k:Int):=by omega
   have i2:(k:Int)<(n:Int):=by omega
   have HON0:=lh9 hon
   have HB0:=lh9 hB
   have HI1:=lh9 hi1'
   have HI2:=lh9 hi2'
   have hlq:(zdx (L.take k)).length=k:=by rw [zes,List.length_take,HL.out];omega
   have HLQ:=lh9 hlq
   clear hon hB hi1' hi2' hq hlq
   go_wp2_with fail
   (with_reducible refine(zjP (HT.out _ HB0.out) HI1.out HI2.out).mono ?_)
   rintro e w5 ⟨b5,B5,m5,d5,E5,u5,f5,rfl,hx5,hb⟩
   obtain⟨t1,t2,_⟩:=zaw w5 53 #[.bool b5,.slice B5 m5 d5,.slice E5 u5 f5]
   obtain⟨t20,t21,t22⟩:=t2.c3
   have hup:=zaa hb t1
   have hon:=zdC.below zaf HON0.out hup
   have HX:=lh9 (hx5.below t1)
   have HB:=lh9 (zaa HB0.out hup)
   have hcell:∀j u,[Value.bool b5,.slice B5 m5 d5,.slice E5 u5 f5][j]?=some u->(w5.alloc (.cells #[.bool b5,.slice B5 m5 d5,.slice E5 u5 f5] 53)).cell? ((⟨w5.heap.size,0,none⟩:Addr).add j)=some u:=λj u hu=>by
    rw [zaK]
    match j,hu with
    |0,hu=>simp at hu;subst hu;exact t2.cell 0
    |1,hu=>simp at hu;subst hu;exact t2.cell 1
    |2,hu=>simp at hu;subst hu;exact t2.cell 2
   have HCELL:=lh9 hcell
   have HONE:Hid (∀u ∈ [Value.bool b5,.slice B5 m5 d5,.slice E5 u5 f5],u.oneCell'=true):=by intro u hu;simp at hu;rcases hu with rfl|rfl|rfl<;>rfl
   have HNN:Hid (∀u ∈ [Value.bool b5,.slice B5 m5 d5,.slice E5 u5 f5],zgZ u):=by intro u hu y z;simp at hu;rcases hu with rfl|rfl|rfl<;>(intro h9;cases h9)
   have HZN:Hid (∀u ∈(Value.agg #[.bool false,.slice none 0 0,.slice none 0 0]).cells.toList,zgZ u):=by intro u hu y z;simp [Value.cells] at hu;rcases hu with rfl|rfl<;>(intro h9;cases h9)
   have HBS:Hid (w.heap.size<=(w5.alloc (.cells #[.bool b5,.slice B5 m5 d5,.slice E5 u5 f5] 53)).heap.size):=HB.out.size
   have hown:=hon.own
   rw [HLQ.out] at hown
   have HOWN:=lh9 hown
   have HNOU:=lh9 hon.nou
   have HON:=lh9 hon
   have HOB:=lh9 (λr (h:v.ownBlock=some r)=>hon.own.lt r h)
   clear hb hup hx5 hcell hon t1 t2 hc0 hc1 t20 t21 t22 hown
   go_wp2_with (at_builtin;go_loud (refine zcZ _ rfl (.tmp 11) (.tmp 17) 71 rfl w.heap.size 53 i1' (.agg #[.bool false,.slice none 0 0,.slice none 0 0]) 3 56 Tryz.underlying71 hi1 hz10 hz11 hz12 rfl (by decide) v k vs rfl HOWN.out ⟨w5.heap.size,0,none⟩ 1 1 [.bool b5,.slice B5 m5 d5,.slice E5 u5 f5] rfl rfl HCELL.out HONE.out (by unfold maxLen;omega) (by omega) HBS.out HNOU.out HZN.out HNN.out ?_;intro v' w8 hown' hgrow hat hnou';have HON8:=lh9 (zdC.grow (n:=k+1) zaf HON.out HX.out hown' (by rw [HLQ.out]) hgrow hnou');have HB8:=lh9 (HB.out.grown hgrow HBS.out (λr hr=>(HOB.out r hr).1));clear hown' hgrow hat hnou'))
   rw [<-HSK.out] at HON8
   go_roundg (n - k)
   case measure=>omega
   case rel=>exact⟨k+1,_,_,by omega,by omega,by go_num,rfl,HON8.out,HB8.out⟩
  ·have hd1:decide ((k:Int)<(n:Int))=false:=decide_eq_false (by omega)
   have hk:k=n:=by omega
   subst hk
   rw [List.take_of_length_le (by rw [HL.out];exact Nat.le_refl _)] at hon
   have HV:=lh9 hon
   have HB1:=lh9 hB
   clear hon hB
   go_wp2
   go_ret
   exact⟨_,_,rfl,HV.out,HB1.out⟩
