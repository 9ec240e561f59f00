/- What this claim leans on. -/
import Derived.Test.YtcojjcjgbepicaaGreatDoorKEIn
namespace Go.Proofs.YtcojjcjgbepicaaGreatDoor
open Go Go.RowKit
set_option maxHeartbeats 16000000
set_option maxRecDepth 100000
set_option linter.unusedVariables false
set_option linter.unusedSimpArgs false
def ziV (m:Nat)(ld:List Nat)(R:List (List Rat))(i:Nat):List Rat:=(List.range i).foldl (λx r=>x.set (ld.getD r 0) (atM R r m)) (List.replicate m 0)
theorem znC (m:Nat)(ld:List Nat)(R:List (List Rat))(i:Nat):ziV m ld R (i+1)=(ziV m ld R i).set (ld.getD i 0) (atM R i m):=by unfold ziV;rw [List.range_succ,List.foldl_append];rfl
def solX (m:Nat)(ld:List Nat)(R:List (List Rat)):List Rat:=if m ∈ ld then [] else ziV m ld R ld.length
def solN (m:Nat)(ld:List Nat):Int:=if m ∈ ld then 1 else if ld.length<m then 3 else 2
def zgs (w:World)(xs:List Rat)(z:Int)(eo:Ending)(w':World):Prop:=∃(A:oA9) (k c:Nat),eo=.returned (.tuple #[.slice A k c,.int .i64 z,.bool true])/\zaC w' A k c xs/\Below w.heap.size w w'
def zcC (n m p:Nat)(MM:List (List Rat))(xs:List Rat):List (List Rat):=zer n p λa b=>if b=m then xs.getD a 0 else atM MM a b
theorem zgm (n m p:Nat)(MM:List (List Rat))(xs:List Rat):zbe (zcC n m p MM xs) n p:=zhk _ _ _
theorem zjd {n m p K:Nat}{MM:List (List Rat)}{xs:List Rat}(hp:m+1=p)(hd:zbe MM n m)(h:zaB K MM)(hl:xs.length=n)(hx:zar K xs):zaB K (zcC n m p MM xs):=zaB.tab λr c hr hc=>by
 by_cases e:c=m
 ·rw [if_pos e];exact hx.at_ (by omega)
 ·rw [if_neg e];exact h.at_ hd hr (by omega)
section
variable {w:World}{A:oA9}{n c m K K0:Nat}{MM:List (List Rat)}{V:oA9}{k cv:Nat}{xs:List Rat}
theorem ziq {p:Nat}(hp:m+1=p)(hT:zai w)(h:zaU w A n c m MM)(z:zaB K0 MM)(hv:zaC w V n cv xs)(zx:zar K0 xs)(hm6:m<64)(hW:zbZ K (zcC n m p MM xs))(hK:260*K+269<=33554432:=by omega)(hK0:K+K0<=33554432:=by omega)(hKp:0<K:=by omega):
  Calls Tryz.prog 35 #[.agg #[.slice A n c,.int .i64 (m:Int)],.slice V n cv] w (zgs w (solX m (zaE p (zcC n m p MM xs)).ld (zcY p (zcC n m p MM xs))) (solN m (zaE p (zcC n m p MM xs)).ld)):=by
 have hn:=h.hn
 have HT:=lh9 (λw' (hb:Below w.heap.size w w')=>hT.on hb)
 have hdW:zbe (zcC n m p MM xs) n p:=zgm n m p MM xs
 have hok:=zcn hdW
 obtain⟨s1,-,-,-⟩:=zgL hdW hn hW
 have HS1:=lh9 s1
 have HLM:Hid (∀l ∈(zaE p (zcC n m p MM xs)).ld,l<p):=ok_lt hok
 have HLN:Hid ((zaE p (zcC n m p MM xs)).ld.length<=n):=ok_len hok
 have HZW:Hid (zaB K0 (zcC n m p MM xs)):=zjd hp h.dims z hv.len zx
 obtain⟨bx1,bx2,-⟩:=zax w 32 #[.slice A n c,.int .i64 (m:Int)]
 obtain⟨p0,p1⟩:=bx2.c2
 have HWC:Hid (Calls _ _ _ _ (zfy _ n p (zcC n m p MM xs))):=(zlE (K:=K0) hp (hT.on bx1) (h.keep bx1) z (hv.keep bx1) zx hm6 (by omega))
 have HB:=lh9 bx1
 have HK2:=lh9 bx2
 have HREDA:Hid (∀(w':World) (A':oA9) (c':Nat),zai w'->zaU w' A' n c' p (zcC n m p MM xs)->Hid (Calls Tryz.prog 40 #[.agg #[.slice A' n c',.int .i64 (p:Int)]] w' (zgr w' n p (zcY p (zcC n m p MM xs)) (zaE p (zcC n m p MM xs)).ld))):=λw' A' c' h1 h2=>zgA h1 h2 HZW.out hW hK hK0 hKp
 obtain⟨ld,hld⟩:∃ld,(zaE p (zcC n m p MM xs)).ld=ld:=⟨_,rfl⟩
 obtain⟨RM,hRM⟩:∃RM,zcY p (zcC n m p MM xs)=RM:=⟨_,rfl⟩
 rw [hld] at HLM HLN HREDA⊢
 rw [hRM] at HS1 HREDA⊢
 unfold zgs
 clear hT h z hW bx1 bx2 hok s1 hRM hld hv zx hdW HZW
 have i0:(0:Int)<=(m:Int):=by omega
 go_enter Tryz.func35,Tryz.ntmps35
 go_wp2_with fail
 clear p0 p1
 generalize w.alloc (.cells #[.slice A n c,.int .i64 (m:Int)] 32)=W1 at*
 refine HWC.out.mono ?_
 rintro eo w2 ⟨A2,c2,rfl,hm2,-,hb⟩
 obtain⟨bx1,bx2,-⟩:=zax w2 32 #[.slice A2 n c2,.int .i64 (p:Int)]
 obtain⟨p0,p1⟩:=bx2.c2
 have hbx:=zaa hb bx1
 have HB:=lh9 (zaa HB.out hbx)
 have HK2:=lh9 (zab hbx HK2.out)
 have HRED:=HREDA.out _ A2 c2 (HT.out _ HB.out) (hm2.keep bx1)
 clear hb hm2 bx1 bx2 hbx HWC HREDA
 go_wp2_with fail
 clear p0 p1
 generalize w2.alloc (.cells #[.slice A2 n c2,.int .i64 (p:Int)] 32)=W3 at*
 refine HRED.out.mono ?_
 rintro eo w4 ⟨A4,c4,B4,k4,cB4,rfl,hk4,hm4,hI4,hc3,hc4,hb⟩
 obtain⟨bx1,bx2,-⟩:=zax w4 32 #[.slice A4 n c4,.int .i64 (p:Int)]
 have hbx:=zaa hb bx1
 have HB:=lh9 (zaa HB.out hbx)
 have HK2:=lh9 (zab hbx HK2.out)
 have HM4:=lh9 (hm4.keep bx1)
 have HI4:=lh9 (hI4.keep bx1)
 have HK9:=lh9 bx2
 have HKK:=lh9 hk4
 obtain⟨p0,p1⟩:=HK2.out.c2
 clear hb hm4 hI4 bx1 bx2 hbx HRED hk4
 go_wp2_with fail
 clear p0 p1
 generalize w4.alloc (.cells #[.slice A4 n c4,.int .i64 (p:Int)] 32)=W5 at*
 generalize w4.heap.size=q9 at*
 refine(zbw A n c (m:Int) _).mono ?_
 rintro eo w6 ⟨rfl,hb⟩
 have HB:=lh9 (zaa HB.out hb)
 have HK2:=lh9 (zab hb HK2.out)
 have HK9:=lh9 (zab hb HK9.out)
 have HM4:=lh9 (HM4.out.keep hb)
 have HI4:=lh9 (HI4.out.keep hb)
 clear hb
 go_wp2_with fail
 by_cases hin:m ∈ ld
 ·have hX:solX m ld RM=[]:=by unfold solX;rw [if_pos hin]
  have hN:solN m ld=1:=by unfold solN;rw [if_pos hin]
  have HX:=lh9 hX
  have HN:=lh9 hN
  refine(zdk (decide_eq_true (zhQ.2 hin)) HI4.out (by have:=HKK.out;have:=HLN.out;omega)).mono ?_
  rintro eo w7 ⟨rfl,hb⟩
  have HB:=lh9 (zaa HB.out hb)
  have HV:=lh9 (zaN.nil (E:=zah) w7)
  clear hb hin hX hN
  go_wp2
  refine bodyPost_ret (v:=.tuple #[.slice none 0 0,.int .i64 1,.bool true]) (by simp [results,Tryz.results35,go_sem]) rfl ?_
  exact⟨none,0,0,by rw [HN.out],by rw [HX.out];exact HV.out,HB.out⟩
 ·have hX:solX m ld RM=ziV m ld RM ld.length:=by unfold solX;rw [if_neg hin]
  have hN:solN m ld=if ld.length<m then 3 else 2:=by unfold solN;rw [if_neg hin]
  have HX:=lh9 hX
  have HN:=lh9 hN
  have HLM2:Hid (∀i,i<ld.length->ld.getD i 0<m):=λi hi=>by
   have h1:=HLM.out _ (zcE hi)
   have h2:ld.getD i 0≠m:=λe=>hin (e▸zcE hi)
   omega
  refine(zdk (decide_eq_false (λh9=>hin (zhQ.1 h9))) HI4.out (by have:=HKK.out;have:=HLN.out;omega)).mono ?_
  rintro eo w7 ⟨rfl,hb⟩
  have HB:=lh9 (zaa HB.out hb)
  have HK2:=lh9 (zab hb HK2.out)
  have HK9:=lh9 (zab hb HK9.out)
  have HM4:=lh9 (HM4.out.keep hb)
  have HI4:=lh9 (HI4.out.keep hb)
  obtain⟨p0,p1⟩:=HK2.out.c2
  clear hb hin hX hN
  go_wp2_with fail
  clear p0 p1
  refine(zbw A n c (m:Int) _).mono ?_
  rintro eo w8 ⟨rfl,hb⟩
  have HB:=lh9 (zaa HB.out hb)
  have HK2:=lh9 (zab hb HK2.out)
  have HK9:=lh9 (zab hb HK9.out)
  have HM4:=lh9 (HM4.out.keep hb)
  have HI4:=lh9 (HI4.out.keep hb)
  clear hb
  have HM8:=lh9 (λw' (hb:Below w8.heap.size w8 w')=>HM4.out.keep hb)
  have HI8:=lh9 (λw' (hb:Below w8.heap.size w8 w')=>HI4.out.keep hb)
  have HK28:=lh9 (λw' (hb:Below w8.heap.size w8 w')=>zab hb HK2.out)
  have HK98:=lh9 (λw' (hb:Below w8.heap.size w8 w')=>zab hb HK9.out)
  have HT8:=lh9 (λw' (hb:Below w8.heap.size w8 w')=>HT.out w' (zaa HB.out hb))
  have HL2:=lh9 HK2.out.lt
  have HL9:=lh9 HK9.out.lt
  clear HM4 HI4 HK2 HK9 HT
  go_wp2_with fail
  (with_reducible refine(ziZ m _ (by omega)).mono ?_)
  rintro eo w9 ⟨g9,rfl,hg9,ho9,hB9⟩
  have hx9:zbL w9 g9 m (ziV m ld RM 0):=ho9
  clear ho9
  go_wp2_with fail
  go_loopg [40] (k4+1) (λgg ix wx=>∃(r:Nat),r<=k4/\k4<gg+r/\ix=.int .i64 r/\zbL wx g9 m (ziV m ld RM r)/\Below w8.heap.size w8 wx)
  case atStart=>exact⟨0,Nat.zero_le _,by omega,rfl,hx9,hB9⟩
  case round=>
   clear hx9 hB9
   obtain⟨r,hrk,hg2,rfl,hx,hB7⟩:=hrel
   by_cases hlr:r<k4
   ·have hd3:decide ((r:Int)<(k4:Int))=true:=decide_eq_true (by omega)
    have i1:(0:Int)<=(r:Int):=by omega
    have i2:(r:Int)<(k4:Int):=by omega
    have hrl:r<ld.length:=by rw [<-HKK.out];exact hlr
    have HB7:=lh9 hB7
    obtain⟨ad,hadB,hc⟩:=(HI8.out _ hB7).num r hlr
    rw [zmX hrl] at hc
    have hlm:ld.getD r 0<m:=HLM2.out r hrl
    have HKS:=lh9 (znC m ld RM r)
    obtain⟨l,hl⟩:∃l,ld.getD r 0=l:=⟨_,rfl⟩
    rw [hl] at hc hlm HKS
    have i3:(0:Int)<=(l:Int):=by omega
    have i4:(l:Int)<(m:Int):=by omega
    have hrn:r<n:=by have:=HLN.out;omega
    have hmp:m<p:=by omega
    have HX7:=lh9 hx
    subst hadB
    clear hx hB7 hl
    go_upto_region 11 with fail
    clear hc
    obtain⟨p0,p1⟩:=(HK98.out _ HB7.out).c2
    obtain⟨p2,p3⟩:=(HK28.out _ HB7.out).c2
    have hbd:=(Below.refl wr.heap.size wr).drew
    refine rg (csc p0 (csc p1 (csc p2 (csc p3 csn)))) (λhHeld=>?_)
    have HX7:=lh9 (HX7.out.keep hbd)
    have HB7:=lh9 (zaa HB7.out hbd)
    clear p0 p1 p2 p3 hbd
    generalize wr.drew=D at*
    refine tk 0 ?_
    refine tk 1 ?_
    refine tk 2 ?_
    refine tk 3 ?_
    refine tk 4 ?_
    refine rc 5 (λKK hKQ=>?_)
    go_simp
    refine(zbw A n c (m:Int) _).mono ?_
    rintro eo w11 ⟨rfl,hb⟩
    refine hKQ.out _ _ (Cs.below hHeld hb) (λhHeld=>?_)
    have HX7:=lh9 (HX7.out.keep hb)
    have HB7:=lh9 (zaa HB7.out hb)
    clear hKQ KK hb
    refine rc 6 (λKK hKQ=>?_)
    go_simp
    (with_reducible refine(mat_at (HT8.out _ HB7.out) (HM8.out _ HB7.out) HS1.out hrn hmp (by omega)).mono ?_)
    rintro eo w12 ⟨b8,A8,n8,c8,E8,k8,f8,rfl,hw8,hb⟩
    refine hKQ.out _ _ (Cs.below hHeld hb) (λhHeld=>?_)
    have hX9:=HX7.out.keep hb
    have hr4:=zbf.set_ zaf hX9 hlm hw8
    rw [<-HKS.out] at hr4
    obtain⟨q0,q1,q2,sc0,sf0,sc1,sf1,sc2,sf2⟩:=hX9.ready hlm (.bool b8) (.slice A8 n8 c8)
    have HR4:=lh9 hr4
    have HB9:=lh9 (zbB (l*3) (l*3+1) (l*3+2) (.bool b8) (.slice A8 n8 c8) (.slice E8 k8 f8) hg9 (zaa HB7.out hb))
    clear hKQ KK hb hw8 hX9 hr4 HX7 HB7 HKS
    refine tk 7 ?_
    refine rc 8 (λKK hKQ=>?_)
    go_simp
    refine hKQ.out _ _ (Cs.far hHeld ((((zaY.refl g9 w12).set_ (l*3) (.bool b8)).set_ (l*3+1) (.slice A8 n8 c8)).set_ (l*3+2) (.slice E8 k8 f8)) ⟨(by have:=HL9.out;show q9≠g9;omega),(by have:=HL9.out;show q9≠g9;omega),(by have:=HL2.out;show w.heap.size≠g9;omega),(by have:=HL2.out;show w.heap.size≠g9;omega),trivial⟩) (λhHeld=>?_)
    clear hKQ KK sc0 sf0 sc1 sf1 sc2 sf2
    refine rdn ?_
    clear hHeld
    go_wp2
    go_roundg (k4 - r)
    case measure=>omega
    case rel=>exact⟨r+1,by omega,by omega,by go_num,HR4.out,HB9.out⟩
   ·have hk9:r=k4:=by omega
    have hd3:decide ((r:Int)<(k4:Int))=false:=by rw [hk9];simp
    have HXF:Hid (zbL wr g9 m (solX m ld RM)):=by rw [HX.out,<-HKK.out,<-hk9];exact hx
    have HB7:=lh9 hB7
    obtain⟨p2,p3⟩:=(HK28.out _ hB7).c2
    clear hx hB7 hk9
    go_wp2_with fail
    clear p2 p3
    refine(zbw A n c (m:Int) _).mono ?_
    rintro eo w11 ⟨rfl,hb⟩
    have HXF:=lh9 (HXF.out.keep hb)
    have HBF:=lh9 (zaa HB.out (zaa HB7.out hb))
    clear hb HB7
    by_cases hlt:k4<m
    ·have d5:decide ((k4:Int)<(m:Int))=true:=decide_eq_true (by omega)
     have hN3:solN m ld=3:=by rw [HN.out,if_pos (by rw [<-HKK.out];exact hlt)]
     have HN3:=lh9 hN3
     clear hN3
     go_wp2
     refine bodyPost_ret (v:=.tuple #[.slice (some ⟨g9,0,none⟩) m m,.int .i64 3,.bool true]) (by simp [results,Tryz.results35,go_sem]) rfl ?_
     exact⟨_,_,_,by rw [HN3.out],zaI HXF.out,HBF.out⟩
    ·have d5:decide ((k4:Int)<(m:Int))=false:=decide_eq_false (by omega)
     have hN2:solN m ld=2:=by rw [HN.out,if_neg (by rw [<-HKK.out];exact hlt)]
     have HN2:=lh9 hN2
     clear hN2
     go_wp2
     refine bodyPost_ret (v:=.tuple #[.slice (some ⟨g9,0,none⟩) m m,.int .i64 2,.bool true]) (by simp [results,Tryz.results35,go_sem]) rfl ?_
     exact⟨_,_,_,by rw [HN2.out],zaI HXF.out,HBF.out⟩
end
theorem unit_get {m c j:Nat}(hc:c<m)(hj:j<m):(zfw m c).getD j 0=if j=c then 1 else 0:=by
 unfold zfw
 rw [List.getD_eq_getElem?_getD,List.getElem?_set]
 by_cases e:j=c
 ·rw [if_pos e.symm,if_pos (by rw [List.length_replicate];omega),if_pos e];rfl
 ·rw [if_neg (Ne.symm e),if_neg e,List.getElem?_replicate,if_pos hj];rfl
theorem zhl (m c:Nat):(zfw m c).length=m:=by unfold zfw;simp
theorem zeI {m:Nat}{ld:List Nat}{R:List (List Rat)}{c j:Nat}(hc:c<m)(hj:j<m)(h:j ∉ ld):∀i,i<=ld.length->(zdo m ld R c i).getD j 0=if j=c then 1 else 0
 |0,_=>unit_get hc hj
 |i+1,hi=>by
   rw [zeJ,List.getD_eq_getElem?_getD,List.getElem?_set,if_neg (λe:ld.getD i 0=j=>h (by rw [<-e];exact zcE (by omega))),<-List.getD_eq_getElem?_getD]
   exact zeI hc hj h i (by omega)
theorem zgg {n m:Nat}{ld:List Nat}{M:Nat->Nat->Rat}{R:List (List Rat)}{c q:Nat}(h:RF n m M ld (atM R))(hq:q<ld.length):∀i,i<=ld.length->q<i->(zdo m ld R c i).getD (ld.getD q 0) 0= -atM R q c
 |0,_,h0=>by omega
 |i+1,hi,hqi=>by
   rw [zeJ,List.getD_eq_getElem?_getD,List.getElem?_set,zel (zhl m c)]
   by_cases e:i=q
   ·subst e
    rw [if_pos rfl,if_pos (h.lt i hq)];rfl
   ·rw [if_neg (λe2=>e (h.inj (by omega) hq e2)),<-List.getD_eq_getElem?_getD]
    exact zgg h hq i (by omega) (by omega)
theorem kerTo_at {n m:Nat}{ld:List Nat}{M:Nat->Nat->Rat}{R:List (List Rat)}{c j:Nat}(h:RF n m M ld (atM R))(hc:c<m)(hn:c ∉ ld)(hj:j<m):(zdo m ld R c ld.length).getD j 0=kerF ld (atM R) c j:=by
 by_cases hl:j ∈ ld
 ·obtain⟨q,hq,rfl⟩:=zdJ hl
  rw [zgg h hq _ (Nat.le_refl _) hq,h.ker_lead hn hq]
 ·rw [zeI hc hj hl _ (Nat.le_refl _),zjB hl]
theorem zln {ld:List Nat}{m c:Nat}:c ∈ zbv ld m↔c<m/\c ∉ ld:=by
 unfold zbv
 rw [List.mem_filter,List.mem_range]
 simp
theorem zmL (ld:List Nat)(m:Nat):(zbv ld m).Nodup:=by
 unfold zbv
 exact List.nodup_range.sublist List.filter_sublist
theorem zeH:∀{ld:List Nat} {m:Nat},ld.Pairwise (·<·)->(∀l ∈ ld,l<m)->(zbv ld m).length+ld.length=m
 |ld,0,_,h=>by
   have:ld=[]:=by
    cases ld with
    |nil=>rfl
    |cons x xs=>exact absurd (h x List.mem_cons_self) (by omega)
   subst this;rfl
 |ld,m+1,hp,h=>by
   by_cases hm:m ∈ ld
   ·-- m is the last one
    have h1:=zeH (ld:=ld.erase m) (m:=m) (hp.sublist (List.erase_sublist)) λl hl=>by
     have hn:ld.Nodup:=hp.imp fun{a b} hab=>by omega
     have h2:=(hn.mem_erase_iff).1 hl
     have:=h l h2.2
     have:=h2.1
     omega
    have h3:(zbv ld (m+1))=zbv (ld.erase m) m:=by
     unfold zbv
     rw [List.range_succ,List.filter_append]
     have:List.filter (λc=> !decide (c ∈ ld)) [m]=[]:=by simp [hm]
     rw [this,List.append_nil]
     refine List.filter_congr λc hc=>?_
     have hne:c≠m:=by have:=List.mem_range.1 hc;omega
     have:=List.mem_erase_of_ne (l:=ld) hne
     simp [this]
    rw [h3]
    rw [List.length_erase_of_mem hm] at h1
    have:=List.length_pos_of_mem hm
    omega
   ·have h1:=zeH (ld:=ld) (m:=m) hp λl hl=>by
     have:=h l hl
     have:l≠m:=λe=>hm (e▸hl)
     omega
    have h3:(zbv ld (m+1))=zbv ld m++[m]:=by
     unfold zbv
     rw [List.range_succ,List.filter_append]
     simp [hm]
    rw [h3,List.length_append]
    show _+1+_=_
    omega
structure KerOk (n m:Nat)(X:List (List Rat))(ld:List Nat)(KM:List (List Rat)):Prop where
 len:KM.length+ld.length=m
 dims:zbe KM KM.length m
 zero:∀i,i<KM.length->zec (zdh X (KM.getD i []))<0
 one:∀i,i<KM.length->∃c,c<m/\c ∉ ld/\∀j,j<m->j ∉ ld->(KM.getD i []).getD j 0=if j=c then 1 else 0
 rank:(zaE m KM).ld.length=KM.length
theorem znV {m:Nat}{ld:List Nat}{R:List (List Rat)}{i:Nat}(h:i<(zbv ld m).length):(zcd m ld R m).getD i []=zdo m ld R ((zbv ld m).getD i 0) ld.length:=by
 unfold zcd
 rw [List.getD_eq_getElem?_getD,List.getElem?_map,List.getD_eq_getElem?_getD,List.getElem?_eq_getElem h];rfl
theorem ker_ok {n m:Nat}{X:List (List Rat)}(h:zbe X n m):KerOk n m X (zaE m X).ld (zcd m (zaE m X).ld (zcY m X) m):=by
 have hr:=znx h
 obtain⟨ld,hld⟩:∃ld,(zaE m X).ld=ld:=⟨_,rfl⟩
 obtain⟨R,hR⟩:∃R,zcY m X=R:=⟨_,rfl⟩
 rw [hld,hR] at hr⊢
 have hlen:(zcd m ld R m).length=(zbv ld m).length:=by unfold zcd;rw [List.length_map]
 have hfl:=zeH hr.rising λl hl=>by obtain⟨q,hq,rfl⟩:=zdJ hl;exact hr.lt q hq
 have hfree:∀i,i<(zbv ld m).length->(zbv ld m).getD i 0<m/\(zbv ld m).getD i 0 ∉ ld:=λi hi=>zln.1 (zcE hi)
 have hdim:zbe (zcd m ld R m) (zcd m ld R m).length m:=⟨rfl,λL hL=>by
  unfold zcd at hL
  obtain⟨c,_,rfl⟩:=List.mem_map.1 hL
  exact zel (zhl m c) _⟩
 have hone:∀i,i<(zcd m ld R m).length->∀j,j<m->j ∉ ld->((zcd m ld R m).getD i []).getD j 0=if j=(zbv ld m).getD i 0 then 1 else 0:=λi hi j hj hjl=>by
  rw [hlen] at hi
  rw [znV hi]
  exact zeI (hfree i hi).1 hj hjl _ (Nat.le_refl _)
 refine⟨by rw [hlen];exact hfl,hdim,λi hi=>?_,λi hi=>?_,?_⟩
 ·have hi2:=hi
  rw [hlen] at hi2
  refine(zmJ _).2 λx hx=>?_
  unfold zdh at hx
  obtain⟨L,hL,rfl⟩:=List.mem_map.1 hx
  obtain⟨a,ha,rfl⟩:=List.mem_iff_getElem.1 hL
  have ha2:a<n:=by rw [<-h.rows];exact ha
  have e1:X[a]=X.getD a []:=by rw [List.getD_eq_getElem?_getD,List.getElem?_eq_getElem ha];rfl
  rw [e1,zoC (k:=m) (h.row ha2) (hdim.row hi),znV hi2]
  refine Eq.trans (zav λj hj=>?_) (hr.ker (hfree i hi2).1 ha2)
  rw [kerTo_at hr (hfree i hi2).1 (hfree i hi2).2 hj];rfl
 ·exact⟨_,(hfree i (by rw [<-hlen];exact hi)).1,(hfree i (by rw [<-hlen];exact hi)).2,hone i hi⟩
 ·refine(znx hdim).full λu hu i hi=>?_
  have hi2:=hi
  rw [hlen] at hi2
  have e:=hu _ (hfree i hi2).1
  have e2:zaF (zcd m ld R m).length (λq=>u q*atM (zcd m ld R m) q ((zbv ld m).getD i 0))=zaF (zcd m ld R m).length (λq=>u q*if q=i then 1 else 0):=zav λq hq=>by
   show u q*((zcd m ld R m).getD q []).getD _ 0=_
   rw [hone q hq _ (hfree i hi2).1 (hfree i hi2).2]
   by_cases eq:q=i
   ·rw [if_pos eq,if_pos (by rw [eq])]
   ·rw [if_neg eq,if_neg]
    intro e3
    rw [hlen] at hq
    rw [List.getD_eq_getElem?_getD,List.getD_eq_getElem?_getD,List.getElem?_eq_getElem hq,List.getElem?_eq_getElem hi2] at e3
    have hnd:=List.pairwise_iff_getElem.1 (zmL ld m)
    rcases Nat.lt_trichotomy q i with a|a|a
    ·exact hnd q i hq hi2 a e3.symm
    ·exact eq a
    ·exact hnd i q hi2 hq a e3
  rw [e2,zpy hi] at e
  exact e
theorem ker_sz {n m K:Nat}{X:List (List Rat)}(h:zbe X n m)(hz:zaB K (zcY m X))(hK:1<=K):zaB K (zcd m (zaE m X).ld (zcY m X) m):=by
 have hr:=znx h
 intro L hL
 unfold zcd at hL
 obtain⟨c,hc,rfl⟩:=List.mem_map.1 hL
 obtain⟨h1,h2⟩:=zln.1 hc
 intro x hx
 obtain⟨j,hj,rfl⟩:=List.mem_iff_getElem.1 hx
 have hj2:=hj
 rw [zel (zhl m c)] at hj2
 have e1:(zdo m (zaE m X).ld (zcY m X) c (zaE m X).ld.length)[j]=(zdo m (zaE m X).ld (zcY m X) c (zaE m X).ld.length).getD j 0:=by rw [List.getD_eq_getElem?_getD,List.getElem?_eq_getElem hj];rfl
 rw [e1]
 by_cases hl:j ∈(zaE m X).ld
 ·obtain⟨q,hq,rfl⟩:=zdJ hl
  rw [zgg hr hq _ (Nat.le_refl _) hq]
  exact(hz.at_ (zjM h) (by have:=hr.len;omega) h1).neg
 ·rw [zeI h1 hj2 hl _ (Nat.le_refl _)]
  split
  ·exact SzQ.up (K:=1) (r:=1) ⟨by decide,by decide⟩ hK
  ·exact SzQ.up (K:=1) (r:=0) ⟨by decide,by decide⟩ hK
theorem zlL {cc j:Nat}(h:j≠cc):(if cc<j then(1:Int) else 0)=if cc<j+1 then 1 else 0:=by
 by_cases e:cc<j
 ·rw [if_pos e,if_pos (by omega)]
 ·rw [if_neg e,if_neg (by omega)]
def Seen (b:Bool)(ld:List Nat)(l j:Nat):Prop:=b=true↔∃q,q<l/\ld.getD q 0=j
