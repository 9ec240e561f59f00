/- What this claim leans on. -/
import Derived.Test.YtghpdeciaaagnaaGreatDoorIMEdit
namespace Go.Proofs.YtghpdeciaaagnaaGreatDoor
open Go Go.RowKit
set_option maxHeartbeats 16000000
set_option maxRecDepth 100000
set_option linter.unusedVariables false
set_option linter.unusedSimpArgs false
def zfF (m:Nat)(ld:List Nat)(R:List (List Rat))(c i:Nat):List Rat:=(List.range i).foldl (λx r=>x.set (ld.getD r 0) (-atM R r c)) (zec m c)
theorem zju (m:Nat)(ld:List Nat)(R:List (List Rat))(c i:Nat):zfF m ld R c (i+1)=(zfF m ld R c i).set (ld.getD i 0) (-atM R i c):=by unfold zfF;rw [List.range_succ,List.foldl_append];rfl
theorem zkR {m:Nat}{ld:List Nat}{R:List (List Rat)}{c:Nat}(h:(zec m c).length=m)(i:Nat):(zfF m ld R c i).length=m:=by
 induction i with
 |zero=>exact h
 |succ i ih=>rw [zju,List.length_set,ih]
def zlH (ld:List Nat)(i:Nat):List Nat:=(List.range i).filter λc=> !decide (c ∈ ld)
def zgs (m:Nat)(ld:List Nat)(R:List (List Rat))(i:Nat):List (List Rat):=(zlH ld i).map λc=>zfF m ld R c ld.length
theorem kerM_yes {m:Nat}{ld:List Nat}{R:List (List Rat)}{i:Nat}(h:i ∉ ld):zgs m ld R (i+1)=zgs m ld R i++[zfF m ld R i ld.length]:=by
 unfold zgs zlH
 rw [List.range_succ,List.filter_append,List.map_append]
 simp [h]
theorem kerM_no {m:Nat}{ld:List Nat}{R:List (List Rat)}{i:Nat}(h:i ∈ ld):zgs m ld R (i+1)=zgs m ld R i:=by
 unfold zgs zlH
 rw [List.range_succ,List.filter_append,List.map_append]
 simp [h]
theorem kerM_le (m:Nat)(ld:List Nat)(R:List (List Rat))(i:Nat):(zgs m ld R i).length<=i:=by
 unfold zgs zlH
 rw [List.length_map]
 exact Nat.le_trans (List.length_filter_le _ _) (by rw [List.length_range];exact Nat.le_refl _)
theorem ziJ {ld:List Nat}{c:Nat}:((c:Int)∈ ldI ld)↔c ∈ ld:=by
 unfold ldI
 rw [List.mem_map]
 constructor
 ·rintro⟨l,hl,e⟩
  rwa [show c=l by omega]
 ·exact λh=>⟨c,h,rfl⟩
theorem ldI_at {ld:List Nat}{i:Nat}(h:i<ld.length):(ldI ld).getD i 0=((ld.getD i 0:Nat):Int):=by
 unfold ldI
 rw [List.getD_eq_getElem?_getD,List.getD_eq_getElem?_getD,List.getElem?_map,List.getElem?_eq_getElem h];rfl
def zms (w:World)(m:Nat)(Ls:List (List Rat))(eo:Ending)(w':World):Prop:=∃(A:oA9) (k c:Nat),eo=.returned (.slice A k c)/\k=Ls.length/\zaB (zaI zah) w' A k Ls/\(∀L ∈ Ls,L.length=m)/\k<=c/\c<=9223372036854775807/\Below w.heap.size w w'
section
variable {w:World}{A:oA9}{n c m K K0:Nat}{MM:List (List Rat)}
theorem elim_ker (hT:zai w)(h:zaR w A n c m MM)(z:zax K0 MM)(hW:zbS K MM)(hK:260*K+269<=33554432:=by omega)(hK0:K+K0<=33554432:=by omega)(hKp:0<K:=by omega):
  Calls Tryz.prog 62 #[.agg #[.slice A n c,.int .i64 (m:Int)]] w (zms w m (zgs m (zbg m MM).ld (zfS m MM) m)):=by
 obtain⟨hn,hm⟩:=And.intro h.hn h.hm
 have HT:=lh9 (λw' (hb:Below w.heap.size w w')=>hT.on hb)
 have hok:=zcx h.dims
 obtain⟨s1,-,-,-⟩:=zhw h.dims hn hW
 have HS1:=lh9 s1
 have HLM:Hid (∀l ∈(zbg m MM).ld,l<m):=ok_lt hok
 have HLN:Hid ((zbg m MM).ld.length<=n):=ok_len hok
 have HUL:Hid (∀j,(zec m j).length=m):=λj=>by unfold zec;simp
 obtain⟨bx1,bx2,-⟩:=zav w 28 #[.slice A n c,.int .i64 (m:Int)]
 obtain⟨p0,p1⟩:=bx2.c2
 have HRED:=lh9 (zjl (hT.on bx1) (h.keep bx1) z hW hK hK0 hKp)
 have HB:=lh9 bx1
 have HK1:=lh9 bx2
 obtain⟨st,hst⟩:∃st,zbg m MM=st:=⟨_,rfl⟩
 obtain⟨RM,hRM⟩:∃RM,zfS m MM=RM:=⟨_,rfl⟩
 rw [hst] at HLM HLN HRED⊢
 rw [hRM] at HS1 HRED⊢
 obtain⟨ld,hld⟩:∃ld,st.ld=ld:=⟨_,rfl⟩
 rw [hld] at HLM HLN HRED⊢
 have i0:(0:Int)<=(m:Int):=by omega
 unfold zms
 obtain⟨i9,hi9,hz9,hz10,hz11⟩:=info_parts zel
 clear hT h z hW bx1 bx2 hok s1 hst hRM hld
 go_enter Tryz.func62,Tryz.ntmps62
 go_wp2_with fail
 generalize w.alloc (.cells #[.slice A n c,.int .i64 (m:Int)] 28)=W1 at*
 refine HRED.out.mono ?_
 rintro eo w2 ⟨A2,c2,B2,k2,cB2,rfl,hk2,hm2,hI2,hc3,hc4,hb⟩
 obtain⟨bx1,bx2,-⟩:=zav w2 28 #[.slice A2 n c2,.int .i64 (m:Int)]
 have hbx:=zab hb bx1
 have HB:=lh9 (zab HB.out hbx)
 have HK1:=lh9 (zaa hbx HK1.out)
 have HM2:=lh9 (hm2.keep bx1)
 have HI2:=lh9 (hI2.keep bx1)
 have HK3:=lh9 bx2
 have HKK:=lh9 hk2
 obtain⟨p2,p3⟩:=HK1.out.c2
 clear hb hm2 hI2 bx1 bx2 hbx p0 p1 HRED hk2
 go_wp2_with fail
 generalize w2.alloc (.cells #[.slice A2 n c2,.int .i64 (m:Int)] 28)=W3 at*
 generalize w2.heap.size=q3 at*
 clear p2 p3
 refine(zbr A n c (m:Int) _).mono ?_
 rintro eo w4 ⟨rfl,hb⟩
 have HB:=lh9 (zab HB.out hb)
 have HK1:=lh9 (zaa hb HK1.out)
 have HK3:=lh9 (zaa hb HK3.out)
 have HM2:=lh9 (HM2.out.keep hb)
 have HI2:=lh9 (HI2.out.keep hb)
 clear hb
 have HM4:=lh9 (λw' (hb:Below w4.heap.size w4 w')=>HM2.out.keep hb)
 have HI4:=lh9 (λw' (hb:Below w4.heap.size w4 w')=>HI2.out.keep hb)
 have HK14:=lh9 (λw' (hb:Below w4.heap.size w4 w')=>zaa hb HK1.out)
 have HK34:=lh9 (λw' (hb:Below w4.heap.size w4 w')=>zaa hb HK3.out)
 have HT4:=lh9 (λw' (hb:Below w4.heap.size w4 w')=>HT.out w' (zab HB.out hb))
 have hB4:=Below.refl w4.heap.size w4
 clear HM2 HI2 HK1 HK3 HT
 go_wp2_with fail
 go_loopg [5,18] (m+1) (λg sl ix wr=>∃(i:Nat) (v:Value) (vs:List Value),i<=m/\m<g+i/\ix=.int .i64 i/\v=sl/\zbv (zaI zah) wr w4.heap.size 61 v (zgs m ld RM i) vs/\Below w4.heap.size w4 wr)
 case atStart=>exact⟨0,_,_,Nat.zero_le _,by omega,rfl,rfl,zbv.nil _ _ _,hB4⟩
 case round=>
  clear hB4
  obtain⟨i,v,vs,him,hg,rfl,rfl,hon,hB4⟩:=hrel
  by_cases hlt:i<m
  ·have hd1:decide ((i:Int)<(m:Int))=true:=decide_eq_true (by omega)
   have HON:=lh9 hon
   have HB4:=lh9 hB4
   clear hon hB4
   go_wp2_with fail
   by_cases hin:i ∈ ld
   ·refine(zdx (decide_eq_true (ziJ.2 hin)) (HI4.out _ HB4.out) (by have:=HKK.out;have:=HLN.out;omega)).mono ?_
    rintro eo w5 ⟨rfl,hb⟩
    have HON5:Hid (zbv (zaI zah) w5 w4.heap.size 61 v (zgs m ld RM (i+1)) vs):=by rw [kerM_no hin];exact HON.out.below (zam zaf) hb
    have HB5:=lh9 (zab HB4.out hb)
    clear hb hin HON HB4
    go_wp2
    go_roundg (m - i)
    case measure=>omega
    case rel=>exact⟨i+1,_,_,by omega,by omega,by go_num,rfl,HON5.out,HB5.out⟩
   ·have HNI:=lh9 hin
    refine(zdx (decide_eq_false (λh9=>hin (ziJ.1 h9))) (HI4.out _ HB4.out) (by have:=HKK.out;have:=HLN.out;omega)).mono ?_
    rintro eo w5 ⟨rfl,hb⟩
    have HB5:=lh9 (zab HB4.out hb)
    have HON:=lh9 (HON.out.below (zam zaf) hb)
    obtain⟨p0,p1⟩:=(HK14.out _ HB5.out).c2
    clear hb hin HB4
    go_wp2_with fail
    clear p0 p1
    refine(zbr A n c (m:Int) _).mono ?_
    rintro eo w6 ⟨rfl,hb⟩
    have HB5:=lh9 (zab HB5.out hb)
    have HON:=lh9 (HON.out.below (zam zaf) hb)
    clear hb
    have HON6:=lh9 (λw' (hb:Below w6.heap.size w6 w')=>HON.out.below (zam zaf) hb)
    have HB6:=lh9 (λw' (hb:Below w6.heap.size w6 w')=>zab HB5.out hb)
    have hB6:=Below.refl w6.heap.size w6
    clear HON HB5
    go_wp2_with fail
    (with_reducible refine(znE m i _ (HT4.out _ (HB6.out _ hB6)) hm hlt).mono ?_)
    rintro eo w7 ⟨g7,rfl,hg7,ho7,hB7⟩
    have hx7:zbU w7 g7 m (zfF m ld RM i 0):=ho7
    clear ho7 hB6
    go_wp2_with fail
    go_loopg [33] (k2+1) (λgg ix wx=>∃(r:Nat),r<=k2/\k2<gg+r/\ix=.int .i64 r/\zbU wx g7 m (zfF m ld RM i r)/\Below w6.heap.size w6 wx)
    case atStart=>exact⟨0,Nat.zero_le _,by omega,rfl,hx7,hB7⟩
    case round=>
     clear hx7 hB7
     obtain⟨r,hrk,hg2,rfl,hx,hB7⟩:=hrel
     by_cases hlr:r<k2
     ·have hd3:decide ((r:Int)<(k2:Int))=true:=decide_eq_true (by omega)
      have i1:(0:Int)<=(r:Int):=by omega
      have i2:(r:Int)<(k2:Int):=by omega
      have hrl:r<ld.length:=by rw [<-HKK.out];exact hlr
      have HB7:=lh9 hB7
      obtain⟨ad,hadB,hc⟩:=(HI4.out _ (HB6.out _ hB7)).num r hlr
      rw [ldI_at hrl] at hc
      have hlm:ld.getD r 0<m:=HLM.out _ (zeF hrl)
      have HKS:=lh9 (zju m ld RM i r)
      obtain⟨l,hl⟩:∃l,ld.getD r 0=l:=⟨_,rfl⟩
      rw [hl] at hc hlm HKS
      have i3:(0:Int)<=(l:Int):=by omega
      have i4:(l:Int)<(m:Int):=by omega
      obtain⟨p0,p1⟩:=(HK34.out _ (HB6.out _ hB7)).c2
      have hrn:r<n:=by have:=HLN.out;omega
      have HX:=lh9 hx
      subst hadB
      clear hx hB7 hl
      go_wp2_with fail
      (with_reducible refine(mat_at (HT4.out _ (HB6.out _ HB7.out)) (HM4.out _ (HB6.out _ HB7.out)) HS1.out hrn hlt (by omega)).mono ?_)
      rintro eo w8 ⟨b8,A8,n8,c8,E8,k8,f8,rfl,hw8,hb⟩
      have HX:=lh9 (HX.out.keep hb)
      have HB7:=lh9 (zab HB7.out hb)
      have HW8:=lh9 hw8
      have HZ8:=lh9 (HS1.out.at_ (HM4.out _ (HB6.out _ HB7.out)).dims hrn hlt)
      clear hb hw8 hc p0 p1
      go_wp2_with fail
      (with_reducible refine(ziP (atM RM r i) b8 A8 n8 c8 E8 k8 f8 _ (HT4.out _ (HB6.out _ HB7.out)) HW8.out (HZ8.out.fit HW8.out (by omega))).mono ?_)
      rintro eo w9 ⟨b9,A9,n9,c9,E9,k9,f9,rfl,hw9,hb⟩
      have hX9:=HX.out.keep hb
      have hr4:=zbm.set_ zaf hX9 hlm hw9
      rw [<-HKS.out] at hr4
      obtain⟨q0,q1,q2,sc0,sf0,sc1,sf1,sc2,sf2⟩:=hX9.ready hlm (.bool b9) (.slice A9 n9 c9)
      have HR4:=lh9 hr4
      have HB9:=lh9 (zbH (l*3) (l*3+1) (l*3+2) (.bool b9) (.slice A9 n9 c9) (.slice E9 k9 f9) hg7 (zab HB7.out hb))
      clear hb hw9 hX9 hr4 HX HB7 HW8 HKS
      go_wp2
      go_roundg (k2 - r)
      case measure=>omega
      case rel=>exact⟨r+1,by omega,by omega,by go_num,HR4.out,HB9.out⟩
     ·have hk9:r=k2:=by omega
      have hd3:decide ((r:Int)<(k2:Int))=false:=by rw [hk9];simp
      have hx9:zbU wr g7 m (zfF m ld RM i ld.length):=by rw [<-HKK.out,<-hk9];exact hx
      obtain⟨t1,t2,-⟩:=zav wr 61 #[.slice (some ⟨g7,0,none⟩) m m]
      have hup:=zab hB7 t1
      have HONX:=lh9 (HON6.out _ hup)
      have HVX:=lh9 (zaz.keep (zaJ hx9) t1)
      have HBX:=lh9 (HB6.out _ hup)
      have hown:=HONX.out.own
      obtain⟨kk,hkk⟩:∃kk,(zgs m ld RM i).length=kk:=⟨_,rfl⟩
      have hkki:kk<=i:=by rw [<-hkk];exact kerM_le m ld RM i
      rw [hkk] at hown
      have HKL:=lh9 hkk
      have HOWN:=lh9 hown
      have HSL:=lh9 HONX.out.sl
      have HCELL:=lh9 (zck wr (.slice (some ⟨g7,0,none⟩) m m) 61)
      have HBS:=lh9 HBX.out.size
      have HOB:=lh9 (λr (h:v.ownBlock=some r)=>HONX.out.own.lt r h)
      have HZS:Hid (∀u ∈(Value.slice none 0 0).cells.toList,zcr u):=by intro u hu;simp [Value.cells] at hu;exact⟨_,_,_,hu⟩
      have HNN:Hid (∀u ∈ [Value.slice (some ⟨g7,0,none⟩) m m],zcr u):=by intro u hu;simp at hu;exact⟨_,_,_,hu⟩
      have HONE:Hid (∀u ∈ [Value.slice (some ⟨g7,0,none⟩) m m],u.oneCell'=true):=by intro u hu;simp at hu;subst hu;rfl
      have HKT:Hid ((zfF m ld RM i ld.length).length=m):=zkR (HUL.out i) _
      clear hx hx9 hB7 t1 t2 hup hown hkk hk9
      go_wp2_with (at_builtin;go_loud (refine zcF _ rfl (.tmp 47) (.tmp 49) 26 rfl w4.heap.size 61 i9 (.slice none 0 0) 1 24 Tryz.underlying26 hi9 hz9 hz10 hz11 rfl (by decide) v kk vs rfl HOWN.out ⟨wr.heap.size,0,none⟩ 1 1 [.slice (some ⟨g7,0,none⟩) m m] rfl rfl HCELL.out HONE.out (by unfold maxLen;omega) (by omega) HBS.out HSL.out HZS.out HNN.out ?_;intro v' w8 hown' hgrow hat hsl'))
      have hon8:=zbv.grow (n:=kk+1) (L:=zfF m ld RM i ld.length) (zam zaf) HONX.out HVX.out HKT.out hown' (by rw [HKL.out]) hgrow hsl'
      rw [<-kerM_yes HNI.out] at hon8
      have HON8:=lh9 hon8
      have HB8:=lh9 (HBX.out.grown hgrow HBS.out (λr hr=>(HOB.out r hr).1))
      clear hon8 hown' hgrow hat hsl' HONX HVX HOWN HSL HCELL HBS HOB HZS HNN HONE HBX
      go_wp2
      go_roundg (m - i)
      case measure=>omega
      case rel=>exact⟨i+1,_,_,by omega,by omega,by go_num,rfl,HON8.out,HB8.out⟩
  ·have hk9:i=m:=by omega
   subst hk9
   have hd1:decide ((i:Int)<(i:Int))=false:=by simp
   obtain⟨Q5,q5,e5,hq1,hq2,hr5,-⟩:=hon.shape (n:=(zgs i ld RM i).length) rfl
   subst e5
   have HR5:=lh9 hr5
   have HB9:=lh9 (zab HB.out hB4)
   have HQ:=lh9 (And.intro hq1 hq2)
   have HLL:Hid (∀L ∈ zgs i ld RM i,L.length=i):=λL hL=>by
    unfold zgs at hL
    obtain⟨j,_,rfl⟩:=List.mem_map.1 hL
    exact zkR (HUL.out j) _
   clear hon hB4 hr5 hq1 hq2
   go_wp2
   go_ret
   exact⟨Q5,_,q5,rfl,rfl,HR5.out,HLL.out,HQ.out.1,HQ.out.2,HB9.out⟩
end
def zkc (m:Nat)(ld:List Nat)(R:List (List Rat))(i:Nat):List Rat:=(List.range i).foldl (λx r=>x.set (ld.getD r 0) (atM R r m)) (List.replicate m 0)
theorem zpb (m:Nat)(ld:List Nat)(R:List (List Rat))(i:Nat):zkc m ld R (i+1)=(zkc m ld R i).set (ld.getD i 0) (atM R i m):=by unfold zkc;rw [List.range_succ,List.foldl_append];rfl
def solX (m:Nat)(ld:List Nat)(R:List (List Rat)):List Rat:=if m ∈ ld then [] else zkc m ld R ld.length
def solN (m:Nat)(ld:List Nat):Int:=if m ∈ ld then 1 else if ld.length<m then 3 else 2
def zgY (w:World)(xs:List Rat)(z:Int)(eo:Ending)(w':World):Prop:=∃(A:oA9) (k c:Nat),eo=.returned (.tuple #[.slice A k c,.int .i64 z,.bool true])/\zaz w' A k c xs/\Below w.heap.size w w'
def zcJ (n m p:Nat)(MM:List (List Rat))(xs:List Rat):List (List Rat):=zdh n p λa b=>if b=m then xs.getD a 0 else atM MM a b
theorem zgT (n m p:Nat)(MM:List (List Rat))(xs:List Rat):zaN (zcJ n m p MM xs) n p:=zcq _ _ _
theorem zkm {n m p K:Nat}{MM:List (List Rat)}{xs:List Rat}(hp:m+1=p)(hd:zaN MM n m)(h:zax K MM)(hl:xs.length=n)(hx:zau K xs):zax K (zcJ n m p MM xs):=zax.tab λr c hr hc=>by
 by_cases e:c=m
 ·rw [if_pos e];exact hx.at_ (by omega)
 ·rw [if_neg e];exact h.at_ hd hr (by omega)
section
variable {w:World}{A:oA9}{n c m K K0:Nat}{MM:List (List Rat)}{V:oA9}{k cv:Nat}{xs:List Rat}
theorem zjm {p:Nat}(hp:m+1=p)(hT:zai w)(h:zaR w A n c m MM)(z:zax K0 MM)(hv:zaz w V n cv xs)(zx:zau K0 xs)(hm6:m<64)(hW:zbS K (zcJ n m p MM xs))(hK:260*K+269<=33554432:=by omega)(hK0:K+K0<=33554432:=by omega)(hKp:0<K:=by omega):
  Calls Tryz.prog 28 #[.agg #[.slice A n c,.int .i64 (m:Int)],.slice V n cv] w (zgY w (solX m (zbg p (zcJ n m p MM xs)).ld (zfS p (zcJ n m p MM xs))) (solN m (zbg p (zcJ n m p MM xs)).ld)):=by
 have hn:=h.hn
 have HT:=lh9 (λw' (hb:Below w.heap.size w w')=>hT.on hb)
 have hdW:zaN (zcJ n m p MM xs) n p:=zgT n m p MM xs
 have hok:=zcx hdW
 obtain⟨s1,-,-,-⟩:=zhw hdW hn hW
 have HS1:=lh9 s1
 have HLM:Hid (∀l ∈(zbg p (zcJ n m p MM xs)).ld,l<p):=ok_lt hok
 have HLN:Hid ((zbg p (zcJ n m p MM xs)).ld.length<=n):=ok_len hok
 have HZW:Hid (zax K0 (zcJ n m p MM xs)):=zkm hp h.dims z hv.len zx
 obtain⟨bx1,bx2,-⟩:=zav w 28 #[.slice A n c,.int .i64 (m:Int)]
 obtain⟨p0,p1⟩:=bx2.c2
 have HWC:Hid (Calls _ _ _ _ (zcU _ n p (zcJ n m p MM xs))):=(znd (K:=K0) hp (hT.on bx1) (h.keep bx1) z (hv.keep bx1) zx hm6 (by omega))
 have HB:=lh9 bx1
 have HK2:=lh9 bx2
 have HREDA:Hid (∀(w':World) (A':oA9) (c':Nat),zai w'->zaR w' A' n c' p (zcJ n m p MM xs)->Hid (Calls Tryz.prog 61 #[.agg #[.slice A' n c',.int .i64 (p:Int)]] w' (ziW w' n p (zfS p (zcJ n m p MM xs)) (zbg p (zcJ n m p MM xs)).ld))):=λw' A' c' h1 h2=>zjl h1 h2 HZW.out hW hK hK0 hKp
 obtain⟨ld,hld⟩:∃ld,(zbg p (zcJ n m p MM xs)).ld=ld:=⟨_,rfl⟩
 obtain⟨RM,hRM⟩:∃RM,zfS p (zcJ n m p MM xs)=RM:=⟨_,rfl⟩
 rw [hld] at HLM HLN HREDA⊢
 rw [hRM] at HS1 HREDA⊢
 unfold zgY
 clear hT h z hW bx1 bx2 hok s1 hRM hld hv zx hdW HZW
 have i0:(0:Int)<=(m:Int):=by omega
 go_enter Tryz.func28,Tryz.ntmps28
 go_wp2_with fail
 clear p0 p1
 generalize w.alloc (.cells #[.slice A n c,.int .i64 (m:Int)] 28)=W1 at*
 refine HWC.out.mono ?_
 rintro eo w2 ⟨A2,c2,rfl,hm2,-,hb⟩
 obtain⟨bx1,bx2,-⟩:=zav w2 28 #[.slice A2 n c2,.int .i64 (p:Int)]
 obtain⟨p0,p1⟩:=bx2.c2
 have hbx:=zab hb bx1
 have HB:=lh9 (zab HB.out hbx)
 have HK2:=lh9 (zaa hbx HK2.out)
 have HRED:=HREDA.out _ A2 c2 (HT.out _ HB.out) (hm2.keep bx1)
 clear hb hm2 bx1 bx2 hbx HWC HREDA
 go_wp2_with fail
 clear p0 p1
 generalize w2.alloc (.cells #[.slice A2 n c2,.int .i64 (p:Int)] 28)=W3 at*
 refine HRED.out.mono ?_
 rintro eo w4 ⟨A4,c4,B4,k4,cB4,rfl,hk4,hm4,hI4,hc3,hc4,hb⟩
 obtain⟨bx1,bx2,-⟩:=zav w4 28 #[.slice A4 n c4,.int .i64 (p:Int)]
 have hbx:=zab hb bx1
 have HB:=lh9 (zab HB.out hbx)
 have HK2:=lh9 (zaa hbx HK2.out)
 have HM4:=lh9 (hm4.keep bx1)
 have HI4:=lh9 (hI4.keep bx1)
 have HK9:=lh9 bx2
 have HKK:=lh9 hk4
 obtain⟨p0,p1⟩:=HK2.out.c2
 clear hb hm4 hI4 bx1 bx2 hbx HRED hk4
 go_wp2_with fail
 clear p0 p1
 generalize w4.alloc (.cells #[.slice A4 n c4,.int .i64 (p:Int)] 28)=W5 at*
 generalize w4.heap.size=q9 at*
 refine(zbr A n c (m:Int) _).mono ?_
 rintro eo w6 ⟨rfl,hb⟩
 have HB:=lh9 (zab HB.out hb)
 have HK2:=lh9 (zaa hb HK2.out)
 have HK9:=lh9 (zaa hb HK9.out)
 have HM4:=lh9 (HM4.out.keep hb)
 have HI4:=lh9 (HI4.out.keep hb)
 clear hb
 go_wp2_with fail
 by_cases hin:m ∈ ld
 ·have hX:solX m ld RM=[]:=by unfold solX;rw [if_pos hin]
  have hN:solN m ld=1:=by unfold solN;rw [if_pos hin]
  have HX:=lh9 hX
  have HN:=lh9 hN
  refine(zdx (decide_eq_true (ziJ.2 hin)) HI4.out (by have:=HKK.out;have:=HLN.out;omega)).mono ?_
  rintro eo w7 ⟨rfl,hb⟩
  have HB:=lh9 (zab HB.out hb)
  have HV:=lh9 (zaI.nil (E:=zah) w7)
  clear hb hin hX hN
  go_wp2
  refine bodyPost_ret (v:=.tuple #[.slice none 0 0,.int .i64 1,.bool true]) (by simp [results,Tryz.results28,go_sem]) rfl ?_
  exact⟨none,0,0,by rw [HN.out],by rw [HX.out];exact HV.out,HB.out⟩
 ·have hX:solX m ld RM=zkc m ld RM ld.length:=by unfold solX;rw [if_neg hin]
  have hN:solN m ld=if ld.length<m then 3 else 2:=by unfold solN;rw [if_neg hin]
  have HX:=lh9 hX
  have HN:=lh9 hN
  have HLM2:Hid (∀i,i<ld.length->ld.getD i 0<m):=λi hi=>by
   have h1:=HLM.out _ (zeF hi)
   have h2:ld.getD i 0≠m:=λe=>hin (e▸zeF hi)
   omega
  refine(zdx (decide_eq_false (λh9=>hin (ziJ.1 h9))) HI4.out (by have:=HKK.out;have:=HLN.out;omega)).mono ?_
  rintro eo w7 ⟨rfl,hb⟩
  have HB:=lh9 (zab HB.out hb)
  have HK2:=lh9 (zaa hb HK2.out)
  have HK9:=lh9 (zaa hb HK9.out)
  have HM4:=lh9 (HM4.out.keep hb)
  have HI4:=lh9 (HI4.out.keep hb)
  obtain⟨p0,p1⟩:=HK2.out.c2
  clear hb hin hX hN
  go_wp2_with fail
  clear p0 p1
  refine(zbr A n c (m:Int) _).mono ?_
  rintro eo w8 ⟨rfl,hb⟩
  have HB:=lh9 (zab HB.out hb)
  have HK2:=lh9 (zaa hb HK2.out)
  have HK9:=lh9 (zaa hb HK9.out)
  have HM4:=lh9 (HM4.out.keep hb)
  have HI4:=lh9 (HI4.out.keep hb)
  clear hb
  have HM8:=lh9 (λw' (hb:Below w8.heap.size w8 w')=>HM4.out.keep hb)
  have HI8:=lh9 (λw' (hb:Below w8.heap.size w8 w')=>HI4.out.keep hb)
  have HK28:=lh9 (λw' (hb:Below w8.heap.size w8 w')=>zaa hb HK2.out)
  have HK98:=lh9 (λw' (hb:Below w8.heap.size w8 w')=>zaa hb HK9.out)
  have HT8:=lh9 (λw' (hb:Below w8.heap.size w8 w')=>HT.out w' (zab HB.out hb))
  have HL2:=lh9 HK2.out.lt
  have HL9:=lh9 HK9.out.lt
  clear HM4 HI4 HK2 HK9 HT
  go_wp2_with fail
  (with_reducible refine(zkj m _ (by omega)).mono ?_)
  rintro eo w9 ⟨g9,rfl,hg9,ho9,hB9⟩
  have hx9:zbU w9 g9 m (zkc m ld RM 0):=ho9
  clear ho9
  go_wp2_with fail
  go_loopg [40] (k4+1) (λgg ix wx=>∃(r:Nat),r<=k4/\k4<gg+r/\ix=.int .i64 r/\zbU wx g9 m (zkc m ld RM r)/\Below w8.heap.size w8 wx)
  case atStart=>exact⟨0,Nat.zero_le _,by omega,rfl,hx9,hB9⟩
  case round=>
   clear hx9 hB9
   obtain⟨r,hrk,hg2,rfl,hx,hB7⟩:=hrel
   by_cases hlr:r<k4
   ·have hd3:decide ((r:Int)<(k4:Int))=true:=decide_eq_true (by omega)
    have i1:(0:Int)<=(r:Int):=by omega
    have i2:(r:Int)<(k4:Int):=by omega
    have hrl:r<ld.length:=by rw [<-HKK.out];exact hlr
    have HB7:=lh9 hB7
    obtain⟨ad,hadB,hc⟩:=(HI8.out _ hB7).num r hlr
    rw [ldI_at hrl] at hc
    have hlm:ld.getD r 0<m:=HLM2.out r hrl
    have HKS:=lh9 (zpb m ld RM r)
    obtain⟨l,hl⟩:∃l,ld.getD r 0=l:=⟨_,rfl⟩
    rw [hl] at hc hlm HKS
    have i3:(0:Int)<=(l:Int):=by omega
    have i4:(l:Int)<(m:Int):=by omega
    have hrn:r<n:=by have:=HLN.out;omega
    have hmp:m<p:=by omega
    have HX7:=lh9 hx
    subst hadB
    clear hx hB7 hl
    go_upto_region 11 with fail
    clear hc
    obtain⟨p0,p1⟩:=(HK98.out _ HB7.out).c2
    obtain⟨p2,p3⟩:=(HK28.out _ HB7.out).c2
    have hbd:=(Below.refl wr.heap.size wr).drew
    refine rg (csc p0 (csc p1 (csc p2 (csc p3 csn)))) (λhHeld=>?_)
    have HX7:=lh9 (HX7.out.keep hbd)
    have HB7:=lh9 (zab HB7.out hbd)
    clear p0 p1 p2 p3 hbd
    generalize wr.drew=D at*
    refine tk 0 ?_
    refine tk 1 ?_
    refine tk 2 ?_
    refine tk 3 ?_
    refine tk 4 ?_
    refine rc 5 (λKK hKQ=>?_)
    go_simp
    refine(zbr A n c (m:Int) _).mono ?_
    rintro eo w11 ⟨rfl,hb⟩
    refine hKQ.out _ _ (Cs.below hHeld hb) (λhHeld=>?_)
    have HX7:=lh9 (HX7.out.keep hb)
    have HB7:=lh9 (zab HB7.out hb)
    clear hKQ KK hb
    refine rc 6 (λKK hKQ=>?_)
    go_simp
    (with_reducible refine(mat_at (HT8.out _ HB7.out) (HM8.out _ HB7.out) HS1.out hrn hmp (by omega)).mono ?_)
    rintro eo w12 ⟨b8,A8,n8,c8,E8,k8,f8,rfl,hw8,hb⟩
    refine hKQ.out _ _ (Cs.below hHeld hb) (λhHeld=>?_)
    have hX9:=HX7.out.keep hb
    have hr4:=zbm.set_ zaf hX9 hlm hw8
    rw [<-HKS.out] at hr4
    obtain⟨q0,q1,q2,sc0,sf0,sc1,sf1,sc2,sf2⟩:=hX9.ready hlm (.bool b8) (.slice A8 n8 c8)
    have HR4:=lh9 hr4
    have HB9:=lh9 (zbH (l*3) (l*3+1) (l*3+2) (.bool b8) (.slice A8 n8 c8) (.slice E8 k8 f8) hg9 (zab HB7.out hb))
    clear hKQ KK hb hw8 hX9 hr4 HX7 HB7 HKS
    refine tk 7 ?_
    refine rc 8 (λKK hKQ=>?_)
    go_simp
    refine hKQ.out _ _ (Cs.far hHeld ((((zbj.refl g9 w12).set_ (l*3) (.bool b8)).set_ (l*3+1) (.slice A8 n8 c8)).set_ (l*3+2) (.slice E8 k8 f8)) ⟨(by have:=HL9.out;show q9≠g9;omega),(by have:=HL9.out;show q9≠g9;omega),(by have:=HL2.out;show w.heap.size≠g9;omega),(by have:=HL2.out;show w.heap.size≠g9;omega),trivial⟩) (λhHeld=>?_)
    clear hKQ KK sc0 sf0 sc1 sf1 sc2 sf2
    refine rdn ?_
    clear hHeld
    go_wp2
    go_roundg (k4 - r)
    case measure=>omega
    case rel=>exact⟨r+1,by omega,by omega,by go_num,HR4.out,HB9.out⟩
   ·have hk9:r=k4:=by omega
    have hd3:decide ((r:Int)<(k4:Int))=false:=by rw [hk9];simp
    have HXF:Hid (zbU wr g9 m (solX m ld RM)):=by rw [HX.out,<-HKK.out,<-hk9];exact hx
    have HB7:=lh9 hB7
    obtain⟨p2,p3⟩:=(HK28.out _ hB7).c2
    clear hx hB7 hk9
    go_wp2_with fail
    clear p2 p3
    refine(zbr A n c (m:Int) _).mono ?_
    rintro eo w11 ⟨rfl,hb⟩
    have HXF:=lh9 (HXF.out.keep hb)
    have HBF:=lh9 (zab HB.out (zab HB7.out hb))
    clear hb HB7
    by_cases hlt:k4<m
    ·have d5:decide ((k4:Int)<(m:Int))=true:=decide_eq_true (by omega)
     have hN3:solN m ld=3:=by rw [HN.out,if_pos (by rw [<-HKK.out];exact hlt)]
     have HN3:=lh9 hN3
     clear hN3
     go_wp2
     refine bodyPost_ret (v:=.tuple #[.slice (some ⟨g9,0,none⟩) m m,.int .i64 3,.bool true]) (by simp [results,Tryz.results28,go_sem]) rfl ?_
     exact⟨_,_,_,by rw [HN3.out],zaJ HXF.out,HBF.out⟩
    ·have d5:decide ((k4:Int)<(m:Int))=false:=decide_eq_false (by omega)
     have hN2:solN m ld=2:=by rw [HN.out,if_neg (by rw [<-HKK.out];exact hlt)]
     have HN2:=lh9 hN2
     clear hN2
     go_wp2
     refine bodyPost_ret (v:=.tuple #[.slice (some ⟨g9,0,none⟩) m m,.int .i64 2,.bool true]) (by simp [results,Tryz.results28,go_sem]) rfl ?_
     exact⟨_,_,_,by rw [HN2.out],zaJ HXF.out,HBF.out⟩
end
