/- What this claim leans on. -/
import Derived.Test.YtcojjcjgbepicaaGreatDoorKERed
import Derived.Test.YtcojjcjgbepicaaGreatDoorKMGrid
namespace Go.Proofs.YtcojjcjgbepicaaGreatDoor
open Go Go.RowKit
set_option maxHeartbeats 16000000
set_option maxRecDepth 100000
set_option linter.unusedVariables false
set_option linter.unusedSimpArgs false
section
variable {w:World}
theorem zmT {A:oA9}{n c:Nat}{zs:List Int}{z:Int}(h:zda w A n zs)(hn:n<=1048576):
  Calls Tryz.prog 156 #[.slice A n c,.int .i64 z] w (λeo w'=>∃k:Int,eo=.returned (.int .i64 k)/\decide (k>=0)=decide (z ∈ zs)/\Below w.heap.size w w'):=by
 have HI:=lh9 h
 have i0:(0:Int)<=(n:Int):=by omega
 have hB:=Below.refl w.heap.size w
 have HY:Hid (∀k,k<n->zs.getD k 0=z->decide (z ∈ zs)=true):=λk hk e=>decide_eq_true (by
  rw [<-e,List.getD_eq_getElem?_getD,List.getElem?_eq_getElem (by have:=h.len;omega)]
  exact List.getElem_mem _)
 have HN:Hid ((∀j,j<n->zs.getD j 0≠z)->decide (z ∈ zs)=false):=λh0=>decide_eq_false (λhm=>by
  obtain⟨j,hj,e⟩:=List.mem_iff_getElem.1 hm
  refine h0 j (by rw [<-h.len];exact hj) ?_
  rw [List.getD_eq_getElem?_getD,List.getElem?_eq_getElem hj];exact e)
 obtain⟨b,hb⟩:∃b,decide (z ∈ zs)=b:=⟨_,rfl⟩
 rw [hb] at HY HN⊢
 clear h hb
 go_enter Tryz.func156,Tryz.ntmps156
 go_wp2_with fail
 go_loopg [8] (n+1) (λg ix wr=>∃(k:Nat),k<=n/\n<g+k/\ix=.int .i64 k/\Hid (∀j,j<k->zs.getD j 0≠z)/\Below w.heap.size w wr)
 case atStart=>exact⟨0,Nat.zero_le _,by omega,rfl,λj hj=>(by cases hj),hB⟩
 case round=>
  clear hB
  obtain⟨k,hkn,hg,rfl,hz0,hB⟩:=hrel
  by_cases hlt:k<n
  ·have hd1:decide ((k:Int)<(n:Int))=true:=decide_eq_true (by omega)
   have i1:(0:Int)<=(k:Int):=by omega
   have i2:(k:Int)<(n:Int):=by omega
   obtain⟨ad,rfl,hc⟩:=HI.out.num k hlt
   have hc0:=zac hB hc
   have HSU:Hid (zs.getD k 0≠z->∀j,j<k+1->zs.getD j 0≠z):=λe j hj=>by
    rcases Nat.lt_or_ge j k with a|a
    ·exact hz0.out j a
    ·rw [show j=k by omega];exact e
   have HYK:=lh9 (HY.out k hlt)
   have HB:=lh9 hB
   obtain⟨x,hx⟩:∃x,zs.getD k 0=x:=⟨_,rfl⟩
   rw [hx] at hc0 HSU HYK
   clear hB hc hx
   by_cases hxz:x=z
   ·have d2:(z==x)=true:=by rw [hxz];simp
    have HE:=lh9 (HYK.out hxz)
    clear HSU HYK hxz
    go_wp2
    go_ret
    exact⟨(k:Int),rfl,by rw [HE.out];exact decide_eq_true (by omega),HB.out⟩
   ·have d2:(z==x)=false:=by rw [beq_eq_false_iff_ne];exact λe=>hxz e.symm
    have HS2:=lh9 (HSU.out hxz)
    clear HSU HYK hxz
    go_wp2
    go_roundg (n - k)
    case measure=>omega
    case rel=>exact⟨k+1,by omega,by omega,by go_num,HS2.out,HB.out⟩
  ·have hk9:k=n:=by omega
   subst hk9
   have hd1:decide ((k:Int)<(k:Int))=false:=by simp
   have HE:=lh9 (HN.out hz0.out)
   have HB:=lh9 hB
   clear hB
   go_wp2
   go_ret
   exact⟨-1,rfl,by rw [HE.out];rfl,HB.out⟩
theorem zdk {A:oA9}{n c:Nat}{zs:List Int}{z:Int}{b:Bool}(e:decide (z ∈ zs)=b)(h:zda w A n zs)(hn:n<=1048576):
  Calls Tryz.prog 97 #[.slice A n c,.int .i64 z] w (λeo w'=>eo=.returned (.bool b)/\Below w.heap.size w w'):=by
 have H:=lh9 (zmT (c:=c) (z:=z) h hn)
 rw [e] at H
 clear h e
 go_enter Tryz.func97,Tryz.ntmps97
 go_wp2_with fail
 refine H.out.mono ?_
 rintro eo w1 ⟨k,rfl,hk,hb⟩
 have hk2:decide (0<=k)=b:=hk
 have HB:=lh9 hb
 clear hb
 go_wp2
 go_ret
 exact⟨rfl,HB.out⟩
end
def zdo (m:Nat)(ld:List Nat)(R:List (List Rat))(c i:Nat):List Rat:=(List.range i).foldl (λx r=>x.set (ld.getD r 0) (-atM R r c)) (zfw m c)
theorem zeJ (m:Nat)(ld:List Nat)(R:List (List Rat))(c i:Nat):zdo m ld R c (i+1)=(zdo m ld R c i).set (ld.getD i 0) (-atM R i c):=by unfold zdo;rw [List.range_succ,List.foldl_append];rfl
theorem zel {m:Nat}{ld:List Nat}{R:List (List Rat)}{c:Nat}(h:(zfw m c).length=m)(i:Nat):(zdo m ld R c i).length=m:=by
 induction i with
 |zero=>exact h
 |succ i ih=>rw [zeJ,List.length_set,ih]
def zbv (ld:List Nat)(i:Nat):List Nat:=(List.range i).filter λc=> !decide (c ∈ ld)
def zcd (m:Nat)(ld:List Nat)(R:List (List Rat))(i:Nat):List (List Rat):=(zbv ld i).map λc=>zdo m ld R c ld.length
theorem kerM_yes {m:Nat}{ld:List Nat}{R:List (List Rat)}{i:Nat}(h:i ∉ ld):zcd m ld R (i+1)=zcd m ld R i++[zdo m ld R i ld.length]:=by
 unfold zcd zbv
 rw [List.range_succ,List.filter_append,List.map_append]
 simp [h]
theorem kerM_no {m:Nat}{ld:List Nat}{R:List (List Rat)}{i:Nat}(h:i ∈ ld):zcd m ld R (i+1)=zcd m ld R i:=by
 unfold zcd zbv
 rw [List.range_succ,List.filter_append,List.map_append]
 simp [h]
theorem kerM_le (m:Nat)(ld:List Nat)(R:List (List Rat))(i:Nat):(zcd m ld R i).length<=i:=by
 unfold zcd zbv
 rw [List.length_map]
 exact Nat.le_trans (List.length_filter_le _ _) (by rw [List.length_range];exact Nat.le_refl _)
theorem zhQ {ld:List Nat}{c:Nat}:((c:Int)∈ ldI ld)↔c ∈ ld:=by
 unfold ldI
 rw [List.mem_map]
 constructor
 ·rintro⟨l,hl,e⟩
  rwa [show c=l by omega]
 ·exact λh=>⟨c,h,rfl⟩
theorem zmX {ld:List Nat}{i:Nat}(h:i<ld.length):(ldI ld).getD i 0=((ld.getD i 0:Nat):Int):=by
 unfold ldI
 rw [List.getD_eq_getElem?_getD,List.getD_eq_getElem?_getD,List.getElem?_map,List.getElem?_eq_getElem h];rfl
def zia (w:World)(m:Nat)(Ls:List (List Rat))(eo:Ending)(w':World):Prop:=∃(A:oA9) (k c:Nat),eo=.returned (.slice A k c)/\k=Ls.length/\zay (zaN zah) w' A k Ls/\(∀L ∈ Ls,L.length=m)/\k<=c/\c<=9223372036854775807/\Below w.heap.size w w'
section
variable {w:World}{A:oA9}{n c m K K0:Nat}{MM:List (List Rat)}
theorem zlj (hT:zai w)(h:zaU w A n c m MM)(z:zaB K0 MM)(hW:zbZ K MM)(hK:260*K+269<=33554432:=by omega)(hK0:K+K0<=33554432:=by omega)(hKp:0<K:=by omega):
  Calls Tryz.prog 51 #[.agg #[.slice A n c,.int .i64 (m:Int)]] w (zia w m (zcd m (zaE m MM).ld (zcY m MM) m)):=by
 obtain⟨hn,hm⟩:=And.intro h.hn h.hm
 have HT:=lh9 (λw' (hb:Below w.heap.size w w')=>hT.on hb)
 have hok:=zcn h.dims
 obtain⟨s1,-,-,-⟩:=zgL h.dims hn hW
 have HS1:=lh9 s1
 have HLM:Hid (∀l ∈(zaE m MM).ld,l<m):=ok_lt hok
 have HLN:Hid ((zaE m MM).ld.length<=n):=ok_len hok
 have HUL:Hid (∀j,(zfw m j).length=m):=λj=>by unfold zfw;simp
 obtain⟨bx1,bx2,-⟩:=zax w 32 #[.slice A n c,.int .i64 (m:Int)]
 obtain⟨p0,p1⟩:=bx2.c2
 have HRED:=lh9 (zgA (hT.on bx1) (h.keep bx1) z hW hK hK0 hKp)
 have HB:=lh9 bx1
 have HK1:=lh9 bx2
 obtain⟨st,hst⟩:∃st,zaE m MM=st:=⟨_,rfl⟩
 obtain⟨RM,hRM⟩:∃RM,zcY m MM=RM:=⟨_,rfl⟩
 rw [hst] at HLM HLN HRED⊢
 rw [hRM] at HS1 HRED⊢
 obtain⟨ld,hld⟩:∃ld,st.ld=ld:=⟨_,rfl⟩
 rw [hld] at HLM HLN HRED⊢
 have i0:(0:Int)<=(m:Int):=by omega
 unfold zia
 obtain⟨i9,hi9,hz9,hz10,hz11⟩:=info_parts zfF
 clear hT h z hW bx1 bx2 hok s1 hst hRM hld
 go_enter Tryz.func51,Tryz.ntmps51
 go_wp2_with fail
 generalize w.alloc (.cells #[.slice A n c,.int .i64 (m:Int)] 32)=W1 at*
 refine HRED.out.mono ?_
 rintro eo w2 ⟨A2,c2,B2,k2,cB2,rfl,hk2,hm2,hI2,hc3,hc4,hb⟩
 obtain⟨bx1,bx2,-⟩:=zax w2 32 #[.slice A2 n c2,.int .i64 (m:Int)]
 have hbx:=zaa hb bx1
 have HB:=lh9 (zaa HB.out hbx)
 have HK1:=lh9 (zab hbx HK1.out)
 have HM2:=lh9 (hm2.keep bx1)
 have HI2:=lh9 (hI2.keep bx1)
 have HK3:=lh9 bx2
 have HKK:=lh9 hk2
 obtain⟨p2,p3⟩:=HK1.out.c2
 clear hb hm2 hI2 bx1 bx2 hbx p0 p1 HRED hk2
 go_wp2_with fail
 generalize w2.alloc (.cells #[.slice A2 n c2,.int .i64 (m:Int)] 32)=W3 at*
 generalize w2.heap.size=q3 at*
 clear p2 p3
 refine(zbw A n c (m:Int) _).mono ?_
 rintro eo w4 ⟨rfl,hb⟩
 have HB:=lh9 (zaa HB.out hb)
 have HK1:=lh9 (zab hb HK1.out)
 have HK3:=lh9 (zab hb HK3.out)
 have HM2:=lh9 (HM2.out.keep hb)
 have HI2:=lh9 (HI2.out.keep hb)
 clear hb
 have HM4:=lh9 (λw' (hb:Below w4.heap.size w4 w')=>HM2.out.keep hb)
 have HI4:=lh9 (λw' (hb:Below w4.heap.size w4 w')=>HI2.out.keep hb)
 have HK14:=lh9 (λw' (hb:Below w4.heap.size w4 w')=>zab hb HK1.out)
 have HK34:=lh9 (λw' (hb:Below w4.heap.size w4 w')=>zab hb HK3.out)
 have HT4:=lh9 (λw' (hb:Below w4.heap.size w4 w')=>HT.out w' (zaa HB.out hb))
 have hB4:=Below.refl w4.heap.size w4
 clear HM2 HI2 HK1 HK3 HT
 go_wp2_with fail
 go_loopg [5,18] (m+1) (λg sl ix wr=>∃(i:Nat) (v:Value) (vs:List Value),i<=m/\m<g+i/\ix=.int .i64 i/\v=sl/\zbi (zaN zah) wr w4.heap.size 71 v (zcd m ld RM i) vs/\Below w4.heap.size w4 wr)
 case atStart=>exact⟨0,_,_,Nat.zero_le _,by omega,rfl,rfl,zbi.nil _ _ _,hB4⟩
 case round=>
  clear hB4
  obtain⟨i,v,vs,him,hg,rfl,rfl,hon,hB4⟩:=hrel
  by_cases hlt:i<m
  ·have hd1:decide ((i:Int)<(m:Int))=true:=decide_eq_true (by omega)
   have HON:=lh9 hon
   have HB4:=lh9 hB4
   clear hon hB4
   go_wp2_with fail
   by_cases hin:i ∈ ld
   ·refine(zdk (decide_eq_true (zhQ.2 hin)) (HI4.out _ HB4.out) (by have:=HKK.out;have:=HLN.out;omega)).mono ?_
    rintro eo w5 ⟨rfl,hb⟩
    have HON5:Hid (zbi (zaN zah) w5 w4.heap.size 71 v (zcd m ld RM (i+1)) vs):=by rw [kerM_no hin];exact HON.out.below (zam zaf) hb
    have HB5:=lh9 (zaa HB4.out hb)
    clear hb hin HON HB4
    go_wp2
    go_roundg (m - i)
    case measure=>omega
    case rel=>exact⟨i+1,_,_,by omega,by omega,by go_num,rfl,HON5.out,HB5.out⟩
   ·have HNI:=lh9 hin
    refine(zdk (decide_eq_false (λh9=>hin (zhQ.1 h9))) (HI4.out _ HB4.out) (by have:=HKK.out;have:=HLN.out;omega)).mono ?_
    rintro eo w5 ⟨rfl,hb⟩
    have HB5:=lh9 (zaa HB4.out hb)
    have HON:=lh9 (HON.out.below (zam zaf) hb)
    obtain⟨p0,p1⟩:=(HK14.out _ HB5.out).c2
    clear hb hin HB4
    go_wp2_with fail
    clear p0 p1
    refine(zbw A n c (m:Int) _).mono ?_
    rintro eo w6 ⟨rfl,hb⟩
    have HB5:=lh9 (zaa HB5.out hb)
    have HON:=lh9 (HON.out.below (zam zaf) hb)
    clear hb
    have HON6:=lh9 (λw' (hb:Below w6.heap.size w6 w')=>HON.out.below (zam zaf) hb)
    have HB6:=lh9 (λw' (hb:Below w6.heap.size w6 w')=>zaa HB5.out hb)
    have hB6:=Below.refl w6.heap.size w6
    clear HON HB5
    go_wp2_with fail
    (with_reducible refine(vec_unit m i _ (HT4.out _ (HB6.out _ hB6)) hm hlt).mono ?_)
    rintro eo w7 ⟨g7,rfl,hg7,ho7,hB7⟩
    have hx7:zbL w7 g7 m (zdo m ld RM i 0):=ho7
    clear ho7 hB6
    go_wp2_with fail
    go_loopg [33] (k2+1) (λgg ix wx=>∃(r:Nat),r<=k2/\k2<gg+r/\ix=.int .i64 r/\zbL wx g7 m (zdo m ld RM i r)/\Below w6.heap.size w6 wx)
    case atStart=>exact⟨0,Nat.zero_le _,by omega,rfl,hx7,hB7⟩
    case round=>
     clear hx7 hB7
     obtain⟨r,hrk,hg2,rfl,hx,hB7⟩:=hrel
     by_cases hlr:r<k2
     ·have hd3:decide ((r:Int)<(k2:Int))=true:=decide_eq_true (by omega)
      have i1:(0:Int)<=(r:Int):=by omega
      have i2:(r:Int)<(k2:Int):=by omega
      have hrl:r<ld.length:=by rw [<-HKK.out];exact hlr
      have HB7:=lh9 hB7
      obtain⟨ad,hadB,hc⟩:=(HI4.out _ (HB6.out _ hB7)).num r hlr
      rw [zmX hrl] at hc
      have hlm:ld.getD r 0<m:=HLM.out _ (zcE hrl)
      have HKS:=lh9 (zeJ m ld RM i r)
      obtain⟨l,hl⟩:∃l,ld.getD r 0=l:=⟨_,rfl⟩
      rw [hl] at hc hlm HKS
      have i3:(0:Int)<=(l:Int):=by omega
      have i4:(l:Int)<(m:Int):=by omega
      obtain⟨p0,p1⟩:=(HK34.out _ (HB6.out _ hB7)).c2
      have hrn:r<n:=by have:=HLN.out;omega
      have HX:=lh9 hx
      subst hadB
      clear hx hB7 hl
      go_wp2_with fail
      (with_reducible refine(mat_at (HT4.out _ (HB6.out _ HB7.out)) (HM4.out _ (HB6.out _ HB7.out)) HS1.out hrn hlt (by omega)).mono ?_)
      rintro eo w8 ⟨b8,A8,n8,c8,E8,k8,f8,rfl,hw8,hb⟩
      have HX:=lh9 (HX.out.keep hb)
      have HB7:=lh9 (zaa HB7.out hb)
      have HW8:=lh9 hw8
      have HZ8:=lh9 (HS1.out.at_ (HM4.out _ (HB6.out _ HB7.out)).dims hrn hlt)
      clear hb hw8 hc p0 p1
      go_wp2_with fail
      (with_reducible refine(zkI (atM RM r i) b8 A8 n8 c8 E8 k8 f8 _ (HT4.out _ (HB6.out _ HB7.out)) HW8.out (HZ8.out.fit HW8.out (by omega))).mono ?_)
      rintro eo w9 ⟨b9,A9,n9,c9,E9,k9,f9,rfl,hw9,hb⟩
      have hX9:=HX.out.keep hb
      have hr4:=zbf.set_ zaf hX9 hlm hw9
      rw [<-HKS.out] at hr4
      obtain⟨q0,q1,q2,sc0,sf0,sc1,sf1,sc2,sf2⟩:=hX9.ready hlm (.bool b9) (.slice A9 n9 c9)
      have HR4:=lh9 hr4
      have HB9:=lh9 (zbB (l*3) (l*3+1) (l*3+2) (.bool b9) (.slice A9 n9 c9) (.slice E9 k9 f9) hg7 (zaa HB7.out hb))
      clear hb hw9 hX9 hr4 HX HB7 HW8 HKS
      go_wp2
      go_roundg (k2 - r)
      case measure=>omega
      case rel=>exact⟨r+1,by omega,by omega,by go_num,HR4.out,HB9.out⟩
     ·have hk9:r=k2:=by omega
      have hd3:decide ((r:Int)<(k2:Int))=false:=by rw [hk9];simp
      have hx9:zbL wr g7 m (zdo m ld RM i ld.length):=by rw [<-HKK.out,<-hk9];exact hx
      obtain⟨t1,t2,-⟩:=zax wr 71 #[.slice (some ⟨g7,0,none⟩) m m]
      have hup:=zaa hB7 t1
      have HONX:=lh9 (HON6.out _ hup)
      have HVX:=lh9 (zaC.keep (zaI hx9) t1)
      have HBX:=lh9 (HB6.out _ hup)
      have hown:=HONX.out.own
      obtain⟨kk,hkk⟩:∃kk,(zcd m ld RM i).length=kk:=⟨_,rfl⟩
      have hkki:kk<=i:=by rw [<-hkk];exact kerM_le m ld RM i
      rw [hkk] at hown
      have HKL:=lh9 hkk
      have HOWN:=lh9 hown
      have HSL:=lh9 HONX.out.sl
      have HCELL:=lh9 (zbY wr (.slice (some ⟨g7,0,none⟩) m m) 71)
      have HBS:=lh9 HBX.out.size
      have HOB:=lh9 (λr (h:v.ownBlock=some r)=>HONX.out.own.lt r h)
      have HZS:Hid (∀u ∈(Value.slice none 0 0).cells.toList,zcj u):=by intro u hu;simp [Value.cells] at hu;exact⟨_,_,_,hu⟩
      have HNN:Hid (∀u ∈ [Value.slice (some ⟨g7,0,none⟩) m m],zcj u):=by intro u hu;simp at hu;exact⟨_,_,_,hu⟩
      have HONE:Hid (∀u ∈ [Value.slice (some ⟨g7,0,none⟩) m m],u.oneCell'=true):=by intro u hu;simp at hu;subst hu;rfl
      have HKT:Hid ((zdo m ld RM i ld.length).length=m):=zel (HUL.out i) _
      clear hx hx9 hB7 t1 t2 hup hown hkk hk9
      go_wp2_with (at_builtin;go_loud (refine zcz _ rfl (.tmp 47) (.tmp 49) 30 rfl w4.heap.size 71 i9 (.slice none 0 0) 1 24 Tryz.underlying30 hi9 hz9 hz10 hz11 rfl (by decide) v kk vs rfl HOWN.out ⟨wr.heap.size,0,none⟩ 1 1 [.slice (some ⟨g7,0,none⟩) m m] rfl rfl HCELL.out HONE.out (by unfold maxLen;omega) (by omega) HBS.out HSL.out HZS.out HNN.out ?_;intro v' w8 hown' hgrow hat hsl'))
      have hon8:=zbi.grow (n:=kk+1) (L:=zdo m ld RM i ld.length) (zam zaf) HONX.out HVX.out HKT.out hown' (by rw [HKL.out]) hgrow hsl'
      rw [<-kerM_yes HNI.out] at hon8
      have HON8:=lh9 hon8
      have HB8:=lh9 (HBX.out.grown hgrow HBS.out (λr hr=>(HOB.out r hr).1))
      clear hon8 hown' hgrow hat hsl' HONX HVX HOWN HSL HCELL HBS HOB HZS HNN HONE HBX
      go_wp2
      go_roundg (m - i)
      case measure=>omega
      case rel=>exact⟨i+1,_,_,by omega,by omega,by go_num,rfl,HON8.out,HB8.out⟩
  ·have hk9:i=m:=by omega
   subst hk9
   have hd1:decide ((i:Int)<(i:Int))=false:=by simp
   obtain⟨Q5,q5,e5,hq1,hq2,hr5,-⟩:=hon.shape (n:=(zcd i ld RM i).length) rfl
   subst e5
   have HR5:=lh9 hr5
   have HB9:=lh9 (zaa HB.out hB4)
   have HQ:=lh9 (And.intro hq1 hq2)
   have HLL:Hid (∀L ∈ zcd i ld RM i,L.length=i):=λL hL=>by
    unfold zcd at hL
    obtain⟨j,_,rfl⟩:=List.mem_map.1 hL
    exact zel (HUL.out j) _
   clear hon hB4 hr5 hq1 hq2
   go_wp2
   go_ret
   exact⟨Q5,_,q5,rfl,rfl,HR5.out,HLL.out,HQ.out.1,HQ.out.2,HB9.out⟩
end
def detE (m:Nat)(MM:List (List Rat)):Rat:=if (zaE m MM).ld.length<m then 0 else(zaE m MM).p / zbq MM
theorem zjI:∀{M:List (List Rat)} {r:Rat},r≠0->M.foldl (λr row=>r*zaK row) r≠0
 |[],_,h=>h
 |L::M,r,h=>by
   rw [List.foldl_cons]
   refine zjI λe=>?_
   rcases Rat.mul_eq_zero.1 e with e|e
   ·exact h e
   ·exact zjX L e
theorem znk (M:List (List Rat)):zbq M≠0:=zjI (by decide+kernel)
section
variable {w:World}{A:oA9}{n c m K K0:Nat}{MM:List (List Rat)}
theorem elim_det (hT:zai w)(h:zaU w A n c m MM)(hnm:n=m)(z:zaB K0 MM)(hW:zbZ K MM)(hK:260*K+269<=33554432:=by omega)(hK0:K+K0<=33554432:=by omega)(hKp:0<K:=by omega):
  Calls Tryz.prog 23 #[.agg #[.slice A n c,.int .i64 (m:Int)]] w (zbo w (detE m MM) true):=by
 obtain⟨hn,hm⟩:=And.intro h.hn h.hm
 have HM:=lh9 (λw' (hb:Below w.heap.size w w')=>h.keep hb)
 have HT:=lh9 (λw' (hb:Below w.heap.size w w')=>hT.on hb)
 have HZ:=lh9 z
 have HW:=lh9 hW
 have HD:=lh9 h.dims
 have hok:=zcn h.dims
 obtain⟨s1,s2,s3,s4⟩:=zgL h.dims hn hW
 have HS2:=lh9 s2
 have HS3:=lh9 s3
 have HRQ:Hid (SzQ (1+64*K) (zbq MM)):=by
  have:=zhg hW MM.length (Nat.le_refl _)
  rw [List.take_length] at this
  exact(this.up (Nat.add_le_add_left (Nat.mul_le_mul_right _ (by rw [h.dims.rows];omega)) _)).szq (by omega)
 have HRN:=lh9 (znk MM)
 obtain⟨bx1,bx2,bx3,-⟩:=zbC w 32 53 #[.slice A n c,.int .i64 (m:Int)] #[.bool false,.slice none 0 0,.slice none 0 0]
 obtain⟨p0,p1⟩:=bx2.c2
 have HB:=lh9 bx1
 have HK1:=lh9 bx2
 have HK2:=lh9 bx3
 have hst:zeT m (zbg MM)=zaE m MM:=rfl
 have HDE:Hid (detE m MM=if (zaE m MM).ld.length<m then 0 else(zaE m MM).p / zbq MM):=rfl
 obtain⟨st,hst2⟩:∃st,zaE m MM=st:=⟨_,rfl⟩
 rw [hst2] at hst HS2 HS3 HDE
 have HST:=lh9 hst
 have d1:((n:Int) !=(m:Int))=false:=by rw [hnm];simp
 have HNM:=lh9 hnm
 clear h hT z hW bx1 bx2 bx3 hst hst2 hok s1 s2 s3 s4 hnm
 go_enter Tryz.func23,Tryz.ntmps23
 go_wp2_with fail
 generalize (w.alloc (.cells #[.slice A n c,.int .i64 (m:Int)] 32)).alloc (.cells #[.bool false,.slice none 0 0,.slice none 0 0] 53)=W1 at*
 have hbd:=(Below.refl W1.heap.size W1).drew
 refine rg (csc p0 (csc p1 csn)) (λhHeld=>?_)
 have HB:=lh9 (zaa HB.out hbd)
 have HK1:=lh9 (zab hbd HK1.out)
 have HK2:=lh9 (zab hbd HK2.out)
 clear p0 p1 hbd
 generalize W1.drew=D at*
 refine tk 0 ?_
 refine tk 2 ?_
 refine rc 1 (λKK hK9=>?_)
 go_simp
 refine(zfg A n c (m:Int) _).mono ?_
 rintro eo w2 ⟨rfl,hb⟩
 refine hK9.out _ _ (Cs.below hHeld hb) (λhHeld=>?_)
 have HB:=lh9 (zaa HB.out hb)
 have HK1:=lh9 (zab hb HK1.out)
 have HK2:=lh9 (zab hb HK2.out)
 clear hK9 KK hb
 refine rc 3 (λKK hK9=>?_)
 go_simp
 refine(zbw A n c (m:Int) _).mono ?_
 rintro eo w3 ⟨rfl,hb⟩
 refine hK9.out _ _ (Cs.below hHeld hb) (λhHeld=>?_)
 have HB:=lh9 (zaa HB.out hb)
 have HK1:=lh9 (zab hb HK1.out)
 have HK2:=lh9 (zab hb HK2.out)
 clear hK9 KK hb
 refine tk 4 ?_
 refine rdn ?_
 clear hHeld
 go_upto_region 3 with fail
 have hbd:=(Below.refl w3.heap.size w3).drew
 obtain⟨p0,p1⟩:=HK1.out.c2
 refine rg (csc p0 (csc p1 csn)) (λhHeld=>?_)
 have HB:=lh9 (zaa HB.out hbd)
 have HK1:=lh9 (zab hbd HK1.out)
 have HK2:=lh9 (zab hbd HK2.out)
 clear p0 p1 hbd
 generalize w3.drew=D3 at*
 refine tk 0 ?_
 refine tk 2 ?_
 refine rc 1 (λKK hK9=>?_)
 go_simp
 refine(zbw A n c (m:Int) _).mono ?_
 rintro eo w2 ⟨rfl,hb⟩
 refine hK9.out _ _ (Cs.below hHeld hb) (λhHeld=>?_)
 have HB:=lh9 (zaa HB.out hb)
 have HK1:=lh9 (zab hb HK1.out)
 have HK2:=lh9 (zab hb HK2.out)
 clear hK9 KK hb
 refine rc 3 (λKK hK9=>?_)
 go_simp
 (with_reducible refine(zfc (HT.out _ HB.out) (HM.out _ HB.out) HZ.out (by omega)).mono ?_)
 rintro eo w3 ⟨g3,rfl,hg3,ho3,hb⟩
 refine hK9.out _ _ (Cs.below hHeld hb) (λhHeld=>?_)
 have HB:=lh9 (zaa HB.out hb)
 have HK1:=lh9 (zab hb HK1.out)
 have HK2:=lh9 (zab hb HK2.out)
 have HR:=lh9 ho3.rows
 clear hK9 KK hb hg3 ho3
 refine rc 4 (λKK hK9=>?_)
 go_simp
 (with_reducible refine(zhb (HT.out _ HB.out) HR.out HD.out HZ.out HW.out hn (by omega) (Nat.le_refl _) hK hK0 hKp).mono ?_)
 rintro eo w4 ⟨g4,rfl,hg4,⟨A4,cA4,B4,k4,cB4,z0,z1,z2,u0,u1,u2,hes⟩,hb⟩
 rw [HST.out] at hes
 refine hK9.out _ _ (Cs.below hHeld hb) (λhHeld=>?_)
 have HB:=lh9 (zaa HB.out hb)
 have HK1:=lh9 (zab hb HK1.out)
 have HK2:=lh9 (zab hb HK2.out)
 have HES:=lh9 hes
 clear hK9 KK hb hg4 hes HR
 refine tk 5 ?_
 refine rdn ?_
 clear hHeld
 go_upto_region 4 with fail
 have hbd:=(Below.refl w4.heap.size w4).drew
 obtain⟨p0,p1⟩:=HK1.out.c2
 obtain⟨-,p2,-⟩:=HES.out.cells
 refine rg (csc p0 (csc p1 (csc p2 csn))) (λhHeld=>?_)
 have HB:=lh9 (zaa HB.out hbd)
 have HES:=lh9 (HES.out.below hbd)
 have HK2:=lh9 (zab hbd HK2.out)
 clear p0 p1 p2 hbd HK1
 generalize w4.drew=D4 at*
 refine tk 0 ?_
 refine tk 1 ?_
 refine tk 2 ?_
 refine tk 3 ?_
 refine tk 4 ?_
 refine tk 5 ?_
 refine rc 6 (λKK hK9=>?_)
 go_simp
 refine(zfg A n c (m:Int) _).mono ?_
 rintro eo w5 ⟨rfl,hb⟩
 refine hK9.out _ _ (Cs.below hHeld hb) (λhHeld=>?_)
 have HB:=lh9 (zaa HB.out hb)
 have HES:=lh9 (HES.out.below hb)
 have HK2:=lh9 (zab hb HK2.out)
 clear hK9 KK hb
 refine tk 7 ?_
 refine rdn ?_
 clear hHeld
 have HHK:=lh9 HES.out.hk
 by_cases hlt:k4<n
 ·have d2:decide ((k4:Int)<(n:Int))=true:=decide_eq_true (by omega)
  have hde:detE m MM=0:=by rw [HDE.out,HHK.out,if_pos (by have:=HNM.out;omega)]
  have HD9:=lh9 hde
  obtain⟨sc0,sf0,sc1,sf1,sc2,sf2⟩:=st3 HK2.out (.bool false) (.slice none 0 0)
  obtain⟨r0,r1,r2⟩:=(sn3 HK2.out (.bool false) (.slice none 0 0) (.slice none 0 0)).c3
  have HBF:=lh9 (bl3 (.bool false) (.slice none 0 0) (.slice none 0 0) (show w.heap.size<=w.heap.size+1 by omega) HB.out)
  have HGF:=lh9 (ziO (((w5.setCell ⟨w.heap.size+1,0,none⟩ (.bool false)).setCell ⟨w.heap.size+1,1,none⟩ (.slice none 0 0)).setCell ⟨w.heap.size+1,2,none⟩ (.slice none 0 0)))
  clear HB HK2 HES hde
  go_wp2
  refine bodyPost_ret (v:=.tuple #[.agg #[.bool false,.slice none 0 0,.slice none 0 0],.bool true]) (by simp [results,Tryz.results23,go_sem,r0,r1,r2]) rfl ?_
  exact⟨_,_,_,_,_,_,_,rfl,by rw [HD9.out];exact HGF.out,HBF.out⟩
 ·have d2:decide ((k4:Int)<(n:Int))=false:=decide_eq_false (by omega)
  have hde:detE m MM=st.p / zbq MM:=by rw [HDE.out,HHK.out,if_neg (by have:=HNM.out;omega)]
  have HD9:=lh9 hde
  clear hde
  obtain⟨b6,A6,n6,c6,E6,k6,f6,rfl,rfl,rfl,hr6⟩:=HES.out.lead
  obtain⟨b7,A7,n7,c7,E7,k7,f7,rfl,rfl,rfl,hr7⟩:=HES.out.rsd
  have HNG:Hid (g4≠w.heap.size+1):=λe=>by subst e;exact absurd (zcU HES.out.blk HK2.out) (by decide)
  go_upto_region 6 with fail
  have hbd:=(Below.refl w5.heap.size w5).drew
  obtain⟨-,-,p2,p3,p4,p5,p6,p7⟩:=HES.out.cells
  refine rg (csc p2 (csc p3 (csc p4 (csc p5 (csc p6 (csc p7 csn)))))) (λhHeld=>?_)
  have HB:=lh9 (zaa HB.out hbd)
  have HK2:=lh9 (zab hbd HK2.out)
  have HR6:=lh9 (hr6.below hbd)
  have HR7:=lh9 (hr7.below hbd)
  clear p2 p3 p4 p5 p6 p7 hbd hr6 hr7 HES
  generalize w5.drew=D5 at*
  refine tk 0 ?_
  refine tk 1 ?_
  refine tk 2 ?_
  refine tk 3 ?_
  refine tk 4 ?_
  refine tk 5 ?_
  refine tk 6 ?_
  refine tk 7 ?_
  refine rc 8 (λKK hK9=>?_)
  go_simp
  (with_reducible refine(zgK st.p (zbq MM) b6 A6 n6 c6 E6 k6 f6 b7 A7 n7 c7 E7 k7 f7 _ (HT.out _ HB.out) HR6.out HR7.out (HS2.out.fit HR6.out (by omega)) (HRQ.out.fit HR7.out (by omega)) HRN.out).mono ?_)
  rintro eo w6 ⟨b8,A8,n8,c8,E8,k8,f8,rfl,hw8,hb⟩
  refine hK9.out _ _ (Cs.below hHeld hb) (λhHeld=>?_)
  have HB:=lh9 (zaa HB.out hb)
  have HK2:=lh9 (zab hb HK2.out)
  have HR8:=lh9 hw8
  clear hK9 KK hb hw8 HR6 HR7
  refine tk 9 ?_
  refine tk 10 ?_
  obtain⟨sc0,sf0,sc1,sf1,sc2,sf2⟩:=st3 HK2.out (.bool b8) (.slice A8 n8 c8)
  obtain⟨r0,r1,r2⟩:=(sn3 HK2.out (.bool b8) (.slice A8 n8 c8) (.slice E8 k8 f8)).c3
  have HG:=lh9 (gb3 true HR8.out HK2.out HB.out (show w.heap.size<=w.heap.size+1 by omega))
  refine rc 11 (λKK hK9=>?_)
  go_simp
  refine hK9.out _ _ (Cs.far hHeld (zdP _ _ (.bool b8) (.slice A8 n8 c8) (.slice E8 k8 f8)) ⟨HNG.out,HNG.out,HNG.out,HNG.out,HNG.out,HNG.out,trivial⟩) (λhHeld=>?_)
  clear hK9 KK sc0 sf0 sc1 sf1 sc2 sf2
  refine tk 12 ?_
  refine rdn ?_
  clear hHeld HB HK2 HR8
  go_wp2
  refine bodyPost_ret (v:=.tuple #[.agg #[.bool b8,.slice A8 n8 c8,.slice E8 k8 f8],.bool true]) (by simp [results,Tryz.results23,go_sem,r0,r1,r2]) rfl ?_
  rw [HD9.out]
  exact HG.out
end
theorem zbZ.up {K K':Nat}{M:List (List Rat)}(h:zbZ K M)(e:K<=K'):zbZ K' M:=⟨λrow hr=>(h.q row hr).up e,λrow hr x hx=>(h.x row hr x hx).up e⟩
theorem znB {r:Rat}{M:List (List Rat)}(i j:Nat):atM (zcO r M) i j=r*atM M i j:=by
 unfold atM zcO
 rw [List.getD_eq_getElem?_getD (l:=List.map _ _),List.getD_eq_getElem?_getD (l:=M),List.getElem?_map]
 cases M[i]? with
 |none=>exact(Rat.mul_zero r).symm
 |some row=>exact zeo j
theorem znx {n m:Nat}{M:List (List Rat)}(h:zbe M n m):RF n m (atM M) (zaE m M).ld (atM (zcY m M)):=by
 have e:atM (zcY m M)=λi j=>(zaE m M).p⁻¹*atM (zaE m M).S i j:=by
  funext i j;exact znB i j
 rw [e]
 refine RF.of_elim (zcn h) λi hi=>⟨zaK (M.getD i []),zjc (by decide+kernel),λj hj=>zjU h hi j⟩
section
variable {w:World}{Q:oA9}{n q m K K0:Nat}{MM:List (List Rat)}
theorem zmH (t:Bool)(ht:decide ((zaE m MM).ld.length=n)=t)(hT:zai w)(h:zay (zaN zah) w Q n MM)(hd:zbe MM n m)(hn:n<=64)(hm:m<=64)(z:zaB K0 MM)(hW:zbZ K MM)(hK:260*K+269<=33554432:=by omega)(hK0:K+K0<=33554432:=by omega)(hKp:0<K:=by omega):
  Calls Tryz.prog 33 #[.int .i64 (m:Int),.slice Q n q] w (λeo w'=>eo=.returned (.bool t)/\Below w.heap.size w w'):=by
 have HOF:=lh9 (ziB (q:=q) hT h hd hn hm z (by omega))
 have HT:=lh9 (λw' (hb:Below w.heap.size w w')=>hT.on hb)
 have HRK:Hid (∀(w':World) (A:oA9) (c:Nat),zai w'->zaU w' A n c m MM->Hid (Calls Tryz.prog 31 #[.agg #[.slice A n c,.int .i64 (m:Int)]] w' (λeo w2=>eo=.returned (.int .i64 ((zaE m MM).ld.length:Int))/\Below w'.heap.size w' w2))):=λw' A c hT' h'=>zoL hT' h' z hW hK hK0 hKp
 obtain⟨L,hL⟩:∃L,(zaE m MM).ld.length=L:=⟨_,rfl⟩
 rw [hL] at HRK ht
 have HTT:=lh9 ht
 clear hT h hd z hW hL ht
 go_enter Tryz.func33,Tryz.ntmps33
 go_wp2_with fail
 (with_reducible refine HOF.out.mono ?_)
 rintro e W1 ⟨A1,c1,rfl,hm1,-,hb⟩
 obtain⟨bx1,bx2,-⟩:=zax W1 32 #[.slice A1 n c1,.int .i64 (m:Int)]
 have HB:=lh9 (zaa hb bx1)
 have HM:=lh9 (hm1.keep bx1)
 obtain⟨p0,p1⟩:=bx2.c2
 clear hb bx1 bx2 hm1 HOF
 go_wp2_with fail
 generalize W1.alloc (.cells #[.slice A1 n c1,.int .i64 (m:Int)] 32)=W2 at*
 clear p0 p1
 (with_reducible refine(HRK.out _ A1 c1 (HT.out _ HB.out) HM.out).out.mono ?_)
 rintro e W3 ⟨rfl,hb⟩
 have HB:=lh9 (zaa HB.out hb)
 have he:((L:Int)==(n:Int))=t:=by
  rw [<-HTT.out]
  by_cases e:L=n
  ·rw [decide_eq_true e,e];simp
  ·rw [decide_eq_false e];simp;omega
 have HE:=lh9 he
 clear hb HTT he
 go_wp2
 go_ret
 exact⟨by show Ending.returned (.bool ((L:Int)==(n:Int)))=_;rw [HE.out],HB.out⟩
end
theorem zba.below {W W':World}{A:oA9}{n c:Nat}{R:RowV}(h:zba W A n c R)(hb:Below W.heap.size W W'):zba W' A n c R:=⟨h.fits,h.small,λr hr=>by
 obtain⟨ad,e,h1,h2,h3⟩:=h.row r hr
 exact⟨ad,e,Nat.lt_of_lt_of_le h1 hb.size,zac hb h2,h3.below hb⟩⟩
