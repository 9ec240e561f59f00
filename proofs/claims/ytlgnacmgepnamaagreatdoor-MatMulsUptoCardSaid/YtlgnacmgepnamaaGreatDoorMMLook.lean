/- What this claim leans on. -/
import Derived.Test.YtlgnacmgepnamaaGreatDoorMVLike
namespace Go.Proofs.YtlgnacmgepnamaaGreatDoor
open Go Go.RowKit
set_option maxHeartbeats 16000000
set_option maxRecDepth 100000
set_option linter.unusedVariables false
set_option linter.unusedSimpArgs false
theorem zjB {r:Int}{n:Nat}{b:Bool}(e:inB r n=b)(A:oA9)(c:Nat)(z:Int)(w:World):Calls Tryz.prog 62 #[.agg #[.slice A n c,.int .i64 z],.int .i64 r] w (λe w'=>e=.returned (.bool b)/\Below w.heap.size w w'):=e▸zng A n c z r w
theorem zpc {r:Int}{m:Nat}{b:Bool}(e:inB r m=b)(A:oA9)(n c:Nat)(w:World):Calls Tryz.prog 63 #[.agg #[.slice A n c,.int .i64 (m:Int)],.int .i64 r] w (λe w'=>e=.returned (.bool b)/\Below w.heap.size w w'):=e▸ziq A n c m r w
section
variable {A:oA9}{n c m K:Nat}{MM:List (List Rat)}{w:World}
theorem zne {i j:Nat}(hT:zao w)(h:zaE w A n c m MM)(z:zaB K MM)(hi:i<n)(hj:j<m)(hK:K+2<=67108864:=by omega):
  Calls Tryz.prog 19 #[.agg #[.slice A n c,.int .i64 (m:Int)],.int .i64 (i:Int),.int .i64 (j:Int)] w (zaP w (atM MM i j)):=by
 have HR:=λW=>lh9 (zjB (zkv hi) A c (m:Int) W)
 have HC:=λW=>lh9 (zpc (zkv hj) A n c W)
 obtain⟨bx1,bx2,bx3,bz⟩:=zbl w 28 48 #[.slice A n c,.int .i64 (m:Int)] #[.bool false,.slice none 0 0,.slice none 0 0]
 obtain⟨g0,g1⟩:=bx2.c2
 have HM:=lh9 h
 have HS:=lh9 (z.at_ h.dims hi hj)
 have HT:=lh9 (λw' (hb:Below w.heap.size w w')=>hT.on hb)
 have HB:=lh9 bx1
 have HK1:=lh9 bx2
 have HK2:=lh9 bx3
 clear hT h z bx1 bx2 bx3 bz
 go_enter Tryz.func19,Tryz.ntmps19
 go_wp2_with fail
 refine(HR _).out.mono ?_
 rintro e w1 ⟨rfl,hb⟩
 have HB1:=lh9 (zac HB.out hb)
 have HK3:=lh9 (zad hb HK1.out)
 have HK4:=lh9 (zad hb HK2.out)
 obtain⟨g0,g1⟩:=HK3.out.c2
 clear hb HB HK1 HK2
 go_wp2_with fail
 refine(HC _).out.mono ?_
 rintro e w2 ⟨rfl,hb⟩
 have HB2:=lh9 (zac HB1.out hb)
 have HK5:=lh9 (zad hb HK3.out)
 have HK6:=lh9 (zad hb HK4.out)
 obtain⟨g0,g1⟩:=HK5.out.c2
 clear hb HB1 HK3 HK4
 obtain⟨ad,B,d,rfl,-,hc,ae,b3,A3,n3,c3,E3,k3,f3,rfl,-,h0,h1,h2,hw3⟩:=HM.out.place HB2.out hi hj
 have i1:(0:Int)<=(i:Int):=by omega
 have i2:(i:Int)<(n:Int):=by omega
 have i3:(0:Int)<=(j:Int):=by omega
 have i4:(j:Int)<(m:Int):=by omega
 obtain⟨t1,t2,-⟩:=zaD w2 48 #[.bool b3,.slice A3 n3 c3,.slice E3 k3 f3]
 have HL:=lh9 (zmv t2 (hw3.below t1))
 have HB3:=lh9 (zac HB2.out t1)
 have HK7:=lh9 (zad t1 HK6.out)
 have HSA:Hid (zay K [atM MM i j]):=λy hy=>by rw [List.mem_singleton.1 hy];exact HS.out
 clear hw3 t1 t2 HK5 HK6 HB2
 go_wp2_with fail
 (with_reducible refine(q_sum (HT.out _ HB3.out) HL.out HSA.out (by decide) (by omega)).mono ?_)
 rintro e w5 ⟨b5,A5,n5,c5,E5,k5,f5,rfl,hw5,hb⟩
 have hw5:zan w5 (atM MM i j) b5 A5 n5 c5 E5 k5 f5:=by
  have e:zcb [atM MM i j]=atM MM i j:=by rw [zeP,zjX,Rat.add_zero]
  rw [e] at hw5
  exact hw5
 have hk5:=zad hb HK7.out
 obtain⟨sc0,sf0,sc1,sf1,sc2,sf2⟩:=st3 hk5 (.bool b5) (.slice A5 n5 c5)
 obtain⟨r0,r1,r2⟩:=(sn3 hk5 (.bool b5) (.slice A5 n5 c5) (.slice E5 k5 f5)).c3
 have HG:=lh9 (gq3 hw5 hk5 (zac HB3.out hb) (by omega))
 clear hb hk5 hw5 HK7 HB3 HL g0 g1 hc h0 h1 h2
 go_wp2
 refine bodyPost_ret (v:=.agg #[.bool b5,.slice A5 n5 c5,.slice E5 k5 f5]) (by simp [results,Tryz.results19,go_sem,r0,r1,r2]) rfl ?_
 exact HG.out
theorem mat_row {i:Nat}(hT:zao w)(h:zaE w A n c m MM)(z:zaB K MM)(hi:i<n)(hK:K+2<=67108864:=by omega):
  Calls Tryz.prog 20 #[.agg #[.slice A n c,.int .i64 (m:Int)],.int .i64 (i:Int)] w (zdn w m (MM.getD i [])):=by
 have hm:=h.hm
 obtain⟨bx1,bx2,bz⟩:=zaD w 28 #[.slice A n c,.int .i64 (m:Int)]
 obtain⟨g0,g1⟩:=bx2.c2
 have HR:=λW=>lh9 (zjB (zkv hi) A c (m:Int) W)
 have HM:=lh9 h
 have HT:=lh9 (λw' (hb:Below w.heap.size w w')=>hT.on hb)
 have HS:=lh9 (z.row (i:=i) (by rw [h.dims.rows];exact hi))
 have HB:=lh9 bx1
 have HK:=lh9 bx2
 clear hT h z bx1 bx2 bz
 unfold zdn
 go_enter Tryz.func20,Tryz.ntmps20
 go_wp2_with fail
 refine(HR _).out.mono ?_
 rintro e w1 ⟨rfl,hb⟩
 have HB1:=lh9 (zac HB.out hb)
 obtain⟨g0,g1⟩:=(zad hb HK.out).c2
 obtain⟨ad,B,d,rfl,-,hc,hv⟩:=HM.out.row HB1.out hi
 have i1:(0:Int)<=(i:Int):=by omega
 have i2:(i:Int)<(n:Int):=by omega
 have HV:=lh9 hv
 clear hb HB HK hv
 go_wp2_with fail
 (with_reducible refine(zmu (HT.out _ HB1.out) HV.out HS.out).mono ?_)
 rintro e w5 ⟨g5,rfl,hg5,ho5,hb⟩
 have HG:=lh9 (And.intro (Nat.le_trans HB1.out.size hg5) (And.intro ho5 (zac HB1.out hb)))
 clear g0 g1 hg5 ho5 hb hc
 go_wp2
 go_ret2
 exact⟨g5,rfl,HG.out⟩
end
section
variable {A A':oA9}{n n' c c' m m' K K' q q':Nat}{MM NN:List (List Rat)}{w:World}
theorem en_vsame:∀(args:Array Value) (w':World),Sem.run Tryz.prog (callFunc 49 args) w'=.ok (.enter 49 args) w':=Go.Proofs.enters_of Tryz.func49 (by kernel_rfl) rfl
theorem same_len {α:Type}{xs ys:List α}{n n':Nat}(hx:xs.length=n)(hy:ys.length=n')(h:n≠n'):xs≠ys:=λe=>h (by rw [<-hx,<-hy,e])
theorem same_at {xs ys:List (List Rat)}{n k:Nat}(hx:xs.length=n)(hy:ys.length=n)(hk:k<n)(h:xs.getD k []≠ys.getD k []):xs≠ys:=λe=>h (by rw [e])
theorem same_all {xs ys:List (List Rat)}{n:Nat}(hx:xs.length=n)(hy:ys.length=n)(h:∀k,k<n->xs.getD k []=ys.getD k []):xs=ys:=by
 apply List.ext_getElem
 ·omega
 ·intro i h1 h2
  have:=h i (by omega)
  rw [List.getD_eq_getElem?_getD,List.getD_eq_getElem?_getD,List.getElem?_eq_getElem h1,List.getElem?_eq_getElem h2] at this
  exact this
theorem zmT {t:Bool}(e:decide (MM=NN)=t)(hT:zao w)(h:zaH (zas zan) w A n MM)(h':zaH (zas zan) w A' n' NN)(z:zaB K MM)(z':zaB K' NN)(hr:∀L ∈ MM,L.length<=64)(hr':∀L ∈ NN,L.length<=64)(hn:n<=64)(hK:K<=67108864)(hK':K'<=67108864):
  Calls Tryz.prog 82 #[.slice A n q,.slice A' n' q',.func (.func 49) #[] #[]] w (λe w'=>e=.returned (.bool t)/\Below w.heap.size w w'):=by
 have hl:=h.len
 have hl':=h'.len
 have hEn:=en_vsame
 by_cases hq:n=n'
 ·subst hq
  have HA:=lh9 h
  have HA':=lh9 h'
  have HT:=lh9 (λw' (hb:Below w.heap.size w w')=>hT.on hb)
  have HS:Hid (∀i,i<n->zay K (MM.getD i [])):=λi hi=>z.row (by omega)
  have HS':Hid (∀i,i<n->zay K' (NN.getD i [])):=λi hi=>z'.row (by omega)
  have HR:Hid (∀i,i<n->(MM.getD i []).length<=64):=λi hi=>hr _ (List.mem_of_getElem? (zdo (by omega)))
  have HR':Hid (∀i,i<n->(NN.getD i []).length<=64):=λi hi=>hr' _ (List.mem_of_getElem? (zdo (by omega)))
  have HNE:Hid (∀k,k<n->MM.getD k []≠NN.getD k []->false=t):=λk hk hne=>by
   rw [<-e];exact(decide_eq_false (same_at hl hl' hk hne)).symm
  have HEQ:Hid ((∀k,k<n->MM.getD k []=NN.getD k [])->true=t):=λha=>by
   rw [<-e];exact(decide_eq_true (same_all hl hl' ha)).symm
  have hB:=Below.refl w.heap.size w
  have e0:((n:Int) !=(n:Int))=false:=by simp
  have i0:(0:Int)<=(n:Int):=by omega
  clear h h' hT z z' hr hr' e hl hl'
  go_enter Tryz.func82,Tryz.ntmps82
  go_wp2_with fail
  go_loopg [17] (n+1) (λg ix wr=>∃(k:Nat),k<=n/\n<g+k/\ix=.int .i64 k/\Hid (∀i,i<k->MM.getD i []=NN.getD i [])/\Below w.heap.size w wr)
  case atStart=>exact⟨0,Nat.zero_le _,by omega,rfl,λi hi=>by omega,hB⟩
  case round=>
   clear hB
   obtain⟨k,hkn,hg,rfl,hz0,hB⟩:=hrel
   by_cases hlt:k<n
   ·obtain⟨ad,B,d,rfl,-,hc,hv⟩:=HA.out.get (zav zar) hB hlt rfl
    obtain⟨ad',B',d',rfl,-,hc',hv'⟩:=HA'.out.get (zav zar) hB hlt rfl
    have hd1:decide ((k:Int)<(n:Int))=true:=decide_eq_true (by omega)
    have i1:(0:Int)<=(k:Int):=by omega
    have i2:(k:Int)<(n:Int):=by omega
    have h5:=HR.out k hlt
    have h6:=HR'.out k hlt
    have HNK:=lh9 (HNE.out k hlt)
    have HSK:=lh9 (HS.out k hlt)
    have HSK':=lh9 (HS'.out k hlt)
    have HZ1:Hid (MM.getD k []=NN.getD k []->∀i,i<k+1->MM.getD i []=NN.getD i []):=λhh i hi=>by
     by_cases e:i=k
     ·rw [e];exact hh
     ·exact hz0.out i (by omega)
    obtain⟨X,hX⟩:∃X,MM.getD k []=X:=⟨_,rfl⟩
    obtain⟨Y,hY⟩:∃Y,NN.getD k []=Y:=⟨_,rfl⟩
    rw [hX] at hc hv h5 HNK HSK HZ1
    rw [hY] at hc' hv' h6 HNK HSK' HZ1
    obtain⟨lx,hlx⟩:∃l,X.length=l:=⟨_,rfl⟩
    obtain⟨ly,hly⟩:∃l,Y.length=l:=⟨_,rfl⟩
    rw [hlx] at hc hv h5
    rw [hly] at hc' hv' h6
    have HV:=lh9 hv
    have HV':=lh9 hv'
    have HB1:=lh9 hB
    clear hX hY hv hv' hlx hly hB
    by_cases h0:X=Y
    ·have HQ:=lh9 (decide_eq_true h0)
     have HZ2:=lh9 (HZ1.out h0)
     clear h0
     go_wp2_with fail
     (with_reducible refine(zeQ HQ.out (HT.out _ HB1.out) HV.out HV'.out HSK.out HSK'.out (by omega) (by omega) hK hK').mono ?_)
     rintro e w3 ⟨rfl,hb⟩
     have HB2:=lh9 (zac HB1.out hb)
     clear hb hc hc' HV HV' HB1
     go_wp2
     go_roundg (n - k)
     case measure=>omega
     case rel=>exact⟨k+1,by omega,by omega,by go_num,HZ2,HB2.out⟩
    ·have HQ:=lh9 (decide_eq_false h0)
     have HF:=lh9 (HNK.out h0)
     clear h0
     go_wp2_with fail
     (with_reducible refine(zeQ HQ.out (HT.out _ HB1.out) HV.out HV'.out HSK.out HSK'.out (by omega) (by omega) hK hK').mono ?_)
     rintro e w3 ⟨rfl,hb⟩
     have HB2:=lh9 (zac HB1.out hb)
     clear hb hc hc' HV HV' HB1
     go_wp2
     go_ret
     exact⟨by rw [<-HF.out];rfl,HB2.out⟩
   ·have hk:k=n:=by omega
    subst hk
    have hd1:decide ((k:Int)<(k:Int))=false:=by simp
    have HF:=lh9 (HEQ.out hz0.out)
    have HB2:=lh9 hB
    clear hB
    go_wp2
    go_ret
    exact⟨by rw [<-HF.out];rfl,HB2.out⟩
 ·have e0:((n:Int) !=(n':Int))=true:=by rw [bne_iff_ne];omega
  have HF:Hid (false=t):=by rw [<-e];exact(decide_eq_false (same_len hl hl' hq)).symm
  clear h h' hT z z' hr hr' e hl hl' hq
  go_enter Tryz.func82,Tryz.ntmps82
  go_wp2
  go_ret
  exact⟨by rw [<-HF.out];rfl,Below.refl _ _⟩
theorem mat_same {t:Bool}(e:decide (m=m'/\MM=NN)=t)(hT:zao w)(h:zaE w A n c m MM)(h':zaE w A' n' c' m' NN)(z:zaB K MM)(z':zaB K' NN)(hK:K<=67108864:=by omega)(hK':K'<=67108864:=by omega):
  Calls Tryz.prog 41 #[.agg #[.slice A n c,.int .i64 (m:Int)],.agg #[.slice A' n' c',.int .i64 (m':Int)]] w (λe w'=>e=.returned (.bool t)/\Below w.heap.size w w'):=by
 obtain⟨bx1,bx2,bx3,bz⟩:=zbl w 28 28 #[.slice A n c,.int .i64 (m:Int)] #[.slice A' n' c',.int .i64 (m':Int)]
 obtain⟨g0,g1⟩:=bx2.c2
 obtain⟨p0,p1⟩:=bx3.c2
 by_cases hq:m=m'
 ·have e0:((m:Int)==(m':Int))=true:=by rw [beq_iff_eq];omega
  have e1:decide (MM=NN)=t:=by
   rw [<-e]
   by_cases hx:MM=NN
   ·rw [decide_eq_true hx,decide_eq_true ⟨hq,hx⟩]
   ·rw [decide_eq_false hx,decide_eq_false (λy=>hx y.2)]
  have hx:=h.hm
  have hy:=h'.hm
  have H:=lh9 (zmT (q:=c) (q':=c') e1 (hT.on bx1) (h.keep bx1).rows (h'.keep bx1).rows z z' (λL hL=>by rw [h.dims.cols L hL];exact hx) (λL hL=>by rw [h'.dims.cols L hL];exact hy) h.hn hK hK')
  have HB:=lh9 bx1
  clear h h' hT z z' bx1 bx2 bx3 bz e e1 hq
  go_enter Tryz.func41,Tryz.ntmps41
  go_wp2_with fail
  refine H.out.mono ?_
  rintro e w1 ⟨rfl,hb⟩
  have HB2:=lh9 (zac HB.out hb)
  clear hb g0 g1 p0 p1
  go_wp2
  go_ret
  exact⟨rfl,HB2.out⟩
 ·have e0:((m:Int)==(m':Int))=false:=by rw [beq_eq_false_iff_ne];omega
  have HF:Hid (false=t):=by rw [<-e];exact(decide_eq_false (λy=>hq y.1)).symm
  have HB:=lh9 bx1
  clear h h' hT z z' bx1 bx2 bx3 bz e hq
  go_enter Tryz.func41,Tryz.ntmps41
  go_wp2
  go_ret
  exact⟨by rw [<-HF.out];rfl,HB.out⟩
end
theorem zeB.below {w w':World}{A:oA9}{n:Nat}{zs:List Int}(h:zeB w A n zs)(hb:Below w.heap.size w w'):zeB w' A n zs:=⟨h.len,h.ints,λi hi=>by
 obtain⟨ad,e,hc⟩:=h.num i hi
 exact⟨ad,e,zae hb hc⟩⟩
def ziA (n:Nat)(zs:List Int)(M:List (List Rat)):List (List Rat):=zdH n zs.length λa b=>atM M a (zs.getD b 0).toNat
theorem zom {zs:List Int}{m b:Nat}(h:ziu zs m=false)(hb:b<zs.length):∃k:Nat,zs.getD b 0=(k:Int)/\k<m:=by
 unfold ziu at h
 have:=List.any_eq_false.1 h (zs.getD b 0) (List.mem_of_getElem? (zdo hb))
 simp at this
 exact inB_yes this
section
variable {A:oA9}{n c m K:Nat}{MM:List (List Rat)}{w:World}{Q:oA9}{q qc:Nat}{zs:List Int}
theorem mat_pick (hT:zao w)(h:zaE w A n c m MM)(z:zaB K MM)(hz:zeB w Q q zs)(hq:q<=64)(hs:ziu zs m=false)(hK:K+2<=67108864:=by omega):
  Calls Tryz.prog 47 #[.agg #[.slice A n c,.int .i64 (m:Int)],.slice Q q qc] w (zel w n q (ziA n zs MM)):=by
 obtain⟨hn,hm⟩:=And.intro h.hn h.hm
 have hl:=hz.len
 obtain⟨bx,by0,by1,by2,bz⟩:=zbm w 28 63 28 #[.slice A n c,.int .i64 (m:Int)] #[.slice Q q qc] #[.slice none 0 0,.int .i64 0]
 have HK0:=lh9 by0
 have HK1:=lh9 by1
 have HK2:=lh9 by2
 have HB:=lh9 bx
 have hmf:=znh
 have HR:=λW=>lh9 (zcy A n c (m:Int) W)
 have HMY:=λW=>lh9 (zit (zis hn hq) W)
 have HCF:Hid (∀W,Below w.heap.size w W->Blk W w.heap.size 28 #[.slice A n c,.int .i64 (m:Int)]->Calls Tryz.prog 88 #[.slice Q q qc,.func (.func 87) #[] #[.pointer (some ⟨w.heap.size,0,none⟩)]] W (λe w'=>e=.returned (.bool false)/\Below W.heap.size W w')):=λW hb hk=>by
  have:=zgR (q:=qc) (hz.below hb) hk (by omega)
  rw [hs] at this
  exact this
 have HM:∀W,Below w.heap.size w W->Blk W w.heap.size 28 #[.slice A n c,.int .i64 (m:Int)]->Blk W (w.heap.size+1) 63 #[.slice Q q qc]->∀z9:Int,z9=(q:Int)->Hid (Calls Tryz.prog 52 #[.int .i64 (n:Int),.int .i64 z9,.func (.func 89) #[] #[.pointer (some ⟨w.heap.size,0,none⟩),.pointer (some ⟨w.heap.size+1,0,none⟩)]] W (zca W n q (ziA n zs MM))):=λW hW k0 k1 z9 hz9=>by
  subst hz9
  have hh:=h.keep hW
  have hz2:=hz.below hW
  have q9:=zgz (K:=K) (λa b=>atM MM a (zs.getD b 0).toNat) 89 #[.pointer (some ⟨w.heap.size,0,none⟩),.pointer (some ⟨w.heap.size+1,0,none⟩)] n q W (hT.on hW) ⟨en_pick2,λa b ha hb9 w' hb=>by
   obtain⟨k,hk1,hk2⟩:=zom hs (show b<zs.length by omega)
   obtain⟨ap,e,hc⟩:=(hz2.below hb).num b hb9
   subst e
   rw [hk1] at hc
   dsimp only
   rw [hk1,Int.toNat_natCast]
   exact cl_pick (hh.keep hb) (zad hb k0) (zad hb k1) hc ha hb9 hk2⟩ (λa b ha hb9=>by
   obtain⟨k,hk1,hk2⟩:=zom hs (show b<zs.length by omega)
   rw [hk1,Int.toNat_natCast]
   exact z.at_ h.dims ha hk2) hn hq hK
  unfold ziA
  rw [hl]
  exact q9
 clear bx bz by0 by1 by2 hT h z hz hs hl
 obtain⟨p0_0,p0_1⟩:=HK0.out.c2
 have p1_0:=HK1.out.c1
 go_enter Tryz.func47,Tryz.ntmps47
 go_wp2_with fail
 generalize ((w.alloc (.cells #[.slice A n c,.int .i64 (m:Int)] 28)).alloc (.cells #[.slice Q q qc] 63)).alloc (.cells #[.slice none 0 0,.int .i64 0] 28)=W1 at*
 refine rg (csc p0_0 (csc p0_1 (csc p1_0 csn))) (λhHeld=>?_)
 clear p0_0 p0_1 p1_0
 have hbd:=(Below.refl W1.heap.size W1).drew
 have HB:=lh9 (zac HB.out hbd)
 have HK0:=lh9 (zad hbd HK0.out)
 have HK1:=lh9 (zad hbd HK1.out)
 have HK2:=lh9 (zad hbd HK2.out)
 clear hbd
 generalize W1.drew=D at*
 refine tk 0 ?_
 refine tk 2 ?_
 refine tk 3 ?_
 refine rc 1 (λKK hK9=>?_)
 go_simp
 refine((HR _).out).mono ?_
 rintro e w2 ⟨rfl,hb⟩
 refine hK9.out _ _ (Cs.below hHeld hb) (λhHeld=>?_)
 clear hK9 KK
 have HB:=lh9 (zac HB.out hb)
 have HK0:=lh9 (zad hb HK0.out)
 have HK1:=lh9 (zad hb HK1.out)
 have HK2:=lh9 (zad hb HK2.out)
 clear hb
 refine rc 4 (λKK hK9=>?_)
 go_simp
 refine((HMY _).out).mono ?_
 rintro e w2 ⟨rfl,rfl⟩
 refine hK9.out _ _ hHeld (λhHeld=>?_)
 clear hK9 KK
 refine tk 5 ?_
 refine tk 6 ?_
 refine tk 7 ?_
 refine tk 8 ?_
 refine rc 9 (λKK hK9=>?_)
 go_simp
 refine(HCF.out _ HB.out HK0.out).mono ?_
 rintro e w2 ⟨rfl,hb⟩
 refine hK9.out _ _ (Cs.below hHeld hb) (λhHeld=>?_)
 clear hK9 KK
 have HB:=lh9 (zac HB.out hb)
 have HK0:=lh9 (zad hb HK0.out)
 have HK1:=lh9 (zad hb HK1.out)
 have HK2:=lh9 (zad hb HK2.out)
 clear hb
 refine tk 10 ?_
 refine rdn ?_
 clear hHeld
 obtain⟨p0_0,p0_1⟩:=HK0.out.c2
 have p1_0:=HK1.out.c1
 go_wp2_with fail
 refine rg (csc p0_0 (csc p0_1 (csc p1_0 csn))) (λhHeld=>?_)
 clear p0_0 p0_1 p1_0
 have hbd:=(Below.refl w2.heap.size w2).drew
 have HB:=lh9 (zac HB.out hbd)
 have HK0:=lh9 (zad hbd HK0.out)
 have HK1:=lh9 (zad hbd HK1.out)
 have HK2:=lh9 (zad hbd HK2.out)
 clear hbd
 generalize w2.drew=D at*
 refine tk 0 ?_
 refine tk 2 ?_
 refine tk 3 ?_
 refine tk 4 ?_
 refine rc 1 (λKK hK9=>?_)
 go_simp
 refine((HR _).out).mono ?_
 rintro e w2 ⟨rfl,hb⟩
 refine hK9.out _ _ (Cs.below hHeld hb) (λhHeld=>?_)
 clear hK9 KK
 have HB:=lh9 (zac HB.out hb)
 have HK0:=lh9 (zad hb HK0.out)
 have HK1:=lh9 (zad hb HK1.out)
 have HK2:=lh9 (zad hb HK2.out)
 clear hb
 refine rc 5 (λKK hK9=>?_)
 go_simp
 refine(HM _ HB.out HK0.out HK1.out _ (by rfl)).out.mono ?_
 rintro e w3 ⟨A3,c3,rfl,hm3,hf3,hb⟩
 refine hK9.out _ _ (Cs.below hHeld hb) (λhHeld=>?_)
 clear hK9 KK
 have hk3:=zad hb HK2.out
 obtain⟨sc0,sf0,sc1,sf1⟩:=st2 hk3 (.slice A3 (n) c3)
 obtain⟨r0,r1⟩:=(sn2 hk3 (.slice A3 (n) c3) (.int .i64 ((q:Nat):Int))).c2
 have HG:=lh9 (gmb2 hm3 (λad e=>Nat.lt_of_lt_of_le HK2.out.lt (hf3 ad e)) hk3 (zac HB.out hb) (by omega))
 clear hb hk3 hm3 hf3 HB HM HK0 HK1 HK2
 refine rc 6 (λKK hK9=>?_)
 go_simp
 refine hK9.out _ _ ?_ (λhHeld=>?_)
 ·refine Cs.far hHeld (zdA _ _ _ _) ⟨by show w.heap.size≠w.heap.size+1+1;omega,by show w.heap.size≠w.heap.size+1+1;omega,by show w.heap.size+1≠w.heap.size+1+1;omega,trivial⟩
 clear hK9 KK
 refine tk 7 ?_
 refine rdn ?_
 clear hHeld sc0 sf0 sc1 sf1
 go_wp2
 refine bodyPost_ret (v:=.tuple #[.agg #[.slice A3 (n) c3,.int .i64 ((q:Nat):Int)],.bool true]) (by simp [results,Tryz.results47,go_sem,r0,r1]) rfl ?_
 exact HG.out
end
theorem znQ {k n:Nat}{M:List (List Rat)}{v:List Rat}(h:M.length=n)(hk:k<n):(zaN M v)[k]?=some (zdY (M.getD k []) v):=by
 unfold zaN
 rw [List.getElem?_map,List.getD_eq_getElem?_getD,List.getElem?_eq_getElem (by omega)];rfl
theorem znR (M:List (List Rat))(v:List Rat):(zaN M v).length=M.length:=by simp [zaN]
theorem zcr {A B0:oA9}{n c m d0 K K':Nat}{M:List (List Rat)}{ys:List Rat}{w:World}(h:zbL w A n c m M)(hv:zbw w B0 m d0 ys)(hx:zaB K M)(hy:zay K' ys)(hK:K<=2097152)(hK':K'<=2097152)(hKS:1+m*(K+K'+1)<=2097152)(hKK:K+K'<=2097152:=by omega):
  Calls Tryz.prog 40 #[.agg #[.slice A n c,.int .i64 (m:Int)],.slice B0 m d0] w (zgl w n (zaN M ys)):=by
 obtain⟨i1',hi1,hz10,hz11,hz12⟩:=info_parts zhE
 have hn0:n<=64:=h.hn
 have hm0:m<=64:=h.hm
 have HS:Hid (∀k,k<n->(zaN M ys).take (k+1)=(zaN M ys).take k++[zdY (M.getD k []) ys]):=λk hk=>zdL (znQ h.dims.rows hk)
 have HL:Hid ((zaN M ys).length=n):=by show _=_;rw [znR];exact h.dims.rows
 have HRS:Hid (∀k,k<n->zay K (M.getD k [])):=λk hk=>hx.row (by rw [h.dims.rows];exact hk)
 have HDOT:Hid (∀(W:World) (X:oA9) (dx:Nat) (Y:oA9) (dy:Nat) (xs:List Rat),zbw W X m dx xs->zbw W Y m dy ys->zay K xs->Calls Tryz.prog 81 #[.slice X m dx,.slice Y m dy] W (zcs W (zdY xs ys))):=λW X dx Y dy xs h1 h2 h3=>zjU h1 h2 h3 hy hK hK' hKS (by omega) hKK
 obtain⟨C,hC⟩:∃C,zaN M ys=C:=⟨_,rfl⟩
 rw [hC] at HS HL⊢
 obtain⟨bx1,bx2,bz⟩:=zaD w 32 #[.slice A n c,.int .i64 (m:Int)]
 have HM:=lh9 (h.keep bx1)
 have HV:=lh9 (zbw.keep hv bx1)
 obtain⟨g0,g1⟩:=bx2.c2
 have HB0:=lh9 bx1
 have HK:=lh9 bx2
 unfold zgl
 clear h hv hx hy hC bx1 bx2 bz hK hK' hKS hKK
 go_enter Tryz.func40,Tryz.ntmps40
 go_wp2_with fail
 generalize w.alloc (.cells #[.slice A n c,.int .i64 (m:Int)] 32)=W1 at*
 have hB:=Below.refl W1.heap.size W1
 clear g0 g1
 go_loopg [5,6] (n+1) (λg sl ix wr=>∃(k:Nat) (v:Value) (vs:List Value),k<=n/\n<g+k/\ix=.int .i64 k/\v=sl/\zcw zbF wr W1.heap.size 94 v (C.take k) vs/\Below W1.heap.size W1 wr)
 case atStart=>exact⟨0,_,_,Nat.zero_le _,by omega,rfl,rfl,zcw.nil _ _ _,hB⟩
 case round=>
  clear hB
  obtain⟨k,v,vs,hkn,hg,rfl,rfl,hon,hB⟩:=hrel
  obtain⟨g0,g1⟩:=(zad hB HK.out).c2
  by_cases hlt:k<n
  ·obtain⟨ad,B,d,rfl,-,hc0,hr⟩:=HM.out.row hB hlt
   have HSK:=lh9 (HS.out k hlt)
   have HRK:=lh9 (HRS.out k hlt)
   have HR:=lh9 hr
   have hd1:decide ((k:Int)<(n:Int))=true:=decide_eq_true (by omega)
   have hd1':decide (k<n)=true:=decide_eq_true hlt
   have i1:(0:Int)<=(k:Int):=by omega
   have i2:(k:Int)<(n:Int):=by omega
   have hlq:(C.take k).length=k:=by rw [List.length_take,HL.out];omega
   have HLQ:=lh9 hlq
   have HON0:=lh9 hon
   have HB1:=lh9 hB
   clear hon hB hr hlq
   go_wp2_with fail
   (with_reducible refine(HDOT.out _ _ _ _ _ _ HR.out (zbw.keep HV.out HB1.out) HRK.out).mono ?_)
   rintro e w5 ⟨b1,B1,m1,d1,E1,u1,v1,rfl,hq,hb⟩
   obtain⟨t1,t2,-⟩:=zaD w5 94 #[.bool b1,.slice B1 m1 d1,.slice E1 u1 v1]
   have hup:=zac hb t1
   have hon1:=zcw.below zai HON0.out hup
   have HX:=lh9 (zbF.below hq t1)
   have HB:=lh9 (zac HB1.out hup)
   have HCELL:=lh9 (zeJ t2)
   have HONE:=lh9 (zgy b1 B1 E1 m1 d1 u1 v1)
   have HNN:=lh9 (zgx b1 B1 E1 m1 d1 u1 v1)
   have HZN:=lh9 zfI
   have HBS:=lh9 HB.out.size
   have hown:=hon1.own
   rw [HLQ.out] at hown
   have HOWN:=lh9 hown
   have HNOU:=lh9 hon1.nou
   have HOB:=lh9 (λr (h:v.ownBlock=some r)=>hon1.own.lt r h)
   have HON:=lh9 hon1
   clear hon1 hq hb hup t1 t2 hown hc0 g0 g1
   go_wp2_with (at_builtin;go_loud (refine zdc _ rfl (.tmp 14) (.tmp 22) 55 rfl W1.heap.size 94 i1' (.agg #[.bool false,.slice none 0 0,.slice none 0 0]) 3 56 Tryz.underlying55 hi1 hz10 hz11 hz12 rfl (by decide) v k vs rfl HOWN.out ⟨w5.heap.size,0,none⟩ 1 1 [.bool b1,.slice B1 m1 d1,.slice E1 u1 v1] rfl rfl HCELL.out HONE.out (by unfold maxLen;omega) (by omega) HBS.out HNOU.out HZN.out HNN.out ?_;intro v' w8 hown' hgrow hat hnou';have HON8:=lh9 (zcw.grow (n:=k+1) zai HON.out HX.out hown' (by rw [HLQ.out]) hgrow hnou');have HB8:=lh9 (HB.out.grown hgrow HBS.out (λr hr=>(HOB.out r hr).1));clear hown' hgrow hat hnou'))
   rw [<-HSK.out] at HON8
   go_roundg (n - k)
   case measure=>omega
   case rel=>exact⟨k+1,_,_,by omega,by omega,by go_num,rfl,HON8.out,HB8.out⟩
  ·have hk:k=n:=by omega
   subst hk
   have hd1:decide ((k:Int)<(k:Int))=false:=by simp
   have hd1':decide (k<k)=false:=by simp
   rw [List.take_of_length_le (by rw [HL.out];exact Nat.le_refl _)] at hon
   obtain⟨A1,c1,rfl,hv,hf⟩:=hon.shape
   rw [HL.out] at hv⊢
   have HV:=lh9 hv
   have HB1:=lh9 (zac HB0.out hB)
   clear hon hv hB hf
   go_wp2
   go_ret
   exact⟨A1,c1,rfl,HV.out,HB1.out⟩
