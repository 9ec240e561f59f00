/- What this claim leans on. -/
import Derived.Test.YtcojjcjgbepicaaGreatDoorEP8D
namespace Go.Proofs.YtcojjcjgbepicaaGreatDoor
open Go Go.RowKit
set_option maxHeartbeats 16000000
set_option maxRecDepth 100000
set_option linter.unusedVariables false
set_option linter.unusedSimpArgs false
theorem zjA {r:Int}{n:Nat}{b:Bool}(e:inB r n=b)(A:oA9)(c:Nat)(z:Int)(w:World):Calls Tryz.prog 95 #[.agg #[.slice A n c,.int .i64 z],.int .i64 r] w (λe w'=>e=.returned (.bool b)/\Below w.heap.size w w'):=e▸zng A n c z r w
theorem zoV {r:Int}{m:Nat}{b:Bool}(e:inB r m=b)(A:oA9)(n c:Nat)(w:World):Calls Tryz.prog 105 #[.agg #[.slice A n c,.int .i64 (m:Int)],.int .i64 r] w (λe w'=>e=.returned (.bool b)/\Below w.heap.size w w'):=e▸znf A n c m r w
section
variable {A:oA9}{n c m K:Nat}{MM:List (List Rat)}{w:World}
theorem zkw {i j:Nat}(hT:zaj w)(h:zaS w A n c m MM)(z:zaA K MM)(hi:i<n)(hj:j<m)(hK:K+2<=67108864:=by omega):
  Calls Tryz.prog 43 #[.agg #[.slice A n c,.int .i64 (m:Int)],.int .i64 (i:Int),.int .i64 (j:Int)] w (zaH w (atM MM i j)):=by
 have HR:=λW=>lh9 (zjA (zkr hi) A c (m:Int) W)
 have HC:=λW=>lh9 (zoV (zkr hj) A n c W)
 obtain⟨bx1,bx2,bx3,bz⟩:=zbz w 32 53 #[.slice A n c,.int .i64 (m:Int)] #[.bool false,.slice none 0 0,.slice none 0 0]
 obtain⟨g0,g1⟩:=bx2.c2
 have HM:=lh9 h
 have HS:=lh9 (z.at_ h.dims hi hj)
 have HT:=lh9 (λw' (hb:Below w.heap.size w w')=>hT.on hb)
 have HB:=lh9 bx1
 have HK1:=lh9 bx2
 have HK2:=lh9 bx3
 clear hT h z bx1 bx2 bx3 bz
 go_enter Tryz.func43,Tryz.ntmps43
 go_wp2_with fail
 refine(HR _).out.mono ?_
 rintro e w1 ⟨rfl,hb⟩
 have HB1:=lh9 (zaa HB.out hb)
 have HK3:=lh9 (zab hb HK1.out)
 have HK4:=lh9 (zab hb HK2.out)
 obtain⟨g0,g1⟩:=HK3.out.c2
 clear hb HB HK1 HK2
 go_wp2_with fail
 refine(HC _).out.mono ?_
 rintro e w2 ⟨rfl,hb⟩
 have HB2:=lh9 (zaa HB1.out hb)
 have HK5:=lh9 (zab hb HK3.out)
 have HK6:=lh9 (zab hb HK4.out)
 obtain⟨g0,g1⟩:=HK5.out.c2
 clear hb HB1 HK3 HK4
 obtain⟨ad,B,d,rfl,-,hc,ae,b3,A3,n3,c3,E3,k3,f3,rfl,-,h0,h1,h2,hw3⟩:=HM.out.place HB2.out hi hj
 have i1:(0:Int)<=(i:Int):=by omega
 have i2:(i:Int)<(n:Int):=by omega
 have i3:(0:Int)<=(j:Int):=by omega
 have i4:(j:Int)<(m:Int):=by omega
 obtain⟨t1,t2,-⟩:=zaw w2 53 #[.bool b3,.slice A3 n3 c3,.slice E3 k3 f3]
 have HL:=lh9 (zmn t2 (hw3.below t1))
 have HB3:=lh9 (zaa HB2.out t1)
 have HK7:=lh9 (zab t1 HK6.out)
 have HSA:Hid (zat K [atM MM i j]):=λy hy=>by rw [List.mem_singleton.1 hy];exact HS.out
 clear hw3 t1 t2 HK5 HK6 HB2
 go_wp2_with fail
 (with_reducible refine(q_sum (HT.out _ HB3.out) HL.out HSA.out (by decide) (by omega)).mono ?_)
 rintro e w5 ⟨b5,A5,n5,c5,E5,k5,f5,rfl,hw5,hb⟩
 have hw5:zai w5 (atM MM i j) b5 A5 n5 c5 E5 k5 f5:=by
  have e:zdw [atM MM i j]=atM MM i j:=by rw [zgk,zjQ,Rat.add_zero]
  rw [e] at hw5
  exact hw5
 have hk5:=zab hb HK7.out
 obtain⟨sc0,sf0,sc1,sf1,sc2,sf2⟩:=st3 hk5 (.bool b5) (.slice A5 n5 c5)
 obtain⟨r0,r1,r2⟩:=(sn3 hk5 (.bool b5) (.slice A5 n5 c5) (.slice E5 k5 f5)).c3
 have HG:=lh9 (gq3 hw5 hk5 (zaa HB3.out hb) (by omega))
 clear hb hk5 hw5 HK7 HB3 HL g0 g1 hc h0 h1 h2
 go_wp2
 refine bodyPost_ret (v:=.agg #[.bool b5,.slice A5 n5 c5,.slice E5 k5 f5]) (by simp [results,Tryz.results43,go_sem,r0,r1,r2]) rfl ?_
 exact HG.out
theorem zhO {i:Nat}(hT:zaj w)(h:zaS w A n c m MM)(z:zaA K MM)(hi:i<n)(hK:K+2<=67108864:=by omega):
  Calls Tryz.prog 32 #[.agg #[.slice A n c,.int .i64 (m:Int)],.int .i64 (i:Int)] w (zdx w m (MM.getD i [])):=by
 have hm:=h.hm
 obtain⟨bx1,bx2,bz⟩:=zaw w 32 #[.slice A n c,.int .i64 (m:Int)]
 obtain⟨g0,g1⟩:=bx2.c2
 have HR:=λW=>lh9 (zjA (zkr hi) A c (m:Int) W)
 have HM:=lh9 h
 have HT:=lh9 (λw' (hb:Below w.heap.size w w')=>hT.on hb)
 have HS:=lh9 (z.row (i:=i) (by rw [h.dims.rows];exact hi))
 have HB:=lh9 bx1
 have HK:=lh9 bx2
 clear hT h z bx1 bx2 bz
 unfold zdx
 go_enter Tryz.func32,Tryz.ntmps32
 go_wp2_with fail
 refine(HR _).out.mono ?_
 rintro e w1 ⟨rfl,hb⟩
 have HB1:=lh9 (zaa HB.out hb)
 obtain⟨g0,g1⟩:=(zab hb HK.out).c2
 obtain⟨ad,B,d,rfl,-,hc,hv⟩:=HM.out.row HB1.out hi
 have i1:(0:Int)<=(i:Int):=by omega
 have i2:(i:Int)<(n:Int):=by omega
 have HV:=lh9 hv
 clear hb HB HK hv
 go_wp2_with fail
 (with_reducible refine(zmm (HT.out _ HB1.out) HV.out HS.out).mono ?_)
 rintro e w5 ⟨g5,rfl,hg5,ho5,hb⟩
 have HG:=lh9 (And.intro (Nat.le_trans HB1.out.size hg5) (And.intro ho5 (zaa HB1.out hb)))
 clear g0 g1 hg5 ho5 hb hc
 go_wp2
 go_ret2
 exact⟨g5,rfl,HG.out⟩
end
section
variable {A A':oA9}{n n' c c' m m' K K' q q':Nat}{MM NN:List (List Rat)}{w:World}
theorem en_vsame:∀(args:Array Value) (w':World),Sem.run Tryz.prog (callFunc 50 args) w'=.ok (.enter 50 args) w':=Go.Proofs.enters_of Tryz.func50 (by kernel_rfl) rfl
theorem same_len {α:Type}{xs ys:List α}{n n':Nat}(hx:xs.length=n)(hy:ys.length=n')(h:n≠n'):xs≠ys:=λe=>h (by rw [<-hx,<-hy,e])
theorem same_at {xs ys:List (List Rat)}{n k:Nat}(hx:xs.length=n)(hy:ys.length=n)(hk:k<n)(h:xs.getD k []≠ys.getD k []):xs≠ys:=λe=>h (by rw [e])
theorem same_all {xs ys:List (List Rat)}{n:Nat}(hx:xs.length=n)(hy:ys.length=n)(h:∀k,k<n->xs.getD k []=ys.getD k []):xs=ys:=by
 apply List.ext_getElem
 ·omega
 ·intro i h1 h2
  have:=h i (by omega)
  rw [List.getD_eq_getElem?_getD,List.getD_eq_getElem?_getD,List.getElem?_eq_getElem h1,List.getElem?_eq_getElem h2] at this
  exact this
theorem zmP {t:Bool}(e:decide (MM=NN)=t)(hT:zaj w)(h:zaz (zaN zai) w A n MM)(h':zaz (zaN zai) w A' n' NN)(z:zaA K MM)(z':zaA K' NN)(hr:∀L ∈ MM,L.length<=64)(hr':∀L ∈ NN,L.length<=64)(hn:n<=64)(hK:K<=67108864)(hK':K'<=67108864):
  Calls Tryz.prog 110 #[.slice A n q,.slice A' n' q',.func (.func 50) #[] #[]] w (λe w'=>e=.returned (.bool t)/\Below w.heap.size w w'):=by
 have hl:=h.len
 have hl':=h'.len
 have hEn:=en_vsame
 by_cases hq:n=n'
 ·subst hq
  have HA:=lh9 h
  have HA':=lh9 h'
  have HT:=lh9 (λw' (hb:Below w.heap.size w w')=>hT.on hb)
  have HS:Hid (∀i,i<n->zat K (MM.getD i [])):=λi hi=>z.row (by omega)
  have HS':Hid (∀i,i<n->zat K' (NN.getD i [])):=λi hi=>z'.row (by omega)
  have HR:Hid (∀i,i<n->(MM.getD i []).length<=64):=λi hi=>hr _ (List.mem_of_getElem? (zbV (by omega)))
  have HR':Hid (∀i,i<n->(NN.getD i []).length<=64):=λi hi=>hr' _ (List.mem_of_getElem? (zbV (by omega)))
  have HNE:Hid (∀k,k<n->MM.getD k []≠NN.getD k []->false=t):=λk hk hne=>by
   rw [<-e];exact(decide_eq_false (same_at hl hl' hk hne)).symm
  have HEQ:Hid ((∀k,k<n->MM.getD k []=NN.getD k [])->true=t):=λha=>by
   rw [<-e];exact(decide_eq_true (same_all hl hl' ha)).symm
  have hB:=Below.refl w.heap.size w
  have e0:((n:Int) !=(n:Int))=false:=by simp
  have i0:(0:Int)<=(n:Int):=by omega
  clear h h' hT z z' hr hr' e hl hl'
  go_enter Tryz.func110,Tryz.ntmps110
  go_wp2_with fail
  go_loopg [17] (n+1) (λg ix wr=>∃(k:Nat),k<=n/\n<g+k/\ix=.int .i64 k/\Hid (∀i,i<k->MM.getD i []=NN.getD i [])/\Below w.heap.size w wr)
  case atStart=>exact⟨0,Nat.zero_le _,by omega,rfl,λi hi=>by omega,hB⟩
  case round=>
   clear hB
   obtain⟨k,hkn,hg,rfl,hz0,hB⟩:=hrel
   by_cases hlt:k<n
   ·obtain⟨ad,B,d,rfl,-,hc,hv⟩:=HA.out.get (zam zaf) hB hlt rfl
    obtain⟨ad',B',d',rfl,-,hc',hv'⟩:=HA'.out.get (zam zaf) hB hlt rfl
    have hd1:decide ((k:Int)<(n:Int))=true:=decide_eq_true (by omega)
    have i1:(0:Int)<=(k:Int):=by omega
    have i2:(k:Int)<(n:Int):=by omega
    have h5:=HR.out k hlt
    have h6:=HR'.out k hlt
    have HNK:=lh9 (HNE.out k hlt)
    have HSK:=lh9 (HS.out k hlt)
    have HSK':=lh9 (HS'.out k hlt)
    have HZ1:Hid (MM.getD k []=NN.getD k []->∀i,i<k+1->MM.getD i []=NN.getD i []):=λhh i hi=>by
     by_cases e:i=k
     ·rw [e];exact hh
     ·exact hz0.out i (by omega)
    obtain⟨X,hX⟩:∃X,MM.getD k []=X:=⟨_,rfl⟩
    obtain⟨Y,hY⟩:∃Y,NN.getD k []=Y:=⟨_,rfl⟩
    rw [hX] at hc hv h5 HNK HSK HZ1
    rw [hY] at hc' hv' h6 HNK HSK' HZ1
    obtain⟨lx,hlx⟩:∃l,X.length=l:=⟨_,rfl⟩
    obtain⟨ly,hly⟩:∃l,Y.length=l:=⟨_,rfl⟩
    rw [hlx] at hc hv h5
    rw [hly] at hc' hv' h6
    have HV:=lh9 hv
    have HV':=lh9 hv'
    have HB1:=lh9 hB
    clear hX hY hv hv' hlx hly hB
    by_cases h0:X=Y
    ·have HQ:=lh9 (decide_eq_true h0)
     have HZ2:=lh9 (HZ1.out h0)
     clear h0
     go_wp2_with fail
     (with_reducible refine(zeI HQ.out (HT.out _ HB1.out) HV.out HV'.out HSK.out HSK'.out (by omega) (by omega) hK hK').mono ?_)
     rintro e w3 ⟨rfl,hb⟩
     have HB2:=lh9 (zaa HB1.out hb)
     clear hb hc hc' HV HV' HB1
     go_wp2
     go_roundg (n - k)
     case measure=>omega
     case rel=>exact⟨k+1,by omega,by omega,by go_num,HZ2,HB2.out⟩
    ·have HQ:=lh9 (decide_eq_false h0)
     have HF:=lh9 (HNK.out h0)
     clear h0
     go_wp2_with fail
     (with_reducible refine(zeI HQ.out (HT.out _ HB1.out) HV.out HV'.out HSK.out HSK'.out (by omega) (by omega) hK hK').mono ?_)
     rintro e w3 ⟨rfl,hb⟩
     have HB2:=lh9 (zaa HB1.out hb)
     clear hb hc hc' HV HV' HB1
     go_wp2
     go_ret
     exact⟨by rw [<-HF.out];rfl,HB2.out⟩
   ·have hk:k=n:=by omega
    subst hk
    have hd1:decide ((k:Int)<(k:Int))=false:=by simp
    have HF:=lh9 (HEQ.out hz0.out)
    have HB2:=lh9 hB
    clear hB
    go_wp2
    go_ret
    exact⟨by rw [<-HF.out];rfl,HB2.out⟩
 ·have e0:((n:Int) !=(n':Int))=true:=by rw [bne_iff_ne];omega
  have HF:Hid (false=t):=by rw [<-e];exact(decide_eq_false (same_len hl hl' hq)).symm
  clear h h' hT z z' hr hr' e hl hl' hq
  go_enter Tryz.func110,Tryz.ntmps110
  go_wp2
  go_ret
  exact⟨by rw [<-HF.out];rfl,Below.refl _ _⟩
theorem zlL {t:Bool}(e:decide (m=m'/\MM=NN)=t)(hT:zaj w)(h:zaS w A n c m MM)(h':zaS w A' n' c' m' NN)(z:zaA K MM)(z':zaA K' NN)(hK:K<=67108864:=by omega)(hK':K'<=67108864:=by omega):
  Calls Tryz.prog 46 #[.agg #[.slice A n c,.int .i64 (m:Int)],.agg #[.slice A' n' c',.int .i64 (m':Int)]] w (λe w'=>e=.returned (.bool t)/\Below w.heap.size w w'):=by
 obtain⟨bx1,bx2,bx3,bz⟩:=zbz w 32 32 #[.slice A n c,.int .i64 (m:Int)] #[.slice A' n' c',.int .i64 (m':Int)]
 obtain⟨g0,g1⟩:=bx2.c2
 obtain⟨p0,p1⟩:=bx3.c2
 by_cases hq:m=m'
 ·have e0:((m:Int)==(m':Int))=true:=by rw [beq_iff_eq];omega
  have e1:decide (MM=NN)=t:=by
   rw [<-e]
   by_cases hx:MM=NN
   ·rw [decide_eq_true hx,decide_eq_true ⟨hq,hx⟩]
   ·rw [decide_eq_false hx,decide_eq_false (λy=>hx y.2)]
  have hx:=h.hm
  have hy:=h'.hm
  have H:=lh9 (zmP (q:=c) (q':=c') e1 (hT.on bx1) (h.keep bx1).rows (h'.keep bx1).rows z z' (λL hL=>by rw [h.dims.cols L hL];exact hx) (λL hL=>by rw [h'.dims.cols L hL];exact hy) h.hn hK hK')
  have HB:=lh9 bx1
  clear h h' hT z z' bx1 bx2 bx3 bz e e1 hq
  go_enter Tryz.func46,Tryz.ntmps46
  go_wp2_with fail
  refine H.out.mono ?_
  rintro e w1 ⟨rfl,hb⟩
  have HB2:=lh9 (zaa HB.out hb)
  clear hb g0 g1 p0 p1
  go_wp2
  go_ret
  exact⟨rfl,HB2.out⟩
 ·have e0:((m:Int)==(m':Int))=false:=by rw [beq_eq_false_iff_ne];omega
  have HF:Hid (false=t):=by rw [<-e];exact(decide_eq_false (λy=>hq y.1)).symm
  have HB:=lh9 bx1
  clear h h' hT z z' bx1 bx2 bx3 bz e hq
  go_enter Tryz.func46,Tryz.ntmps46
  go_wp2
  go_ret
  exact⟨by rw [<-HF.out];rfl,HB.out⟩
end
section
variable {w:World}{A:oA9}{n c m K:Nat}{MM:List (List Rat)}
theorem zfc (hT:zaj w)(h:zaS w A n c m MM)(z:zaA K MM)(hK:K+2<=67108864:=by omega):
  Calls Tryz.prog 75 #[.agg #[.slice A n c,.int .i64 (m:Int)]] w (zfy w n MM):=by
 obtain⟨hn,hm⟩:=And.intro h.hn h.hm
 have HM:=lh9 (λw' (hb:Below w.heap.size w w')=>h.keep hb)
 have HT:=lh9 (λw' (hb:Below w.heap.size w w')=>hT.on hb)
 have HZ:=lh9 z
 have HR:=λW=>lh9 (zbu A n c (m:Int) W)
 have HLZ:Hid (MM.length=n):=h.dims.rows
 have HLC:Hid (∀i,i<n->(MM.getD i []).length=m):=λi hi=>h.dims.row hi
 have HG:Hid (∀i,i<n->MM[i]?=some (MM.getD i [])):=λi hi=>zbV (by have:=h.dims.rows;omega)
 obtain⟨Y,hY⟩:=zhc n (by omega)
 have hmk:=λW=>(hY W).1
 have HOWN:=lh9 (λW=>(hY W).2)
 obtain⟨bx1,bx2,bz⟩:=zaw w 32 #[.slice A n c,.int .i64 (m:Int)]
 obtain⟨g0,g1⟩:=bx2.c2
 have HB:=lh9 bx1
 have HK:=lh9 bx2
 clear h hY bx1 bx2 bz hT z
 unfold zfy
 have i0:(0:Int)<=(n:Int):=by omega
 go_enter Tryz.func75,Tryz.ntmps75
 go_wp2_with fail
 generalize w.alloc (.cells #[.slice A n c,.int .i64 (m:Int)] 32)=W1 at*
 refine(HR _).out.mono ?_
 rintro eo w1 ⟨rfl,hb⟩
 have hK1:=zab hb HK.out
 have hB1:=zaa HB.out hb
 clear hb g0 g1 HR HB HK
 go_wp2_with fail
 clear hmk
 have hrow:=HOWN.out w1
 have hBa:=(zaw w1 71 Y).1
 have hK:=zab hBa hK1
 have hB:=zaa hB1 hBa
 have hlt1:=hK1.lt
 rw [<-zbR [] MM n] at hrow
 generalize w1.alloc (.cells Y 71)=W2 at*
 clear HOWN hBa hK1 hB1
 generalize w1.heap.size=gp at*
 go_loopg [10] (n+1) (λg ix wr=>∃(k:Nat),k<=n/\n<g+k/\ix=.int .i64 k/\zaZ (zaN zai) wr 71 gp n (zcB [] MM n k)/\Below w.heap.size w wr/\Blk wr w.heap.size 32 #[.slice A n c,.int .i64 (m:Int)])
 case atStart=>exact⟨0,Nat.zero_le _,by omega,rfl,hrow,hB,hK⟩
 case round=>
  clear hrow hB hK
  obtain⟨i,hkn,hg,rfl,hrow,hB,hK⟩:=hrel
  by_cases hlt:i<n
  ·have hd1:decide ((i:Int)<(n:Int))=true:=decide_eq_true (by omega)
   have i1:(0:Int)<=(i:Int):=by omega
   have i2:(i:Int)<(n:Int):=by omega
   obtain⟨g0,g1⟩:=hK.c2
   have HROW:=lh9 hrow
   have HB1:=lh9 hB
   have HK1:=lh9 hK
   have HGI:=lh9 (HG.out i hlt)
   clear hrow hB hK
   go_wp2_with fail
   (with_reducible refine(zhO (HT.out _ HB1.out) (HM.out _ HB1.out) HZ.out hlt).mono ?_)
   rintro eo w5 ⟨g5,rfl,hg5,ho5,hb⟩
   clear g0 g1
   have hr5:=HROW.out.below (zam zaf) hb
   have hr6:=zaZ.set_ (zam zaf) hr5 hlt (zaD ho5) (HLC.out i hlt)
   rw [zcl [] MM n i HLZ.out hlt _ HGI.out] at hr6
   obtain⟨q0,sc0,sf0⟩:=hr5.ready hlt
   have HR6:=lh9 hr6
   have HB6:=lh9 (zae (p:=⟨gp,i,none⟩) (.slice (some ⟨g5,0,none⟩) m m) (show w.heap.size<=gp by omega) (zaa HB1.out hb))
   have HK6:=lh9 (Blk.far (p:=⟨gp,i,none⟩) (zab hb HK1.out) (by show w.heap.size≠gp;omega) (.slice (some ⟨g5,0,none⟩) m m))
   clear hr5 hr6 ho5 hb HROW HB1 HK1 HGI
   go_wp2
   go_roundg (n - i)
   case measure=>omega
   case rel=>exact⟨i+1,by omega,by omega,by go_num,HR6.out,HB6.out,HK6.out⟩
  ·have hk9:i=n:=by omega
   subst hk9
   have hd1:decide ((i:Int)<(i:Int))=false:=by simp
   have HR5:=lh9 (zck [] MM i HLZ.out▸hrow)
   have HB1:=lh9 hB
   clear hrow hB hK
   go_wp2
   go_ret
   exact⟨gp,rfl,by omega,HR5.out,HB1.out⟩
end
section
variable {w:World}{g:Nat}{st:ESt}{rd:Rat}{A:oA9}{n cA:Nat}{B:oA9}{k cB:Nat}{x0 x1 x2 y0 y1 y2:Value}
def zcO (r:Rat)(M:List (List Rat)):List (List Rat):=M.map (zaI r)
theorem zkn {K m:Nat}(hT:zaj w)(hE:ElS w g st rd A n cA B k cB x0 x1 x2 y0 y1 y2)(hd:zaW st.S n m)(z:zaA K st.S)(zp:SzQ K st.p)(hp:st.p≠0)(hn:n<=64)(hm:m<=1073741824)(hK:K<=33554432:=by omega):
  Calls Tryz.prog 84 #[.pointer (some ⟨g,0,none⟩)] w (zfy w n (zcO st.p⁻¹ st.S)):=by
 obtain⟨b0,A0,n0,c0,E0,k0,f0,rfl,rfl,rfl,hpr⟩:=hE.lead
 obtain⟨vs,hrows⟩:=hE.rows
 obtain⟨A',c',hA',-,-,hL,-⟩:=hrows.shape hE.hn
 have HL:Hid (zaz (VZ g) w A n st.S):=by injection hA' with q1 q2 q3;subst q1;exact hL
 have HP:=lh9 (λw' (hb:Below w.heap.size w w')=>hpr.below hb)
 have HC:=lh9 (λw' (hb:Below w.heap.size w w')=>(hE.below hb).cells)
 have HT:=lh9 (λw' (hb:Below w.heap.size w w')=>hT.on hb)
 have HZP:=lh9 zp
 have HNP:=lh9 hp
 have HLZ:Hid ((zcO st.p⁻¹ st.S).length=n):=by unfold zcO;rw [List.length_map];exact hd.rows
 have HLR:Hid (∀i,i<n->(st.S.getD i []).length=m):=λi hi=>hd.row hi
 have HSR:Hid (∀i,i<n->zat K (st.S.getD i [])):=λi hi=>z.row (by have:=hd.rows;omega)
 have HG:Hid (∀i,i<n->(zcO st.p⁻¹ st.S)[i]?=some (zaI st.p⁻¹ (st.S.getD i []))):=λi hi=>by
  unfold zcO;rw [List.getElem?_map,zbV (d:=[]) (by have:=hd.rows;omega)];rfl
 obtain⟨ys,hys⟩:∃ys,zcO st.p⁻¹ st.S=ys:=⟨_,rfl⟩
 rw [hys] at HLZ HG⊢
 obtain⟨Y,hY⟩:=zhc n (by omega)
 have hmk:=λW=>(hY W).1
 have HOWN:=lh9 (λW=>(hY W).2)
 obtain⟨p0,-,p2,p3,p4,-⟩:=HC.out _ (Below.refl _ _)
 have i0:(0:Int)<=(n:Int):=by omega
 unfold zfy
 clear hT hE hd z zp hp hpr hrows hA' hL hY hys
 go_enter Tryz.func84,Tryz.ntmps84
 go_wp2_with fail
 clear p0 p2 p3 p4
 (with_reducible refine(zhT st.p b0 A0 n0 c0 E0 k0 f0 _ (HT.out _ (Below.refl _ _)) (HP.out _ (Below.refl _ _)) (HZP.out.fit (HP.out _ (Below.refl _ _)) (by omega)) HNP.out).mono ?_)
 rintro eo w5 ⟨b5,A5,n5,c5,E5,k5,f5,rfl,hw5,hb⟩
 obtain⟨bx1,bx2,-⟩:=zaw w5 53 #[.bool b5,.slice A5 n5 c5,.slice E5 k5 f5]
 have hI:=hw5.below bx1
 have hB5:=zaa hb bx1
 have hs5:=hb.size
 obtain⟨p0,-⟩:=HC.out _ hB5
 obtain⟨q0,-⟩:=HC.out _ (zaa hB5 (zaw (w5.alloc (.cells #[.bool b5,.slice A5 n5 c5,.slice E5 k5 f5] 53)) 71 Y).1)
 clear hb hw5 bx1
 go_wp2_with fail
 clear hmk p0 q0
 have e1:(w5.alloc (.cells #[.bool b5,.slice A5 n5 c5,.slice E5 k5 f5] 53)).heap.size=w5.heap.size+1:=by simp
 generalize w5.alloc (.cells #[.bool b5,.slice A5 n5 c5,.slice E5 k5 f5] 53)=W6 at*
 have hrow:=HOWN.out W6
 have hBa:=(zaw W6 71 Y).1
 have hK:=zab hBa bx2
 have hB:=zaa hB5 hBa
 have hI:=hI.below hBa
 rw [e1] at hrow
 obtain⟨gp,hgp⟩:∃q,w5.heap.size+1=q:=⟨_,rfl⟩
 have hltp:w5.heap.size<gp:=by omega
 rw [hgp] at hrow⊢
 rw [<-zbR [] ys n] at hrow
 generalize W6.alloc (.cells Y 71)=W7 at*
 clear HOWN hBa bx2 hB5 e1 hgp
 generalize w5.heap.size=g5 at*
 go_loopg [27] (n+1) (λgg ix wr=>∃(i:Nat),i<=n/\n<gg+i/\ix=.int .i64 i/\zaZ (zaN zai) wr 71 gp n (zcB [] ys n i)/\Below w.heap.size w wr/\Blk wr g5 53 #[.bool b5,.slice A5 n5 c5,.slice E5 k5 f5]/\zai wr st.p⁻¹ b5 A5 n5 c5 E5 k5 f5)
 case atStart=>exact⟨0,Nat.zero_le _,by omega,rfl,hrow,hB,hK,hI⟩
 case round=>
  clear hrow hB hK hI
  obtain⟨i,hkn,hg,rfl,hrow,hB,hK,hI⟩:=hrel
  by_cases hlt:i<n
  ·have hd1:decide ((i:Int)<(n:Int))=true:=decide_eq_true (by omega)
   have i1:(0:Int)<=(i:Int):=by omega
   have i2:(i:Int)<(n:Int):=by omega
   obtain⟨ad,Bi,di,rfl,-,hc0,hvi⟩:=HL.out.get (zcq g) hB hlt (HLR.out i hlt)
   obtain⟨p0,p1,p2⟩:=hK.c3
   have HV:=lh9 hvi.1
   have HROW:=lh9 hrow
   have HB1:=lh9 hB
   have HK1:=lh9 hK
   have HI1:=lh9 hI
   have HGI:=lh9 (HG.out i hlt)
   have HSI:=lh9 (HSR.out i hlt)
   have HLI:=lh9 (HLR.out i hlt)
   generalize st.S.getD i []=row at*
   clear hrow hB hK hI hvi
   go_wp2_with fail
   (with_reducible refine(zbr (HT.out _ HB1.out) HI1.out HV.out HZP.out.inv HSI.out).mono ?_)
   rintro eo w8 ⟨g8,rfl,hg8,ho8,hb⟩
   clear p0 p1 p2 hc0
   have hr5:=HROW.out.below (zam zaf) hb
   have hr6:=zaZ.set_ (zam zaf) hr5 hlt (zaD ho8) (by rw [zbm HLI.out])
   rw [zcl [] ys n i HLZ.out hlt _ HGI.out] at hr6
   obtain⟨q0,sc0,sf0⟩:=hr5.ready hlt
   obtain⟨cs9,hk9,hs9,-⟩:=hr5.blk
   have HR6:=lh9 hr6
   have HB6:=lh9 (zae (p:=⟨gp,i,none⟩) (.slice (some ⟨g8,0,none⟩) m m) (show w.heap.size<=gp by omega) (zaa HB1.out hb))
   have HK6:=lh9 (Blk.far (p:=⟨gp,i,none⟩) (zab hb HK1.out) (by show g5≠gp;omega) (.slice (some ⟨g8,0,none⟩) m m))
   have HI6:=lh9 (zcF hk9 (zfq hs9) (zbe.of_far ((zba.refl gp _).set_ i (.slice (some ⟨g8,0,none⟩) m m))) (HI1.out.below hb))
   clear hr5 hr6 ho8 hb HROW HB1 HK1 HI1 HGI hk9 hs9
   go_wp2
   go_roundg (n - i)
   case measure=>omega
   case rel=>exact⟨i+1,by omega,by omega,by go_num,HR6.out,HB6.out,HK6.out,HI6.out⟩
  ·have hk9:i=n:=by omega
   subst hk9
   have hd1:decide ((i:Int)<(i:Int))=false:=by simp
   have HR5:=lh9 (zck [] ys i HLZ.out▸hrow)
   have HB1:=lh9 hB
   clear hrow hB hK hI
   go_wp2
   go_ret
   exact⟨gp,rfl,by omega,HR5.out,HB1.out⟩
end
