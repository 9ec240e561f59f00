/- What this claim leans on. -/
import Derived.Test.YtcojjcjgbepicaaGreatDoorSVOne
import Derived.Test.YtcojjcjgbepicaaGreatDoorSERow
namespace Go.Proofs.YtcojjcjgbepicaaGreatDoor
open Go Go.RowKit
set_option maxHeartbeats 16000000
set_option maxRecDepth 100000
set_option linter.unusedVariables false
set_option linter.unusedSimpArgs false
theorem zjd (M:List (List Rat))(v:List Rat):(zcY M v).length=M.length:=by simp [zcY]
theorem zjc {M:List (List Rat)}{v:List Rat}{i:Nat}(h:i<M.length):(zcY M v)[i]?=some (dotQ (M.getD i []) v):=by
 unfold zcY
 rw [List.getElem?_map,List.getD_eq_getElem?_getD,List.getElem?_eq_getElem h]
 rfl
theorem times_sz {K K' k:Nat}{M:List (List Rat)}{v:List Rat}(z:zaD K M)(zv:zaq K' v)(hd:∀L ∈ M,L.length=k)(hv:v.length=k):zaq (1+k*(K+K'+1)) (zcY M v):=λx hx=>by
 obtain⟨L,hL,rfl⟩:=List.mem_map.1 hx
 exact dot_sz (hd L hL) hv (z L hL) zv
section
variable {K K':Nat}{w:World}
theorem mat_dots {n k q c:Nat}{Q A:oA9}{Ls:List (List Rat)}{xs:List Rat}(hT:zaj w)(h:zaz (zaM zah) w Q n Ls)(hd:∀L ∈ Ls,L.length=k)(hv:zaC w A k c xs)(z:zaD K Ls)(zx:zaq K' xs)(hn:n<=64:=by omega)(hk:k<=64:=by omega)(hK:K<=67108864:=by omega)(hK':K'<=67108864:=by omega)(hS:1+k*(K+K'+1)<=67108864:=by omega):
  Calls Tryz.prog 112 #[.slice Q n q,.slice A k c] w (zeg w n (zcY Ls xs)):=by
 have hl:=h.len
 have HR:=lh9 h
 have HV:=lh9 hv
 have HT:=lh9 (λw' (hb:Below w.heap.size w w')=>hT.on hb)
 have HZ:Hid (∀i,i<n->zaq K (Ls.getD i [])):=λi hi=>z.row (by omega)
 have HD:Hid (∀i,i<n->(Ls.getD i []).length=k):=λi hi=>hd _ (List.mem_of_getElem? (zbF (by omega)))
 have HX:=lh9 zx
 have HLZ:Hid ((zcY Ls xs).length=n):=by show _=_;rw [zjd];exact hl
 have HG:Hid (∀i,i<n->(zcY Ls xs)[i]?=some (dotQ (Ls.getD i []) xs)):=λi hi=>zjc (by omega)
 have HSS:=lh9 hS
 obtain⟨ys,hys⟩:∃ys,zcY Ls xs=ys:=⟨_,rfl⟩
 rw [hys] at HLZ HG⊢
 obtain⟨Z,hZ⟩:=zdN n (by omega)
 have hmk:=λW=>(hZ W).1
 have HOWN:=lh9 (λW=>(hZ W).2)
 clear hT h hd hv z zx hl hys hZ hS
 unfold zeg
 have i0:(0:Int)<=(n:Int):=by omega
 go_enter Tryz.func112,Tryz.ntmps112
 go_wp2_with fail
 clear hmk
 have hrow:=HOWN.out w
 have hB:Below w.heap.size w (w.alloc (.cells Z 53)):=(Below.refl _ w).alloc (Nat.le_refl _) _
 obtain⟨gp,hgp⟩:∃g,w.heap.size=g:=⟨_,rfl⟩
 have hwg:w.heap.size<=gp:=by omega
 rw [hgp] at hrow⊢
 rw [<-zbE 0 ys n] at hrow
 generalize w.alloc (.cells Z 53)=W1 at*
 clear hgp HOWN
 go_loopg [13] (n+1) (λg ix wr=>∃(k:Nat),k<=n/\n<g+k/\ix=.int .i64 k/\zbK wr gp n (zcl 0 ys n k)/\Below w.heap.size w wr)
 case atStart=>exact⟨0,Nat.zero_le _,by omega,rfl,hrow,hB⟩
 case round=>
  clear hrow hB
  obtain⟨i,hkn,hg,rfl,hrow,hB⟩:=hrel
  by_cases hlt:i<n
  ·obtain⟨ad,B,d,rfl,-,hc,hvi⟩:=HR.out.get (zam zaf) hB hlt (HD.out i hlt)
   have hd1:decide ((i:Int)<(n:Int))=true:=decide_eq_true (by omega)
   have i1:(0:Int)<=(i:Int):=by omega
   have i2:(i:Int)<(n:Int):=by omega
   have HROW:=lh9 hrow
   have HVI:=lh9 hvi
   have HB1:=lh9 hB
   clear hvi hrow hB
   go_wp2_with fail
   (with_reducible refine(vec_dot (HT.out _ HB1.out) HVI.out (HV.out.keep HB1.out) (HZ.out i hlt) HX.out (by omega) hK hK' HSS.out).mono ?_)
   rintro e w3 ⟨b3,A3,n3,c3,E3,k3,f3,rfl,hw3,hb⟩
   clear hc
   have hr3:=HROW.out.keep hb
   have hr4:=zbf.set_ zaf hr3 hlt hw3
   rw [zbW 0 ys n i HLZ.out hlt _ (HG.out i hlt)] at hr4
   obtain⟨q0,q1,q2,sc0,sf0,sc1,sf1,sc2,sf2⟩:=hr3.ready hlt (.bool b3) (.slice A3 n3 c3)
   have HR4:=lh9 hr4
   have HB4:=lh9 (zbB (i*3) (i*3+1) (i*3+2) (.bool b3) (.slice A3 n3 c3) (.slice E3 k3 f3) hwg (zaa HB1.out hb))
   clear hr3 hr4 hb hw3 HROW HB1 HVI
   go_wp2
   go_roundg (n - i)
   case measure=>omega
   case rel=>exact⟨i+1,by omega,by omega,by go_num,HR4.out,HB4.out⟩
  ·have hk9:i=n:=by omega
   subst hk9
   have hd1:decide ((i:Int)<(i:Int))=false:=by simp
   have HR5:=lh9 (zbV 0 ys i HLZ.out▸hrow)
   have HB1:=lh9 hB
   clear hrow hB
   go_wp2
   go_ret
   exact⟨gp,rfl,hwg,HR5.out,HB1.out⟩
variable {A:oA9}{n c m:Nat}{MM:List (List Rat)}
def zfE (w:World)(n:Nat)(Ls:List (List Rat))(e:Ending)(w':World):Prop:=∃g,e=.returned (.slice (some ⟨g,0,none⟩) n n)/\w.heap.size<=g/\zaZ (zaM zah) w' 71 g n Ls/\Below w.heap.size w w'
variable {V:oA9}{k cv:Nat}{xs:List Rat}
theorem zhi (hT:zaj w)(h:zaW w A n c m MM)(hv:zaC w V m cv xs)(z:zaD K MM)(zx:zaq K' xs)(hK:K<=67108864:=by omega)(hK':K'<=67108864:=by omega)(hS:1+m*(K+K'+1)<=67108864:=by omega):
  Calls Tryz.prog 48 #[.agg #[.slice A n c,.int .i64 (m:Int)],.slice V m cv] w (zcU w n (zcY MM xs)):=by
 have e0:((m:Int) !=(m:Int))=false:=by simp
 obtain⟨bx1,bx2,bz⟩:=zaw w 32 #[.slice A n c,.int .i64 (m:Int)]
 obtain⟨g0,g1⟩:=bx2.c2
 have HD:=lh9 (mat_dots (q:=c) (hT.on bx1) (h.keep bx1).rows h.dims.cols (hv.keep bx1) z zx h.hn h.hm hK hK' hS)
 have HB:=lh9 bx1
 clear h bx1 bx2 bz hT hv z zx
 unfold zcU
 go_enter Tryz.func48,Tryz.ntmps48
 go_wp2_with fail
 refine HD.out.mono ?_
 rintro e w5 ⟨g5,rfl,hg5,ho5,hb⟩
 have HG:=lh9 (And.intro (Nat.le_trans HB.out.size hg5) (And.intro ho5 (zaa HB.out hb)))
 clear g0 g1 hg5 ho5 hb
 go_wp2
 go_ret2
 exact⟨g5,rfl,HG.out⟩
end
theorem zjL {r:Int}{n:Nat}{b:Bool}(e:inB r n=b)(A:oA9)(c:Nat)(z:Int)(w:World):Calls Tryz.prog 95 #[.agg #[.slice A n c,.int .i64 z],.int .i64 r] w (λe w'=>e=.returned (.bool b)/\Below w.heap.size w w'):=e▸znj A n c z r w
theorem zoT {r:Int}{m:Nat}{b:Bool}(e:inB r m=b)(A:oA9)(n c:Nat)(w:World):Calls Tryz.prog 105 #[.agg #[.slice A n c,.int .i64 (m:Int)],.int .i64 r] w (λe w'=>e=.returned (.bool b)/\Below w.heap.size w w'):=e▸zni A n c m r w
section
variable {A:oA9}{n c m K:Nat}{MM:List (List Rat)}{w:World}
theorem mat_at {i j:Nat}(hT:zaj w)(h:zaW w A n c m MM)(z:zaD K MM)(hi:i<n)(hj:j<m)(hK:K+2<=67108864:=by omega):
  Calls Tryz.prog 43 #[.agg #[.slice A n c,.int .i64 (m:Int)],.int .i64 (i:Int),.int .i64 (j:Int)] w (zaI w (atM MM i j)):=by
 have HR:=λW=>lh9 (zjL (zkD hi) A c (m:Int) W)
 have HC:=λW=>lh9 (zoT (zkD hj) A n c W)
 obtain⟨bx1,bx2,bx3,bz⟩:=zbC w 32 53 #[.slice A n c,.int .i64 (m:Int)] #[.bool false,.slice none 0 0,.slice none 0 0]
 obtain⟨g0,g1⟩:=bx2.c2
 have HM:=lh9 h
 have HS:=lh9 (z.at_ h.dims hi hj)
 have HT:=lh9 (λw' (hb:Below w.heap.size w w')=>hT.on hb)
 have HB:=lh9 bx1
 have HK1:=lh9 bx2
 have HK2:=lh9 bx3
 clear hT h z bx1 bx2 bx3 bz
 go_enter Tryz.func43,Tryz.ntmps43
 go_wp2_with fail
 refine(HR _).out.mono ?_
 rintro e w1 ⟨rfl,hb⟩
 have HB1:=lh9 (zaa HB.out hb)
 have HK3:=lh9 (zab hb HK1.out)
 have HK4:=lh9 (zab hb HK2.out)
 obtain⟨g0,g1⟩:=HK3.out.c2
 clear hb HB HK1 HK2
 go_wp2_with fail
 refine(HC _).out.mono ?_
 rintro e w2 ⟨rfl,hb⟩
 have HB2:=lh9 (zaa HB1.out hb)
 have HK5:=lh9 (zab hb HK3.out)
 have HK6:=lh9 (zab hb HK4.out)
 obtain⟨g0,g1⟩:=HK5.out.c2
 clear hb HB1 HK3 HK4
 obtain⟨ad,B,d,rfl,-,hc,ae,b3,A3,n3,c3,E3,k3,f3,rfl,-,h0,h1,h2,hw3⟩:=HM.out.place HB2.out hi hj
 have i1:(0:Int)<=(i:Int):=by omega
 have i2:(i:Int)<(n:Int):=by omega
 have i3:(0:Int)<=(j:Int):=by omega
 have i4:(j:Int)<(m:Int):=by omega
 obtain⟨t1,t2,-⟩:=zaw w2 53 #[.bool b3,.slice A3 n3 c3,.slice E3 k3 f3]
 have HL:=lh9 (zms t2 (hw3.below t1))
 have HB3:=lh9 (zaa HB2.out t1)
 have HK7:=lh9 (zab t1 HK6.out)
 have HSA:Hid (zaq K [atM MM i j]):=λy hy=>by rw [List.mem_singleton.1 hy];exact HS.out
 clear hw3 t1 t2 HK5 HK6 HB2
 go_wp2_with fail
 (with_reducible refine(q_sum (HT.out _ HB3.out) HL.out HSA.out (by decide) (by omega)).mono ?_)
 rintro e w5 ⟨b5,A5,n5,c5,E5,k5,f5,rfl,hw5,hb⟩
 have hw5:zah w5 (atM MM i j) b5 A5 n5 c5 E5 k5 f5:=by
  have e:zdB [atM MM i j]=atM MM i j:=by rw [zgo,zkd,Rat.add_zero]
  rw [e] at hw5
  exact hw5
 have hk5:=zab hb HK7.out
 obtain⟨sc0,sf0,sc1,sf1,sc2,sf2⟩:=st3 hk5 (.bool b5) (.slice A5 n5 c5)
 obtain⟨r0,r1,r2⟩:=(sn3 hk5 (.bool b5) (.slice A5 n5 c5) (.slice E5 k5 f5)).c3
 have HG:=lh9 (gq3 hw5 hk5 (zaa HB3.out hb) (by omega))
 clear hb hk5 hw5 HK7 HB3 HL g0 g1 hc h0 h1 h2
 go_wp2
 refine bodyPost_ret (v:=.agg #[.bool b5,.slice A5 n5 c5,.slice E5 k5 f5]) (by simp [results,Tryz.results43,go_sem,r0,r1,r2]) rfl ?_
 exact HG.out
theorem mat_row {i:Nat}(hT:zaj w)(h:zaW w A n c m MM)(z:zaD K MM)(hi:i<n)(hK:K+2<=67108864:=by omega):
  Calls Tryz.prog 32 #[.agg #[.slice A n c,.int .i64 (m:Int)],.int .i64 (i:Int)] w (zcU w m (MM.getD i [])):=by
 have hm:=h.hm
 obtain⟨bx1,bx2,bz⟩:=zaw w 32 #[.slice A n c,.int .i64 (m:Int)]
 obtain⟨g0,g1⟩:=bx2.c2
 have HR:=λW=>lh9 (zjL (zkD hi) A c (m:Int) W)
 have HM:=lh9 h
 have HT:=lh9 (λw' (hb:Below w.heap.size w w')=>hT.on hb)
 have HS:=lh9 (z.row (i:=i) (by rw [h.dims.rows];exact hi))
 have HB:=lh9 bx1
 have HK:=lh9 bx2
 clear hT h z bx1 bx2 bz
 unfold zcU
 go_enter Tryz.func32,Tryz.ntmps32
 go_wp2_with fail
 refine(HR _).out.mono ?_
 rintro e w1 ⟨rfl,hb⟩
 have HB1:=lh9 (zaa HB.out hb)
 obtain⟨g0,g1⟩:=(zab hb HK.out).c2
 obtain⟨ad,B,d,rfl,-,hc,hv⟩:=HM.out.row HB1.out hi
 have i1:(0:Int)<=(i:Int):=by omega
 have i2:(i:Int)<(n:Int):=by omega
 have HV:=lh9 hv
 clear hb HB HK hv
 go_wp2_with fail
 (with_reducible refine(zmr (HT.out _ HB1.out) HV.out HS.out).mono ?_)
 rintro e w5 ⟨g5,rfl,hg5,ho5,hb⟩
 have HG:=lh9 (And.intro (Nat.le_trans HB1.out.size hg5) (And.intro ho5 (zaa HB1.out hb)))
 clear g0 g1 hg5 ho5 hb hc
 go_wp2
 go_ret2
 exact⟨g5,rfl,HG.out⟩
end
section
variable {A A':oA9}{n n' c c' m m' K K' q q':Nat}{MM NN:List (List Rat)}{w:World}
theorem en_vsame:∀(args:Array Value) (w':World),Sem.run Tryz.prog (callFunc 50 args) w'=.ok (.enter 50 args) w':=Go.Proofs.enters_of Tryz.func50 (by kernel_rfl) rfl
theorem same_len {α:Type}{xs ys:List α}{n n':Nat}(hx:xs.length=n)(hy:ys.length=n')(h:n≠n'):xs≠ys:=λe=>h (by rw [<-hx,<-hy,e])
theorem same_at {xs ys:List (List Rat)}{n k:Nat}(hx:xs.length=n)(hy:ys.length=n)(hk:k<n)(h:xs.getD k []≠ys.getD k []):xs≠ys:=λe=>h (by rw [e])
theorem same_all {xs ys:List (List Rat)}{n:Nat}(hx:xs.length=n)(hy:ys.length=n)(h:∀k,k<n->xs.getD k []=ys.getD k []):xs=ys:=by
 apply List.ext_getElem
 ·omega
 ·intro i h1 h2
  have:=h i (by omega)
  rw [List.getD_eq_getElem?_getD,List.getD_eq_getElem?_getD,List.getElem?_eq_getElem h1,List.getElem?_eq_getElem h2] at this
  exact this
theorem zmT {t:Bool}(e:decide (MM=NN)=t)(hT:zaj w)(h:zaz (zaM zah) w A n MM)(h':zaz (zaM zah) w A' n' NN)(z:zaD K MM)(z':zaD K' NN)(hr:∀L ∈ MM,L.length<=64)(hr':∀L ∈ NN,L.length<=64)(hn:n<=64)(hK:K<=67108864)(hK':K'<=67108864):
  Calls Tryz.prog 110 #[.slice A n q,.slice A' n' q',.func (.func 50) #[] #[]] w (λe w'=>e=.returned (.bool t)/\Below w.heap.size w w'):=by
 have hl:=h.len
 have hl':=h'.len
 have hEn:=en_vsame
 by_cases hq:n=n'
 ·subst hq
  have HA:=lh9 h
  have HA':=lh9 h'
  have HT:=lh9 (λw' (hb:Below w.heap.size w w')=>hT.on hb)
  have HS:Hid (∀i,i<n->zaq K (MM.getD i [])):=λi hi=>z.row (by omega)
  have HS':Hid (∀i,i<n->zaq K' (NN.getD i [])):=λi hi=>z'.row (by omega)
  have HR:Hid (∀i,i<n->(MM.getD i []).length<=64):=λi hi=>hr _ (List.mem_of_getElem? (zbF (by omega)))
  have HR':Hid (∀i,i<n->(NN.getD i []).length<=64):=λi hi=>hr' _ (List.mem_of_getElem? (zbF (by omega)))
  have HNE:Hid (∀k,k<n->MM.getD k []≠NN.getD k []->false=t):=λk hk hne=>by
   rw [<-e];exact(decide_eq_false (same_at hl hl' hk hne)).symm
  have HEQ:Hid ((∀k,k<n->MM.getD k []=NN.getD k [])->true=t):=λha=>by
   rw [<-e];exact(decide_eq_true (same_all hl hl' ha)).symm
  have hB:=Below.refl w.heap.size w
  have e0:((n:Int) !=(n:Int))=false:=by simp
  have i0:(0:Int)<=(n:Int):=by omega
  clear h h' hT z z' hr hr' e hl hl'
  go_enter Tryz.func110,Tryz.ntmps110
  go_wp2_with fail
  go_loopg [17] (n+1) (λg ix wr=>∃(k:Nat),k<=n/\n<g+k/\ix=.int .i64 k/\Hid (∀i,i<k->MM.getD i []=NN.getD i [])/\Below w.heap.size w wr)
  case atStart=>exact⟨0,Nat.zero_le _,by omega,rfl,λi hi=>by omega,hB⟩
  case round=>
   clear hB
   obtain⟨k,hkn,hg,rfl,hz0,hB⟩:=hrel
   by_cases hlt:k<n
   ·obtain⟨ad,B,d,rfl,-,hc,hv⟩:=HA.out.get (zam zaf) hB hlt rfl
    obtain⟨ad',B',d',rfl,-,hc',hv'⟩:=HA'.out.get (zam zaf) hB hlt rfl
    have hd1:decide ((k:Int)<(n:Int))=true:=decide_eq_true (by omega)
    have i1:(0:Int)<=(k:Int):=by omega
    have i2:(k:Int)<(n:Int):=by omega
    have h5:=HR.out k hlt
    have h6:=HR'.out k hlt
    have HNK:=lh9 (HNE.out k hlt)
    have HSK:=lh9 (HS.out k hlt)
    have HSK':=lh9 (HS'.out k hlt)
    have HZ1:Hid (MM.getD k []=NN.getD k []->∀i,i<k+1->MM.getD i []=NN.getD i []):=λhh i hi=>by
     by_cases e:i=k
     ·rw [e];exact hh
     ·exact hz0.out i (by omega)
    obtain⟨X,hX⟩:∃X,MM.getD k []=X:=⟨_,rfl⟩
    obtain⟨Y,hY⟩:∃Y,NN.getD k []=Y:=⟨_,rfl⟩
    rw [hX] at hc hv h5 HNK HSK HZ1
    rw [hY] at hc' hv' h6 HNK HSK' HZ1
    obtain⟨lx,hlx⟩:∃l,X.length=l:=⟨_,rfl⟩
    obtain⟨ly,hly⟩:∃l,Y.length=l:=⟨_,rfl⟩
    rw [hlx] at hc hv h5
    rw [hly] at hc' hv' h6
    have HV:=lh9 hv
    have HV':=lh9 hv'
    have HB1:=lh9 hB
    clear hX hY hv hv' hlx hly hB
    by_cases h0:X=Y
    ·have HQ:=lh9 (decide_eq_true h0)
     have HZ2:=lh9 (HZ1.out h0)
     clear h0
     go_wp2_with fail
     (with_reducible refine(zdj HQ.out (HT.out _ HB1.out) HV.out HV'.out HSK.out HSK'.out (by omega) (by omega) hK hK').mono ?_)
     rintro e w3 ⟨rfl,hb⟩
     have HB2:=lh9 (zaa HB1.out hb)
     clear hb hc hc' HV HV' HB1
     go_wp2
     go_roundg (n - k)
     case measure=>omega
     case rel=>exact⟨k+1,by omega,by omega,by go_num,HZ2,HB2.out⟩
    ·have HQ:=lh9 (decide_eq_false h0)
     have HF:=lh9 (HNK.out h0)
     clear h0
     go_wp2_with fail
     (with_reducible refine(zdj HQ.out (HT.out _ HB1.out) HV.out HV'.out HSK.out HSK'.out (by omega) (by omega) hK hK').mono ?_)
     rintro e w3 ⟨rfl,hb⟩
     have HB2:=lh9 (zaa HB1.out hb)
     clear hb hc hc' HV HV' HB1
     go_wp2
     go_ret
     exact⟨by rw [<-HF.out];rfl,HB2.out⟩
   ·have hk:k=n:=by omega
    subst hk
    have hd1:decide ((k:Int)<(k:Int))=false:=by simp
    have HF:=lh9 (HEQ.out hz0.out)
    have HB2:=lh9 hB
    clear hB
    go_wp2
    go_ret
    exact⟨by rw [<-HF.out];rfl,HB2.out⟩
 ·have e0:((n:Int) !=(n':Int))=true:=by rw [bne_iff_ne];omega
  have HF:Hid (false=t):=by rw [<-e];exact(decide_eq_false (same_len hl hl' hq)).symm
  clear h h' hT z z' hr hr' e hl hl' hq
  go_enter Tryz.func110,Tryz.ntmps110
  go_wp2
  go_ret
  exact⟨by rw [<-HF.out];rfl,Below.refl _ _⟩
theorem mat_same {t:Bool}(e:decide (m=m'/\MM=NN)=t)(hT:zaj w)(h:zaW w A n c m MM)(h':zaW w A' n' c' m' NN)(z:zaD K MM)(z':zaD K' NN)(hK:K<=67108864:=by omega)(hK':K'<=67108864:=by omega):
  Calls Tryz.prog 46 #[.agg #[.slice A n c,.int .i64 (m:Int)],.agg #[.slice A' n' c',.int .i64 (m':Int)]] w (λe w'=>e=.returned (.bool t)/\Below w.heap.size w w'):=by
 obtain⟨bx1,bx2,bx3,bz⟩:=zbC w 32 32 #[.slice A n c,.int .i64 (m:Int)] #[.slice A' n' c',.int .i64 (m':Int)]
 obtain⟨g0,g1⟩:=bx2.c2
 obtain⟨p0,p1⟩:=bx3.c2
 by_cases hq:m=m'
 ·have e0:((m:Int)==(m':Int))=true:=by rw [beq_iff_eq];omega
  have e1:decide (MM=NN)=t:=by
   rw [<-e]
   by_cases hx:MM=NN
   ·rw [decide_eq_true hx,decide_eq_true ⟨hq,hx⟩]
   ·rw [decide_eq_false hx,decide_eq_false (λy=>hx y.2)]
  have hx:=h.hm
  have hy:=h'.hm
  have H:=lh9 (zmT (q:=c) (q':=c') e1 (hT.on bx1) (h.keep bx1).rows (h'.keep bx1).rows z z' (λL hL=>by rw [h.dims.cols L hL];exact hx) (λL hL=>by rw [h'.dims.cols L hL];exact hy) h.hn hK hK')
  have HB:=lh9 bx1
  clear h h' hT z z' bx1 bx2 bx3 bz e e1 hq
  go_enter Tryz.func46,Tryz.ntmps46
  go_wp2_with fail
  refine H.out.mono ?_
  rintro e w1 ⟨rfl,hb⟩
  have HB2:=lh9 (zaa HB.out hb)
  clear hb g0 g1 p0 p1
  go_wp2
  go_ret
  exact⟨rfl,HB2.out⟩
 ·have e0:((m:Int)==(m':Int))=false:=by rw [beq_eq_false_iff_ne];omega
  have HF:Hid (false=t):=by rw [<-e];exact(decide_eq_false (λy=>hq y.1)).symm
  have HB:=lh9 bx1
  clear h h' hT z z' bx1 bx2 bx3 bz e hq
  go_enter Tryz.func46,Tryz.ntmps46
  go_wp2
  go_ret
  exact⟨by rw [<-HF.out];rfl,HB.out⟩
end
section
variable {w:World}{g:Nat}{st:ESt}{rd:Rat}{A:oA9}{n cA:Nat}{B:oA9}{k cB:Nat}{x0 x1 x2 y0 y1 y2:Value}
theorem ElS.cells (h:ElS w g st rd A n cA B k cB x0 x1 x2 y0 y1 y2):w.cell? ⟨g,0,none⟩=some (.slice A n cA)/\w.cell? ⟨g,1,none⟩=some (.slice B k cB)/\w.cell? ⟨g,2,none⟩=some x0/\w.cell? ⟨g,3,none⟩=some x1/\w.cell? ⟨g,4,none⟩=some x2/\w.cell? ⟨g,5,none⟩=some y0/\w.cell? ⟨g,6,none⟩=some y1/\w.cell? ⟨g,7,none⟩=some y2:=
 ⟨h.blk.cell 0,h.blk.cell 1,h.blk.cell 2,h.blk.cell 3,h.blk.cell 4,h.blk.cell 5,h.blk.cell 6,h.blk.cell 7⟩
theorem zky {K m dr dy c:Nat}{R Y:oA9}{row by_:List Rat}(hT:zaj w)(hE:ElS w g st rd A n cA B k cB x0 x1 x2 y0 y1 y2)(hr:zaC w R m dr row)(hy:zaC w Y m dy by_)(hc:c<m)(zr:zaq K row)(zy:zaq K by_)(zp:SzQ K st.p)(hp:st.p≠0)(hm:m<=1073741824:=by omega)(hK:4*K+1<=33554432:=by omega):
  Calls Tryz.prog 178 #[.pointer (some ⟨g,0,none⟩),.slice R m dr,.slice Y m dy,.int .i64 (c:Int)] w (zeg w m (zdc st.p row by_ c)):=by
 obtain⟨b0,A0,n0,c0,E0,k0,f0,rfl,rfl,rfl,hpr⟩:=hE.lead
 have HP:=lh9 (λw' (hb:Below w.heap.size w w')=>hpr.below hb)
 have HC:=lh9 (λw' (hb:Below w.heap.size w w')=>(hE.below hb).cells)
 have HT:=lh9 (λw' (hb:Below w.heap.size w w')=>hT.on hb)
 have HR:=lh9 (λw' (hb:Below w.heap.size w w')=>hr.keep hb)
 have HY:=lh9 (λw' (hb:Below w.heap.size w w')=>hy.keep hb)
 have HS1:=lh9 (zy.at_ (k:=c) (by rw [hy.len];exact hc))
 have HS2:=lh9 (zr.at_ (k:=c) (by rw [hr.len];exact hc))
 have HZR:=lh9 zr
 have HZY:=lh9 zy
 have HZP:=lh9 zp
 have HNP:=lh9 hp
 obtain⟨ady,b1,B1,m1,d1,E1,u1,v1,rfl,-,h0,h1,h2,hyx⟩:=hy.get (Below.refl _ _) hc
 obtain⟨adr,b2,B2,m2,d2,E2,u2,v2,rfl,-,h3,h4,h5,hrx⟩:=hr.get (Below.refl _ _) hc
 have HX1:=lh9 (λw' (hb:Below w.heap.size w w')=>hyx.below hb)
 have HX2:=lh9 (λw' (hb:Below w.heap.size w w')=>hrx.below hb)
 have i1:(0:Int)<=(c:Int):=by omega
 have i2:(c:Int)<(m:Int):=by omega
 have i3:c<m:=hc
 have HQ:Hid (zdc st.p row by_ c=zaH st.p⁻¹ (zht (zaH (by_.getD c 0) row) (-row.getD c 0) by_)):=rfl
 rw [HQ.out]
 generalize by_.getD c 0=yc at*
 generalize row.getD c 0=rc9 at*
 unfold zeg
 clear hT hE hr hy zr zy zp hp hpr hyx hrx hc HQ
 go_enter Tryz.func178,Tryz.ntmps178
 go_wp2_with fail
 have HB:=lh9 ((Below.refl w.heap.size w).drew)
 refine rg (csc h0 (csc h1 (csc h2 (csc h3 (csc h4 (csc h5 csn)))))) (λhHeld=>?_)
 clear h0 h1 h2 h3 h4 h5
 generalize w.drew=D at*
 refine tk 0 ?_
 refine tk 1 ?_
 refine tk 2 ?_
 refine tk 3 ?_
 refine tk 4 ?_
 refine tk 6 ?_
 refine tk 7 ?_
 refine tk 8 ?_
 refine tk 9 ?_
 refine tk 11 ?_
 refine rc 5 (λKK hK9=>?_)
 go_simp
 (with_reducible refine(zbu (HT.out _ HB.out) (HX1.out _ HB.out) (HR.out _ HB.out) HS1.out HZR.out).mono ?_)
 rintro eo w1 ⟨g1,rfl,hg1,ho1,hb⟩
 refine hK9.out _ _ (Cs.below hHeld hb) (λhHeld=>?_)
 clear hK9 KK
 have HB:=lh9 (zaa HB.out hb)
 have HO1:=lh9 (zaE ho1)
 clear hb ho1 hg1
 refine rc 10 (λKK hK9=>?_)
 go_simp
 (with_reducible refine(zkY rc9 b2 B2 m2 d2 E2 u2 v2 _ (HT.out _ HB.out) (HX2.out _ HB.out) (HS2.out.fit (HX2.out _ HB.out) (by omega))).mono ?_)
 rintro eo w2 ⟨b3,A3,n3,c3,E3,k3,f3,rfl,hw3,hb⟩
 refine hK9.out _ _ (Cs.below hHeld hb) (λhHeld=>?_)
 clear hK9 KK
 have HB:=lh9 (zaa HB.out hb)
 have HO1:=lh9 (HO1.out.keep hb)
 have HN:=lh9 hw3
 clear hb hw3
 refine rc 12 (λKK hK9=>?_)
 go_simp
 (with_reducible refine(vec_addt (HT.out _ HB.out) HO1.out HN.out (HY.out _ HB.out) (zaq.scale HS1.out HZR.out) HS2.out.neg HZY.out).mono ?_)
 rintro eo w3 ⟨g4,rfl,hg4,ho4,hb⟩
 refine hK9.out _ _ (Cs.below hHeld hb) (λhHeld=>?_)
 clear hK9 KK
 have HB:=lh9 (zaa HB.out hb)
 have HO4:=lh9 (zaE ho4)
 have HZ4:Hid (zaq ((K+K)+(K+K)+1) (zht (zaH yc row) (-rc9) by_)):=zaq.addT (zaq.scale HS1.out HZR.out) HS2.out.neg HZY.out
 clear hb ho4 hg4 HO1 HN
 refine tk 13 ?_
 refine tk 14 ?_
 refine tk 15 ?_
 refine tk 16 ?_
 refine tk 17 ?_
 refine rdn ?_
 clear hHeld
 obtain⟨-,-,p2,p3,p4,-⟩:=HC.out _ HB.out
 go_wp2_with fail
 clear p2 p3 p4
 (with_reducible refine(zhZ st.p b0 A0 n0 c0 E0 k0 f0 _ (HT.out _ HB.out) (HP.out _ HB.out) (HZP.out.fit (HP.out _ HB.out) (by omega)) HNP.out).mono ?_)
 rintro eo w5 ⟨b5,A5,n5,c5,E5,k5,f5,rfl,hw5,hb⟩
 have HB:=lh9 (zaa HB.out hb)
 have HO4:=lh9 (HO4.out.keep hb)
 obtain⟨bx1,bx2,-⟩:=zaw w5 53 #[.bool b5,.slice A5 n5 c5,.slice E5 k5 f5]
 obtain⟨p0,p1,p2⟩:=bx2.c3
 have HI:=lh9 (hw5.below bx1)
 have HB:=lh9 (zaa HB.out bx1)
 have HO4:=lh9 (HO4.out.keep bx1)
 clear hb hw5 bx1 bx2
 go_wp2_with fail
 clear p0 p1 p2
 generalize w5.alloc (.cells #[.bool b5,.slice A5 n5 c5,.slice E5 k5 f5] 53)=W6 at*
 (with_reducible refine(zbu (HT.out _ HB.out) HI.out HO4.out HZP.out.inv HZ4.out).mono ?_)
 rintro eo w7 ⟨g7,rfl,hg7,ho7,hb⟩
 have HB2:=lh9 (zaa HB.out hb)
 have HG7:w.heap.size<=g7:=Nat.le_trans HB.out.size hg7
 have HO7:=lh9 ho7
 clear hb ho7 hg7 HB HO4 HI
 go_wp2
 go_ret
 exact⟨g7,rfl,HG7,HO7.out,HB2.out⟩
end
