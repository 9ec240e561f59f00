/- What this claim leans on. -/
import Derived.Test.YtghpdeciaaagnaaGreatDoorIMMade
import Derived.Test.YtghpdeciaaagnaaGreatDoorIENext
namespace Go.Proofs.YtghpdeciaaagnaaGreatDoor
open Go Go.RowKit
set_option maxHeartbeats 16000000
set_option maxRecDepth 100000
set_option linter.unusedVariables false
set_option linter.unusedSimpArgs false
theorem zkM {r:Int}{n:Nat}{b:Bool}(e:inB r n=b)(A:oA9)(c:Nat)(z:Int)(w:World):Calls Tryz.prog 84 #[.agg #[.slice A n c,.int .i64 z],.int .i64 r] w (λe w'=>e=.returned (.bool b)/\Below w.heap.size w w'):=e▸zoB A n c z r w
theorem zqv {r:Int}{m:Nat}{b:Bool}(e:inB r m=b)(A:oA9)(n c:Nat)(w:World):Calls Tryz.prog 121 #[.agg #[.slice A n c,.int .i64 (m:Int)],.int .i64 r] w (λe w'=>e=.returned (.bool b)/\Below w.heap.size w w'):=e▸zoA A n c m r w
section
variable {A:oA9}{n c m K:Nat}{MM:List (List Rat)}{w:World}
theorem mat_at {i j:Nat}(hT:zai w)(h:zaR w A n c m MM)(z:zax K MM)(hi:i<n)(hj:j<m)(hK:K+2<=67108864:=by omega):
  Calls Tryz.prog 52 #[.agg #[.slice A n c,.int .i64 (m:Int)],.int .i64 (i:Int),.int .i64 (j:Int)] w (zaH w (atM MM i j)):=by
 have HR:=λW=>lh9 (zkM (zlK hi) A c (m:Int) W)
 have HC:=λW=>lh9 (zqv (zlK hj) A n c W)
 obtain⟨bx1,bx2,bx3,bz⟩:=zbI w 28 41 #[.slice A n c,.int .i64 (m:Int)] #[.bool false,.slice none 0 0,.slice none 0 0]
 obtain⟨g0,g1⟩:=bx2.c2
 have HM:=lh9 h
 have HS:=lh9 (z.at_ h.dims hi hj)
 have HT:=lh9 (λw' (hb:Below w.heap.size w w')=>hT.on hb)
 have HB:=lh9 bx1
 have HK1:=lh9 bx2
 have HK2:=lh9 bx3
 clear hT h z bx1 bx2 bx3 bz
 go_enter Tryz.func52,Tryz.ntmps52
 go_wp2_with fail
 refine(HR _).out.mono ?_
 rintro e w1 ⟨rfl,hb⟩
 have HB1:=lh9 (zab HB.out hb)
 have HK3:=lh9 (zaa hb HK1.out)
 have HK4:=lh9 (zaa hb HK2.out)
 obtain⟨g0,g1⟩:=HK3.out.c2
 clear hb HB HK1 HK2
 go_wp2_with fail
 refine(HC _).out.mono ?_
 rintro e w2 ⟨rfl,hb⟩
 have HB2:=lh9 (zab HB1.out hb)
 have HK5:=lh9 (zaa hb HK3.out)
 have HK6:=lh9 (zaa hb HK4.out)
 obtain⟨g0,g1⟩:=HK5.out.c2
 clear hb HB1 HK3 HK4
 obtain⟨ad,B,d,rfl,-,hc,ae,b3,A3,n3,c3,E3,k3,f3,rfl,-,h0,h1,h2,hw3⟩:=HM.out.place HB2.out hi hj
 have i1:(0:Int)<=(i:Int):=by omega
 have i2:(i:Int)<(n:Int):=by omega
 have i3:(0:Int)<=(j:Int):=by omega
 have i4:(j:Int)<(m:Int):=by omega
 obtain⟨t1,t2,-⟩:=zav w2 41 #[.bool b3,.slice A3 n3 c3,.slice E3 k3 f3]
 have HL:=lh9 (znD t2 (hw3.below t1))
 have HB3:=lh9 (zab HB2.out t1)
 have HK7:=lh9 (zaa t1 HK6.out)
 have HSA:Hid (zau K [atM MM i j]):=λy hy=>by rw [List.mem_singleton.1 hy];exact HS.out
 clear hw3 t1 t2 HK5 HK6 HB2
 go_wp2_with fail
 (with_reducible refine(q_sum (HT.out _ HB3.out) HL.out HSA.out (by decide) (by omega)).mono ?_)
 rintro e w5 ⟨b5,A5,n5,c5,E5,k5,f5,rfl,hw5,hb⟩
 have hw5:zah w5 (atM MM i j) b5 A5 n5 c5 E5 k5 f5:=by
  have e:zdG [atM MM i j]=atM MM i j:=by rw [zfh,zlj,Rat.add_zero]
  rw [e] at hw5
  exact hw5
 have hk5:=zaa hb HK7.out
 obtain⟨sc0,sf0,sc1,sf1,sc2,sf2⟩:=st3 hk5 (.bool b5) (.slice A5 n5 c5)
 obtain⟨r0,r1,r2⟩:=(sn3 hk5 (.bool b5) (.slice A5 n5 c5) (.slice E5 k5 f5)).c3
 have HG:=lh9 (gq3 hw5 hk5 (zab HB3.out hb) (by omega))
 clear hb hk5 hw5 HK7 HB3 HL g0 g1 hc h0 h1 h2
 go_wp2
 refine bodyPost_ret (v:=.agg #[.bool b5,.slice A5 n5 c5,.slice E5 k5 f5]) (by simp [results,Tryz.results52,go_sem,r0,r1,r2]) rfl ?_
 exact HG.out
theorem zpx {i:Nat}(hT:zai w)(h:zaR w A n c m MM)(z:zax K MM)(hi:i<n)(hK:K+2<=67108864:=by omega):
  Calls Tryz.prog 25 #[.agg #[.slice A n c,.int .i64 (m:Int)],.int .i64 (i:Int)] w (zdP w m (MM.getD i [])):=by
 have hm:=h.hm
 obtain⟨bx1,bx2,bz⟩:=zav w 28 #[.slice A n c,.int .i64 (m:Int)]
 obtain⟨g0,g1⟩:=bx2.c2
 have HR:=λW=>lh9 (zkM (zlK hi) A c (m:Int) W)
 have HM:=lh9 h
 have HT:=lh9 (λw' (hb:Below w.heap.size w w')=>hT.on hb)
 have HS:=lh9 (z.row (i:=i) (by rw [h.dims.rows];exact hi))
 have HB:=lh9 bx1
 have HK:=lh9 bx2
 clear hT h z bx1 bx2 bz
 unfold zdP
 go_enter Tryz.func25,Tryz.ntmps25
 go_wp2_with fail
 refine(HR _).out.mono ?_
 rintro e w1 ⟨rfl,hb⟩
 have HB1:=lh9 (zab HB.out hb)
 obtain⟨g0,g1⟩:=(zaa hb HK.out).c2
 obtain⟨ad,B,d,rfl,-,hc,hv⟩:=HM.out.row HB1.out hi
 have i1:(0:Int)<=(i:Int):=by omega
 have i2:(i:Int)<(n:Int):=by omega
 have HV:=lh9 hv
 clear hb HB HK hv
 go_wp2_with fail
 (with_reducible refine(znC (HT.out _ HB1.out) HV.out HS.out).mono ?_)
 rintro e w5 ⟨g5,rfl,hg5,ho5,hb⟩
 have HG:=lh9 (And.intro (Nat.le_trans HB1.out.size hg5) (And.intro ho5 (zab HB1.out hb)))
 clear g0 g1 hg5 ho5 hb hc
 go_wp2
 go_ret2
 exact⟨g5,rfl,HG.out⟩
end
section
variable {A A':oA9}{n n' c c' m m' K K' q q':Nat}{MM NN:List (List Rat)}{w:World}
theorem en_vsame:∀(args:Array Value) (w':World),Sem.run Tryz.prog (callFunc 50 args) w'=.ok (.enter 50 args) w':=Go.Proofs.enters_of Tryz.func50 (by kernel_rfl) rfl
theorem same_len {α:Type}{xs ys:List α}{n n':Nat}(hx:xs.length=n)(hy:ys.length=n')(h:n≠n'):xs≠ys:=λe=>h (by rw [<-hx,<-hy,e])
theorem same_at {xs ys:List (List Rat)}{n k:Nat}(hx:xs.length=n)(hy:ys.length=n)(hk:k<n)(h:xs.getD k []≠ys.getD k []):xs≠ys:=λe=>h (by rw [e])
theorem same_all {xs ys:List (List Rat)}{n:Nat}(hx:xs.length=n)(hy:ys.length=n)(h:∀k,k<n->xs.getD k []=ys.getD k []):xs=ys:=by
 apply List.ext_getElem
 ·omega
 ·intro i h1 h2
  have:=h i (by omega)
  rw [List.getD_eq_getElem?_getD,List.getD_eq_getElem?_getD,List.getElem?_eq_getElem h1,List.getElem?_eq_getElem h2] at this
  exact this
theorem zoi {t:Bool}(e:decide (MM=NN)=t)(hT:zai w)(h:zaB (zaI zah) w A n MM)(h':zaB (zaI zah) w A' n' NN)(z:zax K MM)(z':zax K' NN)(hr:∀L ∈ MM,L.length<=64)(hr':∀L ∈ NN,L.length<=64)(hn:n<=64)(hK:K<=67108864)(hK':K'<=67108864):
  Calls Tryz.prog 98 #[.slice A n q,.slice A' n' q',.func (.func 50) #[] #[]] w (λe w'=>e=.returned (.bool t)/\Below w.heap.size w w'):=by
 have hl:=h.len
 have hl':=h'.len
 have hEn:=en_vsame
 by_cases hq:n=n'
 ·subst hq
  have HA:=lh9 h
  have HA':=lh9 h'
  have HT:=lh9 (λw' (hb:Below w.heap.size w w')=>hT.on hb)
  have HS:Hid (∀i,i<n->zau K (MM.getD i [])):=λi hi=>z.row (by omega)
  have HS':Hid (∀i,i<n->zau K' (NN.getD i [])):=λi hi=>z'.row (by omega)
  have HR:Hid (∀i,i<n->(MM.getD i []).length<=64):=λi hi=>hr _ (List.mem_of_getElem? (zbE (by omega)))
  have HR':Hid (∀i,i<n->(NN.getD i []).length<=64):=λi hi=>hr' _ (List.mem_of_getElem? (zbE (by omega)))
  have HNE:Hid (∀k,k<n->MM.getD k []≠NN.getD k []->false=t):=λk hk hne=>by
   rw [<-e];exact(decide_eq_false (same_at hl hl' hk hne)).symm
  have HEQ:Hid ((∀k,k<n->MM.getD k []=NN.getD k [])->true=t):=λha=>by
   rw [<-e];exact(decide_eq_true (same_all hl hl' ha)).symm
  have hB:=Below.refl w.heap.size w
  have e0:((n:Int) !=(n:Int))=false:=by simp
  have i0:(0:Int)<=(n:Int):=by omega
  clear h h' hT z z' hr hr' e hl hl'
  go_enter Tryz.func98,Tryz.ntmps98
  go_wp2_with fail
  go_loopg [17] (n+1) (λg ix wr=>∃(k:Nat),k<=n/\n<g+k/\ix=.int .i64 k/\Hid (∀i,i<k->MM.getD i []=NN.getD i [])/\Below w.heap.size w wr)
  case atStart=>exact⟨0,Nat.zero_le _,by omega,rfl,λi hi=>by omega,hB⟩
  case round=>
   clear hB
   obtain⟨k,hkn,hg,rfl,hz0,hB⟩:=hrel
   by_cases hlt:k<n
   ·obtain⟨ad,B,d,rfl,-,hc,hv⟩:=HA.out.get (zam zaf) hB hlt rfl
    obtain⟨ad',B',d',rfl,-,hc',hv'⟩:=HA'.out.get (zam zaf) hB hlt rfl
    have hd1:decide ((k:Int)<(n:Int))=true:=decide_eq_true (by omega)
    have i1:(0:Int)<=(k:Int):=by omega
    have i2:(k:Int)<(n:Int):=by omega
    have h5:=HR.out k hlt
    have h6:=HR'.out k hlt
    have HNK:=lh9 (HNE.out k hlt)
    have HSK:=lh9 (HS.out k hlt)
    have HSK':=lh9 (HS'.out k hlt)
    have HZ1:Hid (MM.getD k []=NN.getD k []->∀i,i<k+1->MM.getD i []=NN.getD i []):=λhh i hi=>by
     by_cases e:i=k
     ·rw [e];exact hh
     ·exact hz0.out i (by omega)
    obtain⟨X,hX⟩:∃X,MM.getD k []=X:=⟨_,rfl⟩
    obtain⟨Y,hY⟩:∃Y,NN.getD k []=Y:=⟨_,rfl⟩
    rw [hX] at hc hv h5 HNK HSK HZ1
    rw [hY] at hc' hv' h6 HNK HSK' HZ1
    obtain⟨lx,hlx⟩:∃l,X.length=l:=⟨_,rfl⟩
    obtain⟨ly,hly⟩:∃l,Y.length=l:=⟨_,rfl⟩
    rw [hlx] at hc hv h5
    rw [hly] at hc' hv' h6
    have HV:=lh9 hv
    have HV':=lh9 hv'
    have HB1:=lh9 hB
    clear hX hY hv hv' hlx hly hB
    by_cases h0:X=Y
    ·have HQ:=lh9 (decide_eq_true h0)
     have HZ2:=lh9 (HZ1.out h0)
     clear h0
     go_wp2_with fail
     (with_reducible refine(zfj HQ.out (HT.out _ HB1.out) HV.out HV'.out HSK.out HSK'.out (by omega) (by omega) hK hK').mono ?_)
     rintro e w3 ⟨rfl,hb⟩
     have HB2:=lh9 (zab HB1.out hb)
     clear hb hc hc' HV HV' HB1
     go_wp2
     go_roundg (n - k)
     case measure=>omega
     case rel=>exact⟨k+1,by omega,by omega,by go_num,HZ2,HB2.out⟩
    ·have HQ:=lh9 (decide_eq_false h0)
     have HF:=lh9 (HNK.out h0)
     clear h0
     go_wp2_with fail
     (with_reducible refine(zfj HQ.out (HT.out _ HB1.out) HV.out HV'.out HSK.out HSK'.out (by omega) (by omega) hK hK').mono ?_)
     rintro e w3 ⟨rfl,hb⟩
     have HB2:=lh9 (zab HB1.out hb)
     clear hb hc hc' HV HV' HB1
     go_wp2
     go_ret
     exact⟨by rw [<-HF.out];rfl,HB2.out⟩
   ·have hk:k=n:=by omega
    subst hk
    have hd1:decide ((k:Int)<(k:Int))=false:=by simp
    have HF:=lh9 (HEQ.out hz0.out)
    have HB2:=lh9 hB
    clear hB
    go_wp2
    go_ret
    exact⟨by rw [<-HF.out];rfl,HB2.out⟩
 ·have e0:((n:Int) !=(n':Int))=true:=by rw [bne_iff_ne];omega
  have HF:Hid (false=t):=by rw [<-e];exact(decide_eq_false (same_len hl hl' hq)).symm
  clear h h' hT z z' hr hr' e hl hl' hq
  go_enter Tryz.func98,Tryz.ntmps98
  go_wp2
  go_ret
  exact⟨by rw [<-HF.out];rfl,Below.refl _ _⟩
theorem zjA {t:Bool}(e:decide (m=m'/\MM=NN)=t)(hT:zai w)(h:zaR w A n c m MM)(h':zaR w A' n' c' m' NN)(z:zax K MM)(z':zax K' NN)(hK:K<=67108864:=by omega)(hK':K'<=67108864:=by omega):
  Calls Tryz.prog 35 #[.agg #[.slice A n c,.int .i64 (m:Int)],.agg #[.slice A' n' c',.int .i64 (m':Int)]] w (λe w'=>e=.returned (.bool t)/\Below w.heap.size w w'):=by
 obtain⟨bx1,bx2,bx3,bz⟩:=zbI w 28 28 #[.slice A n c,.int .i64 (m:Int)] #[.slice A' n' c',.int .i64 (m':Int)]
 obtain⟨g0,g1⟩:=bx2.c2
 obtain⟨p0,p1⟩:=bx3.c2
 by_cases hq:m=m'
 ·have e0:((m:Int)==(m':Int))=true:=by rw [beq_iff_eq];omega
  have e1:decide (MM=NN)=t:=by
   rw [<-e]
   by_cases hx:MM=NN
   ·rw [decide_eq_true hx,decide_eq_true ⟨hq,hx⟩]
   ·rw [decide_eq_false hx,decide_eq_false (λy=>hx y.2)]
  have hx:=h.hm
  have hy:=h'.hm
  have H:=lh9 (zoi (q:=c) (q':=c') e1 (hT.on bx1) (h.keep bx1).rows (h'.keep bx1).rows z z' (λL hL=>by rw [h.dims.cols L hL];exact hx) (λL hL=>by rw [h'.dims.cols L hL];exact hy) h.hn hK hK')
  have HB:=lh9 bx1
  clear h h' hT z z' bx1 bx2 bx3 bz e e1 hq
  go_enter Tryz.func35,Tryz.ntmps35
  go_wp2_with fail
  refine H.out.mono ?_
  rintro e w1 ⟨rfl,hb⟩
  have HB2:=lh9 (zab HB.out hb)
  clear hb g0 g1 p0 p1
  go_wp2
  go_ret
  exact⟨rfl,HB2.out⟩
 ·have e0:((m:Int)==(m':Int))=false:=by rw [beq_eq_false_iff_ne];omega
  have HF:Hid (false=t):=by rw [<-e];exact(decide_eq_false (λy=>hq y.1)).symm
  have HB:=lh9 bx1
  clear h h' hT z z' bx1 bx2 bx3 bz e hq
  go_enter Tryz.func35,Tryz.ntmps35
  go_wp2
  go_ret
  exact⟨by rw [<-HF.out];rfl,HB.out⟩
end
section
variable {w w':World}{g:Nat}{st:ESt}{rd:Rat}{A:oA9}{n cA:Nat}{B:oA9}{k cB:Nat}{x0 x1 x2 y0 y1 y2:Value}
theorem zqq {K m c:Nat}{a0:Nat->Nat->Rat}(hT:zai w)(hE:ElS w g st rd A n cA B k cB x0 x1 x2 y0 y1 y2)(hok:EOk n m c a0 st)(ha:∀i,i<n->∀j,j<m->LI K (a0 i j))(hc:c<m)(hn:n<=64)(hm:m<=128)(hgt:0<g)(hK:260*K+269<=33554432:=by omega):
  Calls Tryz.prog 133 #[.pointer (some ⟨g,0,none⟩),.int .i64 (c:Int)] w (ziU w g n (zfJ c st) rd):=by
 by_cases hb:zbn c st<st.S.length - st.ld.length
 ·exact zkr hT hE hok ha hc hn hm hgt hb hK
 ·exact zlG hT hE hok ha hc hn hb hK
theorem ElS.grownA (h:ElS w g st rd A n cA B k cB x0 x1 x2 y0 y1 y2)(hg:w.grownBy w' (Value.slice A n cA).ownBlock):Blk w' g 105 #[.slice A n cA,.slice B k cB,x0,x1,x2,y0,y1,y2]/\zgq w' g (.slice B k cB) st.ld/\RV w' st.p x0 x1 x2/\RV w' rd y0 y1 y2:=by
 cases hv:(Value.slice A n cA).ownBlock with
 |none=>
   rw [hv] at hg
   have:=h.below (zbw hg)
   exact⟨this.blk,this.lds,this.lead,this.rsd⟩
 |some q=>
   rw [hv] at hg
   obtain⟨hqg,cs,hk,hs⟩:=h.neA hv
   have ho:=zbl.of_grown hg
   refine⟨(hg.block g h.blk.lt (λe=>hqg (by injection e with e;exact e.symm))).trans h.blk,h.lds.off (λq2 s ds hq2 hk2=>?_),h.lead.off hk (zfT hs) ho,h.rsd.off hk (zfT hs) ho⟩
   obtain⟨_,ds',h1,_⟩:=h.neB hq2
   exact(hg.block q2 hk2.lt (λe=>by injection e with e;subst e;exact absurd (zdc h1 hk) (by decide))).trans hk2
theorem ElS.growRow {m d:Nat}{C:oA9}{L:List Rat}{v':Value}{vs:List Value}(h:ElS w g st rd A n cA B k cB x0 x1 x2 y0 y1 y2)(hr:zbv (VZ g) w g 61 (.slice A n cA) st.S vs)(hg:w.grownBy w' (Value.slice A n cA).ownBlock)(ho:w'.ownsRow g 61 1 v' (n+1) (vs++[.slice C m d]))(hp:zbZ w' v')(hx:VZ g w C m d L)(hm:L.length=m):∃A' cA',v'=.slice A' (n+1) cA'/\ElS (w'.setCell ⟨g,0,none⟩ v') g {st with S:=st.S++[L]} rd A' (n+1) cA' B k cB x0 x1 x2 y0 y1 y2:=by
 obtain⟨h1,h2,h3,h4⟩:=h.grownA hg
 have hl:=hr.grow (zcB g) hx hm ho (by rw [h.hn]) hg hp
 have hlen:(st.S++[L]).length=n+1:=by rw [List.length_append,h.hn];rfl
 obtain⟨A',cA',e,-⟩:=hl.shape hlen
 subst e
 refine⟨A',cA',rfl,?_⟩
 have hne:∀q,(Value.slice A' (n+1) cA').ownBlock=some q->q≠g:=λq hq=>by
  rcases ho.2 with⟨h5,_⟩|⟨g',cap,cur,e1,e2,e3,_⟩
  ·rw [h5] at hq;cases hq
  ·rw [e1] at hq
   simp [Value.ownBlock] at hq
   subst hq
   intro e
   exact absurd (zdc e3 (e▸h1)) (by decide)
 have hneB:∀q,(Value.slice B k cB).ownBlock=some q->q≠g:=λq hq=>(h.neB hq).1
 have hnok:=h.nok
 have hof:zbl g w' (w'.setCell ⟨g,0,none⟩ (.slice A' (n+1) cA')):=zbl.of_far ((zbj.refl g w').set_ 0 _)
 exact {
  blk:=h1.set_ 0 _
  hn:=hlen
  hk:=h.hk
  rows:=⟨_,hl.off (λq s cs hq hk=>Blk.far (p:=⟨g,0,none⟩) hk (hne q hq) _) (λhx=>zmn hx h1 hnok hof)⟩
  lds:=h2.off λq s cs hq hk=>Blk.far (p:=⟨g,0,none⟩) hk (hneB q hq) _
  lead:=h3.off h1 hnok hof
  rsd:=h4.off h1 hnok hof}
theorem ElS.newRd {r:Rat}{z0 z1 z2:Value}(h:ElS w g st rd A n cA B k cB x0 x1 x2 y0 y1 y2)(hp:RV w r z0 z1 z2):ElS (((w.setCell ⟨g,5,none⟩ z0).setCell ⟨g,6,none⟩ z1).setCell ⟨g,7,none⟩ z2) g st r A n cA B k cB x0 x1 x2 z0 z1 z2:=
 h.store ((((zbj.refl g w).set_ 5 z0).set_ 6 z1).set_ 7 z2) (((h.blk.set_ 5 z0).set_ 6 z1).set_ 7 z2) h.lead hp λq s cs hq hk=>Blk.far (p:=⟨g,7,none⟩) (Blk.far (p:=⟨g,6,none⟩) (Blk.far (p:=⟨g,5,none⟩) hk hq z0) hq z1) hq z2
theorem ElS.new {b1 b2:Bool}{A1 A2 E1 E2:oA9}{n1 c1 k1 f1 n2 c2 k2 f2:Nat}(w:World)(h1:zah w 1 b1 A1 n1 c1 E1 k1 f1)(h2:zah w 1 b2 A2 n2 c2 E2 k2 f2):ElS (w.alloc (.cells #[.slice none 0 0,.slice none 0 0,.bool b1,.slice A1 n1 c1,.slice E1 k1 f1,.bool b2,.slice A2 n2 c2,.slice E2 k2 f2] 105)) w.heap.size ⟨[],[],1⟩ 1 none 0 0 none 0 0 (.bool b1) (.slice A1 n1 c1) (.slice E1 k1 f1) (.bool b2) (.slice A2 n2 c2) (.slice E2 k2 f2):=by
 obtain⟨hb,hk,-⟩:=zav w 105 #[.slice none 0 0,.slice none 0 0,.bool b1,.slice A1 n1 c1,.slice E1 k1 f1,.bool b2,.slice A2 n2 c2,.slice E2 k2 f2]
 exact{blk:=hk,hn:=rfl,hk:=rfl,rows:=⟨[],zbv.nil _ _ _⟩,lds:=zgq.nil _ _,lead:=RV.of (h1.below hb),rsd:=RV.of (h2.below hb)}
def zbe (M:List (List Rat)):List (List Rat):=M.map λrow=>zaS (zaD row) row
def zbo (M:List (List Rat)):Rat:=M.foldl (λr row=>r*zaD row) 1
theorem znF {M:List (List Rat)}{i:Nat}(h:i<M.length):zbe (M.take (i+1))=zbe (M.take i)++[zaS (zaD (M.getD i [])) (M.getD i [])]:=by
 unfold zbe
 rw [List.take_succ_eq_append_getElem h,List.map_append,List.getD_eq_getElem?_getD,List.getElem?_eq_getElem h];rfl
theorem zfQ {M:List (List Rat)}{i:Nat}(h:i<M.length):zbo (M.take (i+1))=zbo (M.take i)*zaD (M.getD i []):=by
 unfold zbo
 rw [List.take_succ_eq_append_getElem h,List.foldl_append,List.getD_eq_getElem?_getD,List.getElem?_eq_getElem h];rfl
theorem zfX {M:List (List Rat)}{n m:Nat}(h:zaN M n m):zaN (zbe M) n m:=⟨by unfold zbe;rw [List.length_map];exact h.rows,λL hL=>by
 unfold zbe at hL
 obtain⟨row,hr,rfl⟩:=List.mem_map.1 hL
 exact zbz (h.cols row hr)⟩
theorem zeO {M:List (List Rat)}{n m:Nat}(h:zaN M n m){i:Nat}(hi:i<n)(j:Nat):atM (zbe M) i j=zaD (M.getD i [])*atM M i j:=by
 have hl:=h.rows
 unfold atM zbe
 rw [List.getD_eq_getElem?_getD (l:=List.map _ _),List.getElem?_map,zbE (d:=[]) (by omega)]
 exact zeI j
structure zbS (K:Nat)(M:List (List Rat)):Prop where
 q:∀row ∈ M,LI K (zaD row)
 x:∀row ∈ M,∀x ∈ row,LI K (zaD row*x)
theorem zbS.at_ {K n m:Nat}{M:List (List Rat)}(h:zbS K M)(hd:zaN M n m):∀i,i<n->∀j,j<m->LI K (atM (zbe M) i j):=λi hi j hj=>by
 rw [zeO hd hi]
 have hl:=hd.rows
 have hr:=hd.row hi
 have h1:M.getD i [] ∈ M:=List.mem_of_getElem? (zbE (by omega))
 refine h.x _ h1 _ ?_
 unfold atM
 exact List.mem_of_getElem? (zbE (d:=0) (by omega))
theorem zgg {K:Nat}{M:List (List Rat)}(h:zbS K M):∀i,i<=M.length->LI (1+i*K) (zbo (M.take i))
 |0,_=>by rw [Nat.zero_mul];exact LI.one
 |i+1,hi=>by
   rw [zfQ (by omega)]
   exact((zgg h i (by omega)).mul (h.q _ (List.mem_of_getElem? (zbE (by omega))))).up (by rw [Nat.succ_mul];omega)
end
theorem law8_is {T:World->Prop}{M:Nat->Prop}(hTb:∀w w',T w->Below w.heap.size w w'->T w')(IC:IntC T)(QC:RatC T M)(p q:Int)(r:Rat)(K:Nat)(bx:Bool)(Bx:oA9)(mx dx:Nat)(Ex:oA9)(ux vx:Nat)(w:World)(hK:K<=16777216)(hz:SzQ K r)(h:zah w r bx Bx mx dx Ex ux vx)(hT:T w)(hp1: -9223372036854775808<=p)(hp2:p<=9223372036854775807)(hq1: -9223372036854775808<=q)(hq2:q<=9223372036854775807)(hq0:q≠0)(he:r=Rat.divInt p q):
  Calls Tryz.prog 51 #[.agg #[.bool bx,.slice Bx mx dx,.slice Ex ux vx],.int .i64 p,.int .i64 q] w λe w'=>e=.returned (.bool true)/\Below w.heap.size w w':=by
 have HIC:=lh9 IC
 have HQC:=lh9 QC
 have HT:=lh9 (λw' (hb:Below w.heap.size w w')=>hTb w w' hT hb)
 have HE:=lh9 he
 have HZx:=lh9 hz
 have HNx:=lh9 h
 clear IC QC hT he hz h
 go_enter Tryz.func51,Tryz.ntmps51
 have hB:=Below.refl w.heap.size w
 obtain⟨bx1,bx2,bz⟩:=zav w 41 #[.bool bx,.slice Bx mx dx,.slice Ex ux vx]
 have hB:=zab hB bx1
 have HNx:=lh9 (HNx.out.below bx1)
 obtain⟨g1,e1,i1⟩:=bx2.c3
 clear bx1 bx2 bz
 go_wp2_with fail
 generalize w.alloc (.cells #[.bool bx,.slice Bx mx dx,.slice Ex ux vx] 41)=W1 at*
 have HZ2:Hid (SzQ (1) (Rat.divInt p q)):=SzQ.made (K:=1) (by show Int.natAbs p<18446744073709551616^1;have e1: -9223372036854775808<=p:=hp1;have e2:p<=9223372036854775807:=hp2;omega) (by show Int.natAbs q<18446744073709551616^1;have e1: -9223372036854775808<=q:=hq1;have e2:q<=9223372036854775807:=hq2;omega) (by decide)
 (with_reducible refine(HQC.out.of p q _ (HT.out _ hB) hp1 hp2 hq1 hq2 hq0).mono ?_)
 rintro e wc2 ⟨b2,B2,m2,d2,E2,u2,v2,rfl,hw2,hb⟩
 have hB:=zab hB hb
 have HNx:=lh9 (HNx.out.below hb)
 have g1:=zac hb g1
 have e1:=zac hb e1
 have i1:=zac hb i1
 have HN2:=lh9 hw2
 clear hb hw2
 obtain⟨bx1,bx2,bz⟩:=zav wc2 41 #[.bool b2,.slice B2 m2 d2,.slice E2 u2 v2]
 have hB:=zab hB bx1
 have HNx:=lh9 (HNx.out.below bx1)
 have g1:=zac bx1 g1
 have e1:=zac bx1 e1
 have i1:=zac bx1 i1
 have HN2:=lh9 (HN2.out.below bx1)
 obtain⟨g3,e3,i3⟩:=bx2.c3
 clear bx1 bx2 bz
 go_wp2_with fail
 generalize wc2.alloc (.cells #[.bool b2,.slice B2 m2 d2,.slice E2 u2 v2] 41)=W3 at*
 generalize wc2.heap.size=q3 at*
 have C0:=lh9 (λw' (h:Below W3.heap.size W3 w')=>zay (decide_eq_true HE.out) (HQC.out.same (r) (Rat.divInt p q) bx b2 Bx B2 mx m2 dx d2 Ex E2 ux u2 vx v2 w' (HT.out _ (zab hB h)) (HNx.out.below h) (HN2.out.below h) (szq HZx HNx.out) (szq HZ2 HN2.out)))
 have HZ4:Hid (Sz (K) (r.num).natAbs):=SzQ.num HZx.out
 have C1:=lh9 (λw' (h:Below W3.heap.size W3 w')=>HQC.out.num (r) bx Bx mx dx Ex ux vx w' (HT.out _ (zab hB h)) (HNx.out.below h) (szq HZx HNx.out))
 have HZ5:Hid (Sz (1) ((Rat.divInt p q).num).natAbs):=SzQ.num HZ2.out
 have C2:=lh9 (λw' (h:Below W3.heap.size W3 w')=>HQC.out.num (Rat.divInt p q) b2 B2 m2 d2 E2 u2 v2 w' (HT.out _ (zab hB h)) (HN2.out.below h) (szq HZ2 HN2.out))
 have C3:=lh9 (λw' (h:Below W3.heap.size W3 w') b4 B4 m4 d4 (hw4:zaG w' (r.num) b4 B4 m4 d4) b5 B5 m5 d5 (hw5:zaG w' ((Rat.divInt p q).num) b5 B5 m5 d5)=>icmp_eq (by rw [HE.out]) (HIC.out.cmp (r.num) ((Rat.divInt p q).num) b4 b5 B4 B5 m4 m5 d4 d5 w' (HT.out _ (zab hB h)) hw4 hw5 (by have:=Sz.words HZ4.out hw4.words;omega) (by have:=Sz.words HZ5.out hw5.words;omega)))
 have HZ6:Hid (Sz (K) (r.den)):=SzQ.den HZx.out
 have C4:=lh9 (λw' (h:Below W3.heap.size W3 w')=>HQC.out.den (r) bx Bx mx dx Ex ux vx w' (HT.out _ (zab hB h)) (HNx.out.below h) (szq HZx HNx.out))
 have HZ7:Hid (Sz (1) ((Rat.divInt p q).den)):=SzQ.den HZ2.out
 have C5:=lh9 (λw' (h:Below W3.heap.size W3 w')=>HQC.out.den (Rat.divInt p q) b2 B2 m2 d2 E2 u2 v2 w' (HT.out _ (zab hB h)) (HN2.out.below h) (szq HZ2 HN2.out))
 have C6:=lh9 (λw' (h:Below W3.heap.size W3 w') B6 m6 d6 (hw6:zad w' (r.den) B6 m6 d6) B7 m7 d7 (hw7:zad w' ((Rat.divInt p q).den) B7 m7 d7)=>cmpEq (x:=r.den) (y:=(Rat.divInt p q).den) (by rw [HE.out]) hw6 hw7 (szw HZ6 hw6) (szw HZ7 hw7))
 have hBw:=(Below.refl W3.heap.size W3).drew
 refine rg (csc g1 (csc e1 (csc i1 (csc g3 (csc e3 (csc i3 csn)))))) (λhHeld=>?_)
 refine tk 0 ?_
 refine tk 1 ?_
 refine tk 2 ?_
 refine tk 3 ?_
 refine rc 4 (λK hK=>?_)
 go_simp
 go_at_call 37;(with_reducible refine(C0.out _ hBw).mono ?_);rintro e wa4 ⟨rfl,hb⟩;have hBw:=zab hBw hb;refine hK.out _ _ (Cs.below hHeld hb) (λhHeld=>?_);clear hK K hb
 try simp only [sb9]
 refine tk 5 ?_
 refine tk 6 ?_
 refine tk 7 ?_
 refine tk 9 ?_
 refine rc 8 (λK hK=>?_)
 go_simp
 go_at_call 76;(with_reducible refine(C1.out _ hBw).mono ?_);rintro e wa5 ⟨b4,B4,m4,d4,rfl,hw4,hb⟩;have hBw:=zab hBw hb;refine hK.out _ _ (Cs.below hHeld hb) (λhHeld=>?_);clear hK K hb
 try simp only [sb9]
 refine rc 10 (λK hK=>?_)
 go_simp
 go_at_call 76;(with_reducible refine(C2.out _ hBw).mono ?_);rintro e wa6 ⟨b5,B5,m5,d5,rfl,hw5,hb⟩;have hBw:=zab hBw hb;have hw4:=hw4.below hb;refine hK.out _ _ (Cs.below hHeld hb) (λhHeld=>?_);clear hK K hb
 try simp only [sb9]
 refine rc 11 (λK hK=>?_)
 go_simp
 go_at_call 100;(with_reducible refine(C3.out _ hBw _ _ _ _ hw4 _ _ _ _ hw5).mono ?_);rintro e wa7 ⟨rfl,hb⟩;have hBw:=zab hBw hb;have hw4:=hw4.below hb;have hw5:=hw5.below hb;refine hK.out _ _ (Cs.below hHeld hb) (λhHeld=>?_);clear hK K hb
 try simp only [sb9]
 refine tk 12 ?_
 refine tk 13 ?_
 refine tk 14 ?_
 refine tk 15 ?_
 refine tk 17 ?_
 refine rc 16 (λK hK=>?_)
 go_simp
 go_at_call 78;(with_reducible refine(C4.out _ hBw).mono ?_);rintro e wa8 ⟨B6,m6,d6,rfl,hw6,hb⟩;have hBw:=zab hBw hb;have hw4:=hw4.below hb;have hw5:=hw5.below hb;refine hK.out _ _ (Cs.below hHeld hb) (λhHeld=>?_);clear hK K hb
 try simp only [sb9]
 refine rc 18 (λK hK=>?_)
 go_simp
 go_at_call 78;(with_reducible refine(C5.out _ hBw).mono ?_);rintro e wa9 ⟨B7,m7,d7,rfl,hw7,hb⟩;have hBw:=zab hBw hb;have hw4:=hw4.below hb;have hw5:=hw5.below hb;have hw6:=hw6.below hb;refine hK.out _ _ (Cs.below hHeld hb) (λhHeld=>?_);clear hK K hb
 try simp only [sb9]
 refine rc 19 (λK hK=>?_)
 go_simp
 go_at_call 101;(with_reducible refine(C6.out _ hBw _ _ _ hw6 _ _ _ hw7).mono ?_);rintro e wa10 ⟨rfl,hb⟩;have hBw:=zab hBw hb;have hw4:=hw4.below hb;have hw5:=hw5.below hb;have hw6:=hw6.below hb;have hw7:=hw7.below hb;refine hK.out _ _ (Cs.below hHeld hb) (λhHeld=>?_);clear hK K hb
 try simp only [sb9]
 refine tk 20 ?_
 refine tk 21 ?_
 refine tk 22 ?_
 refine rdn ?_
 have hB:=zab hB hBw
 have g1:=zac hBw g1
 have e1:=zac hBw e1
 have i1:=zac hBw i1
 have g3:=zac hBw g3
 have e3:=zac hBw e3
 have i3:=zac hBw i3
 clear hBw hHeld hw4 hw5 hw6 hw7 C0 C1 C2 C3 C4 C5 C6
 go_wp2
 go_ret
 exact⟨by first|rfl|simp,hB⟩
