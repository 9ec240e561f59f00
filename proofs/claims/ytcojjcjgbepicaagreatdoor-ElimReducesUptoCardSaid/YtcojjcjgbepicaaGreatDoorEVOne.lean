/- What this claim leans on. -/
import Derived.Test.YtcojjcjgbepicaaGreatDoorEEWhole
namespace Go.Proofs.YtcojjcjgbepicaaGreatDoor
open Go Go.RowKit
set_option maxHeartbeats 16000000
set_option maxRecDepth 100000
set_option linter.unusedVariables false
set_option linter.unusedSimpArgs false
theorem zlE {p:Int}{w:World}(hT:zaj w)(hp:zcy p):
  Calls Tryz.prog 64 #[.agg #[.int .i64 p,.int .i64 0]] w (zaH w (qOf p 0)):=by
 rw [qOf_zero]
 obtain⟨hp1,hp2⟩:=hp
 have HT:=lh9 (λw' (hb:Below w.heap.size w w')=>hT.on hb)
 obtain⟨bx1,bx2,bx3,bz⟩:=zbz w 26 53 #[.int .i64 p,.int .i64 0] #[.bool false,.slice none 0 0,.slice none 0 0]
 obtain⟨g0,g1⟩:=bx2.c2
 have HB:=lh9 bx1
 have HK:=lh9 bx3
 clear hT bx1 bx2 bx3 bz
 go_enter Tryz.func64,Tryz.ntmps64
 go_wp2_with fail
 clear g0 g1
 (with_reducible refine(zcX p _ (HT.out _ HB.out) hp1 hp2).mono ?_)
 rintro e w2 ⟨b2,A2,n2,c2,E2,k2,f2,rfl,hw2,hb⟩
 have hk2:=zab hb HK.out
 obtain⟨sc0,sf0,sc1,sf1,sc2,sf2⟩:=st3 hk2 (.bool b2) (.slice A2 n2 c2)
 obtain⟨r0,r1,r2⟩:=(sn3 hk2 (.bool b2) (.slice A2 n2 c2) (.slice E2 k2 f2)).c3
 have HG:=lh9 (gq3 hw2 hk2 (zaa HB.out hb) (by omega))
 clear hb hk2 hw2 HB HK
 go_wp2
 refine bodyPost_ret (v:=.agg #[.bool b2,.slice A2 n2 c2,.slice E2 k2 f2]) (by simp [results,Tryz.results64,go_sem,r0,r1,r2]) rfl ?_
 exact HG.out
theorem zlF {p q:Int}{w:World}(hT:zaj w)(hp:zcy p)(hq:zcy q)(h0:q≠0):
  Calls Tryz.prog 64 #[.agg #[.int .i64 p,.int .i64 q]] w (zaH w (qOf p q)):=by
 rw [qOf_ne h0]
 obtain⟨hp1,hp2⟩:=hp
 obtain⟨hq1,hq2⟩:=hq
 have H0:=lh9 h0
 have hd0:(q==0)=false:=by rw [beq_eq_false_iff_ne];exact h0
 have HT:=lh9 (λw' (hb:Below w.heap.size w w')=>hT.on hb)
 obtain⟨bx1,bx2,bx3,bz⟩:=zbz w 26 53 #[.int .i64 p,.int .i64 q] #[.bool false,.slice none 0 0,.slice none 0 0]
 obtain⟨g0,g1⟩:=bx2.c2
 have HB:=lh9 bx1
 have HK:=lh9 bx3
 clear hT bx1 bx2 bx3 bz h0
 go_enter Tryz.func64,Tryz.ntmps64
 go_wp2_with fail
 clear g0 g1
 (with_reducible refine(rat_of p q _ (HT.out _ HB.out) hp1 hp2 hq1 hq2 H0.out).mono ?_)
 rintro e w2 ⟨b2,A2,n2,c2,E2,k2,f2,rfl,hw2,hb⟩
 obtain⟨s1,s2,s3⟩:=zaw w2 53 #[.bool b2,.slice A2 n2 c2,.slice E2 k2 f2]
 obtain⟨p0,p1,p2⟩:=s2.c3
 have hk2:=zab s1 (zab hb HK.out)
 have hw3:=hw2.below s1
 obtain⟨sc0,sf0,sc1,sf1,sc2,sf2⟩:=st3 hk2 (.bool b2) (.slice A2 n2 c2)
 obtain⟨r0,r1,r2⟩:=(sn3 hk2 (.bool b2) (.slice A2 n2 c2) (.slice E2 k2 f2)).c3
 have HG:=lh9 (gq3 hw3 hk2 (zaa (zaa HB.out hb) s1) (by omega))
 clear hb hk2 hw2 hw3 HB HK s1 s2 s3
 go_wp2
 refine bodyPost_ret (v:=.agg #[.bool b2,.slice A2 n2 c2,.slice E2 k2 f2]) (by simp [results,Tryz.results64,go_sem,r0,r1,r2]) rfl ?_
 exact HG.out
theorem zoY {p q:Int}{w:World}(hT:zaj w)(hp:zcy p)(hq:zcy q):
  Calls Tryz.prog 64 #[.agg #[.int .i64 p,.int .i64 q]] w (zaH w (qOf p q)):=by
 by_cases h0:q=0
 ·subst h0;exact zlE hT hp
 ·exact zlF hT hp hq h0
def zfP (L:List (Int×Int)):List Rat:=L.map λq=>qOf q.1 q.2
theorem zgF (L:List (Int×Int)):(zfP L).length=L.length:=List.length_map _
def GivesM (w:World)(n:Nat)(xs:List Rat)(e:Ending)(w':World):Prop:=∃(A:oA9) (c:Nat),e=.returned (.slice A n c)/\zaC w' A n c xs/\(∀ad,A=some ad->w.heap.size<=ad.block)/\Below w.heap.size w w'
theorem zna {A:oA9}{n c:Nat}{L:List (Int×Int)}{w:World}(hT:zaj w)(h:zbd w A n c L):
  Calls Tryz.prog 36 #[.slice A n c] w (GivesM w n (zfP L)):=by
 obtain⟨i1',hi1,hz10,hz11,hz12⟩:=info_parts info10
 have hn0:n<=1048576:=Nat.le_trans h.fits h.small
 have HL:=lh9 h.len
 have HG:Hid (∀k,k<n->zcy (L.getD k (0,0)).1/\zcy (L.getD k (0,0)).2/\∃ad,A=some ad/\ad.block<w.heap.size/\w.cell? (ad.add (k*2))=some (.int .i64 (L.getD k (0,0)).1)/\w.cell? (ad.add (k*2+1))=some (.int .i64 (L.getD k (0,0)).2)):=λk hk=>by
  have hl:=h.len
  have e:L[k]?=some (L.getD k (0,0)):=by rw [List.getD_eq_getElem?_getD,List.getElem?_eq_getElem (by omega)];rfl
  obtain⟨h1,h2⟩:=h.ints _ (List.mem_of_getElem? e)
  exact⟨h1,h2,h.row k _ e⟩
 have HS:Hid (∀k,k<n->zfP (L.take (k+1))=zfP (L.take k)++[qOf (L.getD k (0,0)).1 (L.getD k (0,0)).2]):=λk hk=>by
  have hl:=h.len
  unfold zfP
  rw [List.take_succ_eq_append_getElem (by omega),List.map_append,List.getD_eq_getElem?_getD,List.getElem?_eq_getElem (by omega)]
  rfl
 have HT:=lh9 (λw' (hb:Below w.heap.size w w')=>hT.on hb)
 unfold GivesM
 clear h hT
 have hB:=Below.refl w.heap.size w
 go_enter Tryz.func36,Tryz.ntmps36
 go_wp2_with fail
 go_loopg [3,4] (n+1) (λg sl ix wr=>∃(k:Nat) (v:Value) (vs:List Value),k<=n/\n<g+k/\ix=.int .i64 k/\v=sl/\zfL zai wr w.heap.size 53 v (zfP (L.take k)) vs/\Below w.heap.size w wr)
 case atStart=>exact⟨0,_,_,Nat.zero_le _,by omega,rfl,rfl,zfL.nil _ _ _,hB⟩
 case round=>
  clear hB
  obtain⟨k,v,vs,hkn,hg,rfl,rfl,hon,hB⟩:=hrel
  by_cases hlt:k<n
  ·obtain⟨hi1',hi2',ad,rfl,hadb,hc0,hc1⟩:=HG.out k hlt
   have HSK:=lh9 (HS.out k hlt)
   obtain⟨q,hq⟩:∃q,L.getD k (0,0)=q:=⟨_,rfl⟩
   rw [hq] at hi1' hi2' hc0 hc1 HSK
   obtain⟨q1,q2⟩:=q
   dsimp only at hi1' hi2' hc0 hc1 HSK
   have hc0:=zac hB hc0
   have hc1:=zhL (zac hB hc1)
   have hd1:decide ((k:Int)<(n:Int))=true:=decide_eq_true (by omega)
   have i1:(0:Int)<=(k:Int):=by omega
   have i2:(k:Int)<(n:Int):=by omega
   have HON0:=lh9 hon
   have HB0:=lh9 hB
   have HI1:=lh9 hi1'
   have HI2:=lh9 hi2'
   have hlq:(zfP (L.take k)).length=k:=by rw [zgF,List.length_take,HL.out];omega
   have HLQ:=lh9 hlq
   clear hon hB hi1' hi2' hq hlq
   go_wp2_with fail
   (with_reducible refine(zoY (HT.out _ HB0.out) HI1.out HI2.out).mono ?_)
   rintro e w5 ⟨b5,B5,m5,d5,E5,u5,f5,rfl,hx5,hb⟩
   obtain⟨t1,t2,_⟩:=zaw w5 53 #[.bool b5,.slice B5 m5 d5,.slice E5 u5 f5]
   obtain⟨t20,t21,t22⟩:=t2.c3
   have hup:=zaa hb t1
   have hon:=zfL.below zaf HON0.out hup
   have HX:=lh9 (hx5.below t1)
   have HB:=lh9 (zaa HB0.out hup)
   have hcell:∀j u,[Value.bool b5,.slice B5 m5 d5,.slice E5 u5 f5][j]?=some u->(w5.alloc (.cells #[.bool b5,.slice B5 m5 d5,.slice E5 u5 f5] 53)).cell? ((⟨w5.heap.size,0,none⟩:Addr).add j)=some u:=λj u hu=>by
    rw [zaO]
    match j,hu with
    |0,hu=>simp at hu;subst hu;exact t2.cell 0
    |1,hu=>simp at hu;subst hu;exact t2.cell 1
    |2,hu=>simp at hu;subst hu;exact t2.cell 2
   have HCELL:=lh9 hcell
   have HONE:Hid (∀u ∈ [Value.bool b5,.slice B5 m5 d5,.slice E5 u5 f5],u.oneCell'=true):=by intro u hu;simp at hu;rcases hu with rfl|rfl|rfl<;>rfl
   have HNN:Hid (∀u ∈ [Value.bool b5,.slice B5 m5 d5,.slice E5 u5 f5],NoIV u):=by intro u hu y z;simp at hu;rcases hu with rfl|rfl|rfl<;>(intro h9;cases h9)
   have HZN:Hid (∀u ∈(Value.agg #[.bool false,.slice none 0 0,.slice none 0 0]).cells.toList,NoIV u):=by intro u hu y z;simp [Value.cells] at hu;rcases hu with rfl|rfl<;>(intro h9;cases h9)
   have HBS:Hid (w.heap.size<=(w5.alloc (.cells #[.bool b5,.slice B5 m5 d5,.slice E5 u5 f5] 53)).heap.size):=HB.out.size
   have hown:=hon.own
   rw [HLQ.out] at hown
   have HOWN:=lh9 hown
   have HNOU:=lh9 hon.nou
   have HON:=lh9 hon
   have HOB:=lh9 (λr (h:v.ownBlock=some r)=>hon.own.lt r h)
   clear hb hup hx5 hcell hon t1 t2 hc0 hc1 t20 t21 t22 hown
   go_wp2_with (at_builtin;go_loud (refine zgR _ rfl (.tmp 11) (.tmp 17) 71 rfl w.heap.size 53 i1' (.agg #[.bool false,.slice none 0 0,.slice none 0 0]) 3 56 Tryz.underlying71 hi1 hz10 hz11 hz12 rfl (by decide) v k vs rfl HOWN.out ⟨w5.heap.size,0,none⟩ 1 1 [.bool b5,.slice B5 m5 d5,.slice E5 u5 f5] rfl rfl HCELL.out HONE.out (by unfold maxLen;omega) (by omega) HBS.out HNOU.out HZN.out HNN.out ?_;intro v' w8 hown' hgrow hat hnou';have HON8:=lh9 (zfL.grow (n:=k+1) zaf HON.out HX.out hown' (by rw [HLQ.out]) hgrow hnou');have HB8:=lh9 (HB.out.grown hgrow HBS.out (λr hr=>(HOB.out r hr).1));clear hown' hgrow hat hnou'))
   rw [<-HSK.out] at HON8
   go_roundg (n - k)
   case measure=>omega
   case rel=>exact⟨k+1,_,_,by omega,by omega,by go_num,rfl,HON8.out,HB8.out⟩
  ·have hd1:decide ((k:Int)<(n:Int))=false:=decide_eq_false (by omega)
   have hk:k=n:=by omega
   subst hk
   rw [List.take_of_length_le (by rw [HL.out];exact Nat.le_refl _)] at hon
   have hlq:(zfP L).length=k:=by rw [zgF];exact HL.out
   obtain⟨A1,c1,rfl,hv,hf⟩:=hon.shape
   rw [hlq] at hv⊢
   have HV:=lh9 hv
   have HF:=lh9 hf
   have HB1:=lh9 hB
   clear hon hv hB hlq hf
   go_wp2
   go_ret
   exact⟨A1,c1,rfl,HV.out,HF.out,HB1.out⟩
def badB (M:List (List Rat))(z:Int):Bool:=M.any λL=> !decide (((L.length:Nat):Int)=z)
theorem any_succ {α:Type}(p:α->Bool)(xs:List α)(d:α)(k:Nat)(h:k<xs.length):(xs.take (k+1)).any p=((xs.take k).any p||p (xs.getD k d)):=by
 rw [List.take_succ_eq_append_getElem h,List.any_append,List.getD_eq_getElem?_getD,List.getElem?_eq_getElem h]
 simp
theorem any_at {α:Type}(p:α->Bool)(xs:List α)(d:α)(k:Nat)(h:k<xs.length)(hp:p (xs.getD k d)=true):xs.any p=true:=by
 refine List.any_eq_true.2 ⟨xs.getD k d,?_,hp⟩
 rw [List.getD_eq_getElem?_getD,List.getElem?_eq_getElem h]
 exact List.getElem_mem h
theorem dims_bad {M:List (List Rat)}{n m:Nat}(h:zaW M n m):badB M (m:Int)=false:=by
 unfold badB
 refine List.any_eq_false.2 λL hL=>?_
 have:=h.cols L hL
 simp
 omega
theorem zks {gc q n:Nat}{Q:oA9}{M:List (List Rat)}{z:Int}{w:World}(h:zaz (zaN zai) w Q n M)(hk:Blk w gc 3 #[.int .i64 z])(hn:n<=1048576):
  Calls Tryz.prog 174 #[.slice Q n q,.func (.func 125) #[] #[.pointer (some ⟨gc,0,none⟩)]] w (λe w'=>∃k:Int,e=.returned (.int .i64 k)/\decide (k>=0)=badB M z/\Below w.heap.size w w'):=by
 have hl:=h.len
 have HL:=lh9 hl
 have HR:=lh9 h
 have HK:=lh9 (λw' (hb:Below w.heap.size w w')=>zab hb hk)
 have hEn:=en_of1
 have hB:=Below.refl w.heap.size w
 have HS:Hid (∀k,k<n->(M.take (k+1)).any (λL:List Rat=> !decide (((L.length:Nat):Int)=z))=((M.take k).any (λL:List Rat=> !decide (((L.length:Nat):Int)=z))||(λL:List Rat=> !decide (((L.length:Nat):Int)=z)) (M.getD k []))):=λk hk=>any_succ (λL:List Rat=> !decide (((L.length:Nat):Int)=z)) M [] k (by omega)
 have HA:Hid (∀k,k<n->(λL:List Rat=> !decide (((L.length:Nat):Int)=z)) (M.getD k [])=true->M.any (λL:List Rat=> !decide (((L.length:Nat):Int)=z))=true):=λk hk=>any_at (λL:List Rat=> !decide (((L.length:Nat):Int)=z)) M [] k (by omega)
 have i0:(0:Int)<=(n:Int):=by omega
 clear h hk hl
 unfold badB
 go_enter Tryz.func174,Tryz.ntmps174
 go_wp2_with fail
 go_loopg [8] (n+1) (λg ix wr=>∃(k:Nat),k<=n/\n<g+k/\ix=.int .i64 k/\Hid ((M.take k).any (λL:List Rat=> !decide (((L.length:Nat):Int)=z))=false)/\Below w.heap.size w wr)
 case atStart=>exact⟨0,Nat.zero_le _,by omega,rfl,rfl,hB⟩
 case round=>
  clear hB
  obtain⟨k,hkn,hg,rfl,hz0,hB⟩:=hrel
  by_cases hlt:k<n
  ·have hd1:decide ((k:Int)<(n:Int))=true:=decide_eq_true (by omega)
   have i1:(0:Int)<=(k:Int):=by omega
   have i2:(k:Int)<(n:Int):=by omega
   have HSK:=lh9 (HS.out k hlt)
   have HAK:=lh9 (HA.out k hlt)
   obtain⟨ad,B,d,rfl,-,hc,-⟩:=HR.out.get (zam zaf) hB hlt rfl
   obtain⟨L,hL⟩:∃L,M.getD k []=L:=⟨_,rfl⟩
   rw [hL] at hc
   rw [hL] at HSK HAK
   obtain⟨b,hb9⟩:∃b,(!decide (((L.length:Nat):Int)=z))=b:=⟨_,rfl⟩
   rw [hb9] at HSK HAK
   have HC:∀W,Below w.heap.size w W->Hid (Calls Tryz.prog 125 #[.slice B L.length d,.pointer (some ⟨gc,0,none⟩)] W (λe w'=>e=.returned (.bool b)/\Below W.heap.size W w')):=λW hW=>by
    have q:=zoB (V:=B) (cv:=d) (k:=L.length) (HK.out W hW)
    rw [hb9] at q
    exact q
   have HB:=lh9 hB
   clear hB hL
   cases b
   ·go_wp2_with fail
    refine(HC _ HB.out).out.mono ?_
    rintro e w3 ⟨rfl,hb⟩
    have HZ:Hid ((M.take (k+1)).any (λL:List Rat=> !decide (((L.length:Nat):Int)=z))=false):=by show _=_;rw [HSK.out,hz0.out];rfl
    have HB2:=lh9 (zaa HB.out hb)
    clear hb hb9 hc HC
    go_wp2
    go_roundg (n - k)
    case measure=>omega
    case rel=>exact⟨k+1,by omega,by omega,by go_num,HZ,HB2.out⟩
   ·go_wp2_with fail
    refine(HC _ HB.out).out.mono ?_
    rintro e w3 ⟨rfl,hb⟩
    have HZ:=lh9 (HAK.out (by first|rfl|trivial))
    have HB2:=lh9 (zaa HB.out hb)
    clear hb hb9 hc HC
    go_wp2
    go_ret
    exact⟨(k:Int),rfl,by rw [HZ.out];exact decide_eq_true (by omega),HB2.out⟩
  ·have hd1:decide ((k:Int)<(n:Int))=false:=decide_eq_false (by omega)
   have HF:Hid (M.any (λL:List Rat=> !decide (((L.length:Nat):Int)=z))=false):=by
    have h1:=hz0.out
    rw [List.take_of_length_le (by have:=HL.out;omega)] at h1
    exact h1
   have HB2:=lh9 hB
   clear hB
   go_wp2
   go_ret
   exact⟨-1,rfl,by rw [HF.out];rfl,HB2.out⟩
theorem zhD {gc q n:Nat}{Q:oA9}{M:List (List Rat)}{z:Int}{w:World}(h:zaz (zaN zai) w Q n M)(hk:Blk w gc 3 #[.int .i64 z])(hn:n<=1048576):
  Calls Tryz.prog 126 #[.slice Q n q,.func (.func 125) #[] #[.pointer (some ⟨gc,0,none⟩)]] w (λe w'=>e=.returned (.bool (badB M z))/\Below w.heap.size w w'):=by
 have H:=lh9 (zks (q:=q) h hk hn)
 obtain⟨b,hb⟩:∃b,badB M z=b:=⟨_,rfl⟩
 rw [hb] at H⊢
 clear h hk hb
 go_enter Tryz.func126,Tryz.ntmps126
 go_wp2_with fail
 refine H.out.mono ?_
 rintro e w1 ⟨k,rfl,hk,hb⟩
 have hk2:decide (0<=k)=b:=hk
 have HB:=lh9 hb
 clear hb
 go_wp2
 go_ret
 exact⟨rfl,HB.out⟩
section
variable {Q:oA9}{n q:Nat}{M:List (List Rat)}{z:Int}{w:World}
theorem zkx {m K:Nat}(hT:zaj w)(h:zaz (zaN zai) w Q n M)(hd:zaW M n m)(hn:n<=64)(hm:m<=64)(z:zaA K M)(hK:K+2<=67108864:=by omega):Calls Tryz.prog 57 #[.int .i64 (m:Int),.slice Q n q] w (zfw w n m M):=by
 have hmf:=mat_mf
 obtain⟨bx1,bx2,bx3,bx4,bz⟩:=zbA w 3 30 32 #[.int .i64 (m:Int)] #[.slice Q n q] #[.slice none 0 0,.int .i64 0]
 have H:=λW=>lh9 (may_of (zlN hn hm) W)
 have hc:=zhD (q:=q) (h.below (zam zaf) bx1) bx2 (by omega)
 rw [dims_bad hd] at hc
 have HC:=lh9 hc
 have HM:Hid (∀W,Below w.heap.size w W->Blk W (w.heap.size+1) 30 #[.slice Q n q]->Calls Tryz.prog 71 #[.int .i64 (n:Int),.int .i64 (m:Int),.func (.func 127) #[] #[.pointer (some ⟨w.heap.size+1,0,none⟩)]] W (zci W n m M)):=λW hW hk=>by
  have hh:=h.below (zam zaf) hW
  have q9:=ziA (K:=K) (atM M) 127 #[.pointer (some ⟨w.heap.size+1,0,none⟩)] n m W (hT.on hW) ⟨en_of2,λr c hr hc w' hb=>cl_of (hh.below (zam zaf) hb) hd (zab hb hk) hr hc⟩ (λr c hr hc=>z.at_ hd hr hc) hn hm hK
  rw [hd.eq] at q9
  exact q9
 have HK:=lh9 bx4
 have HS:=lh9 bx3
 have HB:=lh9 bx1
 have y0:=bx2.c1
 have y1:=bx3.c1
 have hl0:=bx2.lt
 have HKI:=lh9 bx2
 clear bx1 bx2 bx3 bx4 bz hT h z hd hc
 go_enter Tryz.func57,Tryz.ntmps57
 go_wp2_with fail
 refine(H _).out.mono ?_
 rintro e w1 ⟨rfl,rfl⟩
 go_wp2_with fail
 refine HC.out.mono ?_
 rintro e w1 ⟨rfl,hb⟩
 have HB1:=lh9 (zaa HB.out hb)
 have HK1:=lh9 (zab hb HK.out)
 have HS1:=lh9 (zab hb HS.out)
 have y0:=(zab hb HKI.out).c1
 have y1:=HS1.out.c1
 clear hb HB HK HS HKI HC H
 go_wp2_with fail
 refine(HM.out _ HB1.out HS1.out).mono ?_
 clear y0 y1
 rintro e w3 ⟨A3,c3,rfl,hm3,hf3,hb⟩
 have hk3:=zab hb HK1.out
 obtain⟨sc0,sf0,sc1,sf1⟩:=st2 hk3 (.slice A3 n c3)
 obtain⟨r0,r1⟩:=(sn2 hk3 (.slice A3 n c3) (.int .i64 (m:Int))).c2
 have HG:=lh9 (gmb2 hm3 (λad e=>Nat.lt_of_lt_of_le HK1.out.lt (hf3 ad e)) hk3 (zaa HB1.out hb) (by omega))
 clear hb hk3 hm3 hf3 HK1 HB1 HM HS1
 go_wp2
 refine bodyPost_ret (v:=.tuple #[.agg #[.slice A3 n c3,.int .i64 (m:Int)],.bool true]) (by simp [results,Tryz.results57,go_sem,r0,r1]) rfl ?_
 exact HG.out
end
