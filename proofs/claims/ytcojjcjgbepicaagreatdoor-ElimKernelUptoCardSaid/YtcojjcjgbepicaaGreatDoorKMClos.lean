/- What this claim leans on. -/
import Derived.Test.YtcojjcjgbepicaaGreatDoorKERow
namespace Go.Proofs.YtcojjcjgbepicaaGreatDoor
open Go Go.RowKit
set_option maxHeartbeats 16000000
set_option maxRecDepth 100000
set_option linter.unusedVariables false
set_option linter.unusedSimpArgs false
theorem gq0 {w w':World}{r:Rat}{b:Bool}{A E:oA9}{n c k f:Nat}(h:zah w' r b A n c E k f)(hb:Below w.heap.size w w'):zaJ w r (.returned (.agg #[.bool b,.slice A n c,.slice E k f])) w':=⟨_,_,_,_,_,_,_,rfl,h,hb⟩
section
variable {A:oA9}{n c m:Nat}{M:List (List Rat)}{w:World}
theorem zlk:∀(args:Array Value) (w':World),Sem.run Tryz.prog (callFunc 114 args) w'=.ok (.enter 114 args) w':=Go.Proofs.enters_of Tryz.func114 (by kernel_rfl) rfl
theorem zmv {g gv i j:Nat}{V:oA9}{cv:Nat}{xs:List Rat}(h:zaU w A n c m M)(hk:Blk w g 32 #[.slice A n c,.int .i64 (m:Int)])(hkv:Blk w gv 71 #[.slice V n cv])(hv:zaC w V n cv xs)(hi:i<n)(hj:j<m+1):
  Calls Tryz.prog 114 #[.int .i64 (i:Int),.int .i64 (j:Int),.pointer (some ⟨g,0,none⟩),.pointer (some ⟨gv,0,none⟩)] w (zaJ w (if j=m then xs.getD i 0 else atM M i j)):=by
 obtain⟨bx1,bx2,bz⟩:=zax w 53 #[.bool false,.slice none 0 0,.slice none 0 0]
 by_cases h1:j=m
 ·have e1:((j:Int)==(m:Int))=true:=by rw [beq_iff_eq];omega
  rw [if_pos h1]
  obtain⟨g0,g1⟩:=(zab bx1 hk).c2
  have y0:=(zab bx1 hkv).c1
  clear h1
  obtain⟨ae,b1,B1,m1,d1,E1,u1,v1,rfl,-,h0,h2,h3,hq⟩:=hv.get (Below.refl _ w) hi
  have h0:=zac bx1 h0
  have h1:=zac bx1 h2
  have h2:=zac bx1 h3
  have i1:(0:Int)<=(i:Int):=by omega
  have i2:(i:Int)<(n:Int):=by omega
  clear hkv
  obtain⟨by1,by2,-⟩:=zax w 53 #[.bool b1,.slice B1 m1 d1,.slice E1 u1 v1]
  obtain⟨r0,r1,r2⟩:=by2.c3
  have HG:=lh9 (gq0 (hq.below by1) by1)
  clear hq bx1 bx2 bz by1 by2 h hk hv
  go_enter Tryz.func114,Tryz.ntmps114
  go_wp2
  refine bodyPost_ret (v:=.agg #[.bool b1,.slice B1 m1 d1,.slice E1 u1 v1]) (by simp [results,Tryz.results114,go_sem,r0,r1,r2]) rfl ?_
  exact HG.out
 ·have e1:((j:Int)==(m:Int))=false:=by rw [beq_eq_false_iff_ne];omega
  rw [if_neg h1]
  have hj:j<m:=by omega
  clear h1 hkv
  obtain⟨ad,B,d,rfl,-,hc,ae,b1,B1,m1,d1,E1,u1,v1,rfl,-,h0,h1,h2,hq⟩:=h.place (Below.refl _ w) hi hj
  obtain⟨g0,g1⟩:=(zab bx1 hk).c2
  have hc:=zac bx1 hc
  have h0:=zac bx1 h0
  have h1:=zac bx1 h1
  have h2:=zac bx1 h2
  have i1:(0:Int)<=(i:Int):=by omega
  have i2:(i:Int)<(n:Int):=by omega
  have i3:(0:Int)<=(j:Int):=by omega
  have i4:(j:Int)<(m:Int):=by omega
  obtain⟨by1,by2,-⟩:=zax w 53 #[.bool b1,.slice B1 m1 d1,.slice E1 u1 v1]
  obtain⟨r0,r1,r2⟩:=by2.c3
  have HG:=lh9 (gq0 (hq.below by1) by1)
  clear hq bx1 bx2 bz by1 by2 h hk hv
  go_enter Tryz.func114,Tryz.ntmps114
  go_wp2
  refine bodyPost_ret (v:=.agg #[.bool b1,.slice B1 m1 d1,.slice E1 u1 v1]) (by simp [results,Tryz.results114,go_sem,r0,r1,r2]) rfl ?_
  exact HG.out
theorem en_of2:∀(args:Array Value) (w':World),Sem.run Tryz.prog (callFunc 127 args) w'=.ok (.enter 127 args) w':=Go.Proofs.enters_of Tryz.func127 (by kernel_rfl) rfl
theorem cl_of {gs i j:Nat}{Q:oA9}{q:Nat}(h:zay (zaN zah) w Q n M)(hd:zbe M n m)(hk:Blk w gs 30 #[.slice Q n q])(hi:i<n)(hj:j<m):Calls Tryz.prog 127 #[.int .i64 (i:Int),.int .i64 (j:Int),.pointer (some ⟨gs,0,none⟩)] w (zaJ w (atM M i j)):=by
 obtain⟨bx1,bx2,bz⟩:=zax w 53 #[.bool false,.slice none 0 0,.slice none 0 0]
 obtain⟨ad,B,d,rfl,-,hc,hv⟩:=h.get (zam zaf) (Below.refl _ w) hi (hd.row hi)
 obtain⟨ae,b1,B1,m1,d1,E1,u1,v1,rfl,-,h0,h1,h2,hq⟩:=zaC.get hv (Below.refl _ w) hj
 have hc:=zac bx1 hc
 have h0:=zac bx1 h0
 have h1:=zac bx1 h1
 have h2:=zac bx1 h2
 have g0:=(zab bx1 hk).c1
 have i1:(0:Int)<=(i:Int):=by omega
 have i2:(i:Int)<(n:Int):=by omega
 have i3:(0:Int)<=(j:Int):=by omega
 have i4:(j:Int)<(m:Int):=by omega
 obtain⟨by1,by2,-⟩:=zax w 53 #[.bool b1,.slice B1 m1 d1,.slice E1 u1 v1]
 obtain⟨r0,r1,r2⟩:=by2.c3
 have HG:=lh9 (gq0 (hq.below by1) by1)
 clear hq bx1 bx2 bz by1 by2 h hk hv hd
 go_enter Tryz.func127,Tryz.ntmps127
 go_wp2
 refine bodyPost_ret (v:=.agg #[.bool b1,.slice B1 m1 d1,.slice E1 u1 v1]) (by simp [results,Tryz.results127,go_sem,r0,r1,r2]) rfl ?_
 exact HG.out
theorem en_of1:∀(args:Array Value) (w':World),Sem.run Tryz.prog (callFunc 125 args) w'=.ok (.enter 125 args) w':=Go.Proofs.enters_of Tryz.func125 (by kernel_rfl) rfl
theorem zow {gc k:Nat}{V:oA9}{cv:Nat}{z:Int}(hk:Blk w gc 3 #[.int .i64 z]):Calls Tryz.prog 125 #[.slice V k cv,.pointer (some ⟨gc,0,none⟩)] w (λe w'=>e=.returned (.bool (!decide ((k:Int)=z)))/\Below w.heap.size w w'):=by
 have g0:=hk.c1
 obtain⟨b,hb⟩:∃b,(!decide ((k:Int)=z))=b:=⟨_,rfl⟩
 have hb2:((k:Int) !=z)=b:=by rw [<-hb];by_cases q:(k:Int)=z<;>simp [q]
 rw [hb]
 clear hk hb
 go_enter Tryz.func125,Tryz.ntmps125
 go_wp2
 go_ret
 exact⟨rfl,Below.refl _ _⟩
end
theorem zjE (z:Int)(w:World):Calls Tryz.prog 192 #[.int .i64 z] w (λe w'=>e=.returned (.bool false)/\w=w'):=by
 have h1:(z !=z)=false:=by simp
 go_enter Tryz.func192,Tryz.ntmps192
 go_wp2
 go_ret
 exact⟨rfl,rfl⟩
theorem zle (n m:Nat)(w:World):Calls Tryz.prog 165 #[.int .i64 (n:Int),.int .i64 (m:Int)] w (λe w'=>e=.returned (.int .i64 (cmpN n m))/\w=w'):=by
 have H1:=lh9 (zjE (n:Int) w)
 have H2:=lh9 (zjE (m:Int) w)
 unfold cmpN
 by_cases h1:n<m
 ·have hd:decide ((n:Int)<(m:Int))=true:=decide_eq_true (by omega)
  have hd':decide (n<m)=true:=decide_eq_true (by omega)
  rw [if_pos h1]
  go_enter Tryz.func165,Tryz.ntmps165
  go_wp2_with fail
  refine H1.out.mono ?_
  rintro e w1 ⟨rfl,rfl⟩
  go_wp2_with fail
  refine H2.out.mono ?_
  rintro e w1 ⟨rfl,rfl⟩
  go_wp2
  go_ret
  exact⟨rfl,rfl⟩
 ·have hd:decide ((n:Int)<(m:Int))=false:=decide_eq_false (by omega)
  have hd':decide (n<m)=false:=decide_eq_false (by omega)
  rw [if_neg h1]
  by_cases h2:n=m
  ·rw [if_pos h2]
   have hd2:decide ((m:Int)<(n:Int))=false:=decide_eq_false (by omega)
   have hd3:decide ((n:Int)>(m:Int))=false:=decide_eq_false (by omega)
   have hd4:decide (m<n)=false:=decide_eq_false (by omega)
   clear h1 h2
   go_enter Tryz.func165,Tryz.ntmps165
   go_wp2_with fail
   refine H1.out.mono ?_
   rintro e w1 ⟨rfl,rfl⟩
   go_wp2_with fail
   refine H2.out.mono ?_
   rintro e w1 ⟨rfl,rfl⟩
   go_wp2
   go_ret
   exact⟨rfl,rfl⟩
  ·rw [if_neg h2]
   have hd2:decide ((m:Int)<(n:Int))=true:=decide_eq_true (by omega)
   have hd3:decide ((n:Int)>(m:Int))=true:=decide_eq_true (by omega)
   have hd4:decide (m<n)=true:=decide_eq_true (by omega)
   clear h1 h2
   go_enter Tryz.func165,Tryz.ntmps165
   go_wp2_with fail
   refine H1.out.mono ?_
   rintro e w1 ⟨rfl,rfl⟩
   go_wp2_with fail
   refine H2.out.mono ?_
   rintro e w1 ⟨rfl,rfl⟩
   go_wp2
   go_ret
   exact⟨rfl,rfl⟩
section
variable {K K':Nat}{xs ys:List Rat}{A B:oA9}{n n' c d:Nat}{w:World}
theorem zpI {z:Int}(hz:zeF xs ys=z)(hT:zai w)(ha:zaC w A n c xs)(hb:zaC w B n' d ys)(hx:zar K xs)(hy:zar K' ys)(hn:n<=1073741824:=by omega)(hn':n'<=1073741824:=by omega)(hK:K<=67108864:=by omega)(hK':K'<=67108864:=by omega):
  Calls Tryz.prog 115 #[.slice A n c,.slice B n' d] w (zcf w z):=by
 have hla:=ha.len
 have hlb:=hb.len
 have HLA:=lh9 hla
 have HLB:=lh9 hlb
 have HZ:=lh9 hz
 have HSX:Hid (∀i,i<n->SzQ K (xs.getD i 0)):=λi hi=>hx.at_ (by omega)
 have HSY:Hid (∀i,i<n'->SzQ K' (ys.getD i 0)):=λi hi=>hy.at_ (by omega)
 unfold zcf
 have HA:=lh9 ha
 have HB9:=lh9 hb
 have HT:=lh9 (λw' (hb:Below w.heap.size w w')=>hT.on hb)
 clear hT ha hb hx hy hla hlb hz
 have hB:=Below.refl w.heap.size w
 have i0:(0:Int)<=(n:Int):=by omega
 obtain⟨N,hN⟩:∃N,min n n'=N:=⟨_,rfl⟩
 have hNn:N<=n:=by omega
 have hNm:N<=n':=by omega
 have HN:=lh9 hN
 have hmn1:min (n:Int) (n':Int)=(N:Int):=by omega
 have hmn2:(if (n':Int)<(n:Int) then(n':Int) else(n:Int))=(N:Int):=by split<;>omega
 have hmn3:(if n'<n then(n':Int) else(n:Int))=(N:Int):=by split<;>omega
 clear hN
 go_enter Tryz.func115,Tryz.ntmps115
 go_wp2_with fail
 clear hmn1 hmn2 hmn3
 go_loopg [11] (N+1) (λg ix wr=>∃(k:Nat),k<=N/\N<g+k/\ix=.int .i64 k/\Hid (zeF (xs.drop k) (ys.drop k)=z)/\Below w.heap.size w wr)
 case atStart=>exact⟨0,Nat.zero_le _,by omega,rfl,HZ,hB⟩
 case round=>
  clear hB
  obtain⟨k,hkn,hg,rfl,hz0,hB⟩:=hrel
  by_cases hlt:k<N
  ·have hltn:k<n:=by omega
   have hltm:k<n':=by omega
   obtain⟨ad,b1,B1,m1,d1,E1,u1,v1,rfl,-,hc0,hc1,hc2,hx⟩:=HA.out.get hB hltn
   obtain⟨ae,b2,B2,m2,d2,E2,u2,v2,rfl,-,he0,he1,he2,hy⟩:=HB9.out.get hB hltm
   have hd1:decide ((k:Int)<(N:Int))=true:=decide_eq_true (by omega)
   have i1:(0:Int)<=(k:Int):=by omega
   have i2:(k:Int)<(n:Int):=by omega
   have i3:(k:Int)<(n':Int):=by omega
   have HX:=lh9 hx
   have HY:=lh9 hy
   have HB1:=lh9 hB
   have hlx:k<xs.length:=by have:=HLA.out;omega
   have hly:k<ys.length:=by have:=HLB.out;omega
   clear hx hy hB
   by_cases h0:xs.getD k 0=ys.getD k 0
   ·have HQ:=lh9 (decide_eq_true h0)
    have HZ1:Hid (zeF (xs.drop (k+1)) (ys.drop (k+1))=z):=by
     show _=_
     rw [<-zij hlx hly h0];exact hz0.out
    clear h0 hlx hly
    go_wp2_with fail
    have hBw:=(Below.refl wr.heap.size wr).drew
    refine rg (csc hc0 (csc hc1 (csc hc2 (csc he0 (csc he1 (csc he2 csn)))))) (λhHeld=>?_)
    refine tk 0 ?_
    refine tk 1 ?_
    refine tk 2 ?_
    refine tk 3 ?_
    refine tk 4 ?_
    refine tk 5 ?_
    refine tk 6 ?_
    refine tk 7 ?_
    refine rc 8 (λKK hK9=>?_)
    go_simp
    (with_reducible refine(q_same HQ.out (HT.out _ (zaa HB1.out hBw)) (HX.out.below hBw) (HY.out.below hBw) (HSX.out k hltn) (HSY.out k hltm) hK hK').mono ?_);rintro e wa ⟨rfl,hb⟩;have hBw:=zaa hBw hb;refine hK9.out _ _ (Cs.below hHeld hb) (λhHeld=>?_);clear hK9 KK hb
    refine tk 9 ?_
    refine rdn ?_
    have HB2:=lh9 (zaa HB1.out hBw)
    clear hHeld hBw hc0 hc1 hc2 he0 he1 he2 HX HY HB1
    go_wp2
    go_roundg (N - k)
    case measure=>omega
    case rel=>exact⟨k+1,by omega,by omega,by go_num,HZ1,HB2.out⟩
   ·have HQ:=lh9 (decide_eq_false h0)
    have HF:Hid (zgb (xs.getD k 0) (ys.getD k 0)=z):=by
     show _=_
     rw [<-zhF hlx hly h0];exact hz0.out
    clear h0 hlx hly
    go_wp2_with fail
    have hBw:=(Below.refl wr.heap.size wr).drew
    refine rg (csc hc0 (csc hc1 (csc hc2 (csc he0 (csc he1 (csc he2 csn)))))) (λhHeld=>?_)
    refine tk 0 ?_
    refine tk 1 ?_
    refine tk 2 ?_
    refine tk 3 ?_
    refine tk 4 ?_
    refine tk 5 ?_
    refine tk 6 ?_
    refine tk 7 ?_
    refine rc 8 (λKK hK9=>?_)
    go_simp
    (with_reducible refine(q_same HQ.out (HT.out _ (zaa HB1.out hBw)) (HX.out.below hBw) (HY.out.below hBw) (HSX.out k hltn) (HSY.out k hltm) hK hK').mono ?_);rintro e wa ⟨rfl,hb⟩;have hBw:=zaa hBw hb;refine hK9.out _ _ (Cs.below hHeld hb) (λhHeld=>?_);clear hK9 KK hb
    refine tk 9 ?_
    refine rdn ?_
    have HB2:=lh9 (zaa HB1.out hBw)
    have HX2:=lh9 (HX.out.below hBw)
    have HY2:=lh9 (HY.out.below hBw)
    obtain⟨c0,c1,c2,e0,e1,e2,-⟩:=hHeld
    clear hBw hc0 hc1 hc2 he0 he1 he2 HX HY HB1
    go_wp2_with fail
    have hBw:=(Below.refl wa.heap.size wa).drew
    refine rg (csc c0 (csc c1 (csc c2 (csc e0 (csc e1 (csc e2 csn)))))) (λhHeld=>?_)
    refine tk 0 ?_
    refine tk 1 ?_
    refine tk 2 ?_
    refine tk 3 ?_
    refine tk 4 ?_
    refine tk 5 ?_
    refine tk 6 ?_
    refine tk 7 ?_
    refine rc 8 (λKK hK9=>?_)
    go_simp
    (with_reducible refine(zcg HF.out (q_cmp (HT.out _ (zaa HB2.out hBw)) (HX2.out.below hBw) (HY2.out.below hBw) (HSX.out k hltn) (HSY.out k hltm) hK hK')).mono ?_);rintro e wb ⟨rfl,hb⟩;have hBw:=zaa hBw hb;refine hK9.out _ _ (Cs.below hHeld hb) (λhHeld=>?_);clear hK9 KK hb
    refine tk 9 ?_
    refine rdn ?_
    have HB3:=lh9 (zaa HB2.out hBw)
    clear hHeld hBw c0 c1 c2 e0 e1 e2
    go_wp2
    go_ret
    exact⟨rfl,HB3.out⟩
  ·have hk:k=N:=by omega
   subst hk
   have hd1:decide ((k:Int)<(k:Int))=false:=by simp
   have HF:Hid (cmpN n n'=z):=by
    have h1:=HLA.out
    have h2:=HLB.out
    have h3:=HN.out
    have h4:=hz0.out
    rw [cmpV_end (by rw [h1,h2];exact h3.symm),h1,h2] at h4
    exact h4
   have HB2:=lh9 hB
   have H1:=lh9 (zle n n' wr)
   rw [HF.out] at H1
   clear hB
   go_wp2_with fail
   refine H1.out.mono ?_
   rintro e w1 ⟨rfl,rfl⟩
   go_wp2
   go_ret
   exact⟨rfl,HB2.out⟩
theorem zeN {t:Bool}(e:decide (xs=ys)=t)(hT:zai w)(ha:zaC w A n c xs)(hb:zaC w B n' d ys)(hx:zar K xs)(hy:zar K' ys)(hn:n<=1073741824:=by omega)(hn':n'<=1073741824:=by omega)(hK:K<=67108864:=by omega)(hK':K'<=67108864:=by omega):
  Calls Tryz.prog 50 #[.slice A n c,.slice B n' d] w (λe w'=>e=.returned (.bool t)/\Below w.heap.size w w'):=by
 obtain⟨z,hz⟩:∃z,zeF xs ys=z:=⟨_,rfl⟩
 have H:=lh9 (zpI hz hT ha hb hx hy hn hn' hK hK')
 have ht:(z==0)=t:=by
  rw [<-e,<-hz]
  by_cases h:xs=ys
  ·rw [decide_eq_true h,(zkh xs ys).2 h];rfl
  ·rw [decide_eq_false h,beq_eq_false_iff_ne]
   exact λh9=>h ((zkh xs ys).1 h9)
 clear hz hT ha hb hx hy e
 have HE:=lh9 ht
 clear ht
 go_enter Tryz.func50,Tryz.ntmps50
 go_wp2_with fail
 refine H.out.mono ?_
 rintro e w1 ⟨rfl,hb⟩
 go_wp2
 go_ret
 exact⟨by rw [<-HE.out];rfl,hb⟩
end
section
variable {w:World}{g:Nat}{st:ESt}{rd:Rat}{A:oA9}{n cA:Nat}{B:oA9}{k cB:Nat}{x0 x1 x2 y0 y1 y2:Value}
theorem ElS.cells (h:ElS w g st rd A n cA B k cB x0 x1 x2 y0 y1 y2):w.cell? ⟨g,0,none⟩=some (.slice A n cA)/\w.cell? ⟨g,1,none⟩=some (.slice B k cB)/\w.cell? ⟨g,2,none⟩=some x0/\w.cell? ⟨g,3,none⟩=some x1/\w.cell? ⟨g,4,none⟩=some x2/\w.cell? ⟨g,5,none⟩=some y0/\w.cell? ⟨g,6,none⟩=some y1/\w.cell? ⟨g,7,none⟩=some y2:=
 ⟨h.blk.cell 0,h.blk.cell 1,h.blk.cell 2,h.blk.cell 3,h.blk.cell 4,h.blk.cell 5,h.blk.cell 6,h.blk.cell 7⟩
theorem zkk {K m dr dy c:Nat}{R Y:oA9}{row by_:List Rat}(hT:zai w)(hE:ElS w g st rd A n cA B k cB x0 x1 x2 y0 y1 y2)(hr:zaC w R m dr row)(hy:zaC w Y m dy by_)(hc:c<m)(zr:zar K row)(zy:zar K by_)(zp:SzQ K st.p)(hp:st.p≠0)(hm:m<=1073741824:=by omega)(hK:4*K+1<=33554432:=by omega):
  Calls Tryz.prog 178 #[.pointer (some ⟨g,0,none⟩),.slice R m dr,.slice Y m dy,.int .i64 (c:Int)] w (zea w m (zdb st.p row by_ c)):=by
 obtain⟨b0,A0,n0,c0,E0,k0,f0,rfl,rfl,rfl,hpr⟩:=hE.lead
 have HP:=lh9 (λw' (hb:Below w.heap.size w w')=>hpr.below hb)
 have HC:=lh9 (λw' (hb:Below w.heap.size w w')=>(hE.below hb).cells)
 have HT:=lh9 (λw' (hb:Below w.heap.size w w')=>hT.on hb)
 have HR:=lh9 (λw' (hb:Below w.heap.size w w')=>hr.keep hb)
 have HY:=lh9 (λw' (hb:Below w.heap.size w w')=>hy.keep hb)
 have HS1:=lh9 (zy.at_ (k:=c) (by rw [hy.len];exact hc))
 have HS2:=lh9 (zr.at_ (k:=c) (by rw [hr.len];exact hc))
 have HZR:=lh9 zr
 have HZY:=lh9 zy
 have HZP:=lh9 zp
 have HNP:=lh9 hp
 obtain⟨ady,b1,B1,m1,d1,E1,u1,v1,rfl,-,h0,h1,h2,hyx⟩:=hy.get (Below.refl _ _) hc
 obtain⟨adr,b2,B2,m2,d2,E2,u2,v2,rfl,-,h3,h4,h5,hrx⟩:=hr.get (Below.refl _ _) hc
 have HX1:=lh9 (λw' (hb:Below w.heap.size w w')=>hyx.below hb)
 have HX2:=lh9 (λw' (hb:Below w.heap.size w w')=>hrx.below hb)
 have i1:(0:Int)<=(c:Int):=by omega
 have i2:(c:Int)<(m:Int):=by omega
 have i3:c<m:=hc
 have HQ:Hid (zdb st.p row by_ c=zaH st.p⁻¹ (zho (zaH (by_.getD c 0) row) (-row.getD c 0) by_)):=rfl
 rw [HQ.out]
 generalize by_.getD c 0=yc at*
 generalize row.getD c 0=rc9 at*
 unfold zea
 clear hT hE hr hy zr zy zp hp hpr hyx hrx hc HQ
 go_enter Tryz.func178,Tryz.ntmps178
 go_wp2_with fail
 have HB:=lh9 ((Below.refl w.heap.size w).drew)
 refine rg (csc h0 (csc h1 (csc h2 (csc h3 (csc h4 (csc h5 csn)))))) (λhHeld=>?_)
 clear h0 h1 h2 h3 h4 h5
 generalize w.drew=D at*
 refine tk 0 ?_
 refine tk 1 ?_
 refine tk 2 ?_
 refine tk 3 ?_
 refine tk 4 ?_
 refine tk 6 ?_
 refine tk 7 ?_
 refine tk 8 ?_
 refine tk 9 ?_
 refine tk 11 ?_
 refine rc 5 (λKK hK9=>?_)
 go_simp
 (with_reducible refine(zbs (HT.out _ HB.out) (HX1.out _ HB.out) (HR.out _ HB.out) HS1.out HZR.out).mono ?_)
 rintro eo w1 ⟨g1,rfl,hg1,ho1,hb⟩
 refine hK9.out _ _ (Cs.below hHeld hb) (λhHeld=>?_)
 clear hK9 KK
 have HB:=lh9 (zaa HB.out hb)
 have HO1:=lh9 (zaI ho1)
 clear hb ho1 hg1
 refine rc 10 (λKK hK9=>?_)
 go_simp
 (with_reducible refine(zkI rc9 b2 B2 m2 d2 E2 u2 v2 _ (HT.out _ HB.out) (HX2.out _ HB.out) (HS2.out.fit (HX2.out _ HB.out) (by omega))).mono ?_)
 rintro eo w2 ⟨b3,A3,n3,c3,E3,k3,f3,rfl,hw3,hb⟩
 refine hK9.out _ _ (Cs.below hHeld hb) (λhHeld=>?_)
 clear hK9 KK
 have HB:=lh9 (zaa HB.out hb)
 have HO1:=lh9 (HO1.out.keep hb)
 have HN:=lh9 hw3
 clear hb hw3
 refine rc 12 (λKK hK9=>?_)
 go_simp
 (with_reducible refine(vec_addt (HT.out _ HB.out) HO1.out HN.out (HY.out _ HB.out) (zar.scale HS1.out HZR.out) HS2.out.neg HZY.out).mono ?_)
 rintro eo w3 ⟨g4,rfl,hg4,ho4,hb⟩
 refine hK9.out _ _ (Cs.below hHeld hb) (λhHeld=>?_)
 clear hK9 KK
 have HB:=lh9 (zaa HB.out hb)
 have HO4:=lh9 (zaI ho4)
 have HZ4:Hid (zar ((K+K)+(K+K)+1) (zho (zaH yc row) (-rc9) by_)):=zar.addT (zar.scale HS1.out HZR.out) HS2.out.neg HZY.out
 clear hb ho4 hg4 HO1 HN
 refine tk 13 ?_
 refine tk 14 ?_
 refine tk 15 ?_
 refine tk 16 ?_
 refine tk 17 ?_
 refine rdn ?_
 clear hHeld
 obtain⟨-,-,p2,p3,p4,-⟩:=HC.out _ HB.out
 go_wp2_with fail
 clear p2 p3 p4
 (with_reducible refine(zhU st.p b0 A0 n0 c0 E0 k0 f0 _ (HT.out _ HB.out) (HP.out _ HB.out) (HZP.out.fit (HP.out _ HB.out) (by omega)) HNP.out).mono ?_)
 rintro eo w5 ⟨b5,A5,n5,c5,E5,k5,f5,rfl,hw5,hb⟩
 have HB:=lh9 (zaa HB.out hb)
 have HO4:=lh9 (HO4.out.keep hb)
 obtain⟨bx1,bx2,-⟩:=zax w5 53 #[.bool b5,.slice A5 n5 c5,.slice E5 k5 f5]
 obtain⟨p0,p1,p2⟩:=bx2.c3
 have HI:=lh9 (hw5.below bx1)
 have HB:=lh9 (zaa HB.out bx1)
 have HO4:=lh9 (HO4.out.keep bx1)
 clear hb hw5 bx1 bx2
 go_wp2_with fail
 clear p0 p1 p2
 generalize w5.alloc (.cells #[.bool b5,.slice A5 n5 c5,.slice E5 k5 f5] 53)=W6 at*
 (with_reducible refine(zbs (HT.out _ HB.out) HI.out HO4.out HZP.out.inv HZ4.out).mono ?_)
 rintro eo w7 ⟨g7,rfl,hg7,ho7,hb⟩
 have HB2:=lh9 (zaa HB.out hb)
 have HG7:w.heap.size<=g7:=Nat.le_trans HB.out.size hg7
 have HO7:=lh9 ho7
 clear hb ho7 hg7 HB HO4 HI
 go_wp2
 go_ret
 exact⟨g7,rfl,HG7,HO7.out,HB2.out⟩
end
