/- What this claim leans on. -/
import Derived.Test.YtlgnacmgepnamaaGreatDoorKMRow
namespace Go.Proofs.YtlgnacmgepnamaaGreatDoor
open Go Go.RowKit
set_option maxHeartbeats 16000000
set_option maxRecDepth 100000
set_option linter.unusedVariables false
set_option linter.unusedSimpArgs false
theorem gq0 {w w':World}{r:Rat}{b:Bool}{A E:oA9}{n c k f:Nat}(h:zan w' r b A n c E k f)(hb:Below w.heap.size w w'):zaJ w r (.returned (.agg #[.bool b,.slice A n c,.slice E k f])) w':=⟨_,_,_,_,_,_,_,rfl,h,hb⟩
section
variable {A:oA9}{n c m:Nat}{M:List (List Rat)}{w:World}
theorem en_new1:∀(args:Array Value) (w':World),Sem.run Tryz.prog (callFunc 53 args) w'=.ok (.enter 53 args) w':=Go.Proofs.enters_of Tryz.func53 (by kernel_rfl) rfl
theorem cl_new (i j:Int):Calls Tryz.prog 53 #[.int .i64 i,.int .i64 j] w (zaJ w 0):=by
 obtain⟨bx1,bx2,bz⟩:=zaA w 48 #[.bool false,.slice none 0 0,.slice none 0 0]
 obtain⟨r0,r1,r2⟩:=bx2.c3
 have HG:=lh9 (gq0 (zdK _) bx1)
 clear bx1 bx2 bz
 go_enter Tryz.func53,Tryz.ntmps53
 go_wp2
 refine bodyPost_ret (v:=.agg #[.bool false,.slice none 0 0,.slice none 0 0]) (by simp [results,Tryz.results53,go_sem,r0,r1,r2]) rfl ?_
 exact HG.out
theorem en_one1:∀(args:Array Value) (w':World),Sem.run Tryz.prog (callFunc 55 args) w'=.ok (.enter 55 args) w':=Go.Proofs.enters_of Tryz.func55 (by kernel_rfl) rfl
theorem cl_one (hT:zal w)(i j:Nat):Calls Tryz.prog 55 #[.int .i64 (i:Int),.int .i64 (j:Int)] w (zaJ w (if i=j then 1 else 0)):=by
 obtain⟨bx1,bx2,bz⟩:=zaA w 48 #[.bool false,.slice none 0 0,.slice none 0 0]
 by_cases hij:i=j
 ·have e0:((i:Int)==(j:Int))=true:=by rw [beq_iff_eq];omega
  rw [if_pos hij]
  have HT:=lh9 (hT.on bx1)
  have HB:=lh9 bx1
  have HK:=lh9 bx2
  clear hij bx1 bx2 bz hT
  go_enter Tryz.func55,Tryz.ntmps55
  go_wp2_with fail
  (with_reducible refine(zhy 1 _ HT.out (by decide) (by decide)).mono ?_)
  rintro e w3 ⟨b3,A3,n3,c3,E3,k3,f3,rfl,hw3,hb⟩
  have hk2:=zae hb HK.out
  obtain⟨sc0,sf0,sc1,sf1,sc2,sf2⟩:=st3 hk2 (.bool b3) (.slice A3 n3 c3)
  obtain⟨r0,r1,r2⟩:=(sn3 hk2 (.bool b3) (.slice A3 n3 c3) (.slice E3 k3 f3)).c3
  have HG:Hid (zaJ w 1 _ _):=gq3 (r:=1) hw3 hk2 (zac HB.out hb) (Nat.le_refl _)
  clear hb hk2 hw3 HB HK HT
  go_wp2
  refine bodyPost_ret (v:=.agg #[.bool b3,.slice A3 n3 c3,.slice E3 k3 f3]) (by simp [results,Tryz.results55,go_sem,r0,r1,r2]) rfl ?_
  exact HG.out
 ·have e0:((i:Int)==(j:Int))=false:=by rw [beq_eq_false_iff_ne];omega
  rw [if_neg hij]
  obtain⟨r0,r1,r2⟩:=bx2.c3
  have HG:=lh9 (gq0 (zdK _) bx1)
  clear bx1 bx2 bz hij
  go_enter Tryz.func55,Tryz.ntmps55
  go_wp2
  refine bodyPost_ret (v:=.agg #[.bool false,.slice none 0 0,.slice none 0 0]) (by simp [results,Tryz.results55,go_sem,r0,r1,r2]) rfl ?_
  exact HG.out
theorem zmL:∀(args:Array Value) (w':World),Sem.run Tryz.prog (callFunc 76 args) w'=.ok (.enter 76 args) w':=Go.Proofs.enters_of Tryz.func76 (by kernel_rfl) rfl
theorem zoK {g i j:Nat}(h:zaI w A n c m M)(hk:Blk w g 28 #[.slice A n c,.int .i64 (m:Int)])(hi:i<n)(hj:j<m):Calls Tryz.prog 76 #[.int .i64 (j:Int),.int .i64 (i:Int),.pointer (some ⟨g,0,none⟩)] w (zaJ w (atM M i j)):=by
 obtain⟨bx1,bx2,bz⟩:=zaA w 48 #[.bool false,.slice none 0 0,.slice none 0 0]
 obtain⟨ad,B,d,rfl,-,hc,ae,b1,B1,m1,d1,E1,u1,v1,rfl,-,h0,h1,h2,hq⟩:=h.place (Below.refl _ w) hi hj
 obtain⟨g0,g1⟩:=(zae bx1 hk).c2
 have hc:=zad bx1 hc
 have h0:=zad bx1 h0
 have h1:=zad bx1 h1
 have h2:=zad bx1 h2
 have i1:(0:Int)<=(i:Int):=by omega
 have i2:(i:Int)<(n:Int):=by omega
 have i3:(0:Int)<=(j:Int):=by omega
 have i4:(j:Int)<(m:Int):=by omega
 obtain⟨by1,by2,-⟩:=zaA w 48 #[.bool b1,.slice B1 m1 d1,.slice E1 u1 v1]
 obtain⟨r0,r1,r2⟩:=by2.c3
 have HG:=lh9 (gq0 (hq.below by1) by1)
 clear hq bx1 bx2 bz by1 by2 h hk
 go_enter Tryz.func76,Tryz.ntmps76
 go_wp2
 refine bodyPost_ret (v:=.agg #[.bool b1,.slice B1 m1 d1,.slice E1 u1 v1]) (by simp [results,Tryz.results76,go_sem,r0,r1,r2]) rfl ?_
 exact HG.out
theorem en_of2:∀(args:Array Value) (w':World),Sem.run Tryz.prog (callFunc 86 args) w'=.ok (.enter 86 args) w':=Go.Proofs.enters_of Tryz.func86 (by kernel_rfl) rfl
theorem cl_of {gs i j:Nat}{Q:oA9}{q:Nat}(h:zaF (zaB zan) w Q n M)(hd:zcH M n m)(hk:Blk w gs 26 #[.slice Q n q])(hi:i<n)(hj:j<m):Calls Tryz.prog 86 #[.int .i64 (i:Int),.int .i64 (j:Int),.pointer (some ⟨gs,0,none⟩)] w (zaJ w (atM M i j)):=by
 obtain⟨bx1,bx2,bz⟩:=zaA w 48 #[.bool false,.slice none 0 0,.slice none 0 0]
 obtain⟨ad,B,d,rfl,-,hc,hv⟩:=h.get (zay zaq) (Below.refl _ w) hi (hd.row hi)
 obtain⟨ae,b1,B1,m1,d1,E1,u1,v1,rfl,-,h0,h1,h2,hq⟩:=zaK.get hv (Below.refl _ w) hj
 have hc:=zad bx1 hc
 have h0:=zad bx1 h0
 have h1:=zad bx1 h1
 have h2:=zad bx1 h2
 have g0:=(zae bx1 hk).c1
 have i1:(0:Int)<=(i:Int):=by omega
 have i2:(i:Int)<(n:Int):=by omega
 have i3:(0:Int)<=(j:Int):=by omega
 have i4:(j:Int)<(m:Int):=by omega
 obtain⟨by1,by2,-⟩:=zaA w 48 #[.bool b1,.slice B1 m1 d1,.slice E1 u1 v1]
 obtain⟨r0,r1,r2⟩:=by2.c3
 have HG:=lh9 (gq0 (hq.below by1) by1)
 clear hq bx1 bx2 bz by1 by2 h hk hv hd
 go_enter Tryz.func86,Tryz.ntmps86
 go_wp2
 refine bodyPost_ret (v:=.agg #[.bool b1,.slice B1 m1 d1,.slice E1 u1 v1]) (by simp [results,Tryz.results86,go_sem,r0,r1,r2]) rfl ?_
 exact HG.out
theorem en_of1:∀(args:Array Value) (w':World),Sem.run Tryz.prog (callFunc 84 args) w'=.ok (.enter 84 args) w':=Go.Proofs.enters_of Tryz.func84 (by kernel_rfl) rfl
theorem zoJ {gc k:Nat}{V:oA9}{cv:Nat}{z:Int}(hk:Blk w gc 3 #[.int .i64 z]):Calls Tryz.prog 84 #[.slice V k cv,.pointer (some ⟨gc,0,none⟩)] w (λe w'=>e=.returned (.bool (!decide ((k:Int)=z)))/\Below w.heap.size w w'):=by
 have g0:=hk.c1
 obtain⟨b,hb⟩:∃b,(!decide ((k:Int)=z))=b:=⟨_,rfl⟩
 have hb2:((k:Int) !=z)=b:=by rw [<-hb];by_cases q:(k:Int)=z<;>simp [q]
 rw [hb]
 clear hk hb
 go_enter Tryz.func84,Tryz.ntmps84
 go_wp2
 go_ret
 exact⟨rfl,Below.refl _ _⟩
theorem en_pick1:∀(args:Array Value) (w':World),Sem.run Tryz.prog (callFunc 87 args) w'=.ok (.enter 87 args) w':=Go.Proofs.enters_of Tryz.func87 (by kernel_rfl) rfl
theorem zmD {g:Nat}{z:Int}(hk:Blk w g 28 #[.slice A n c,.int .i64 (m:Int)]):Calls Tryz.prog 87 #[.int .i64 z,.pointer (some ⟨g,0,none⟩)] w (λe w'=>e=.returned (.bool (!inB z m))/\Below w.heap.size w w'):=by
 obtain⟨g0,g1⟩:=hk.c2
 have H:=λW=>lh9 (zik A n c m z W)
 clear hk
 go_enter Tryz.func87,Tryz.ntmps87
 go_wp2_with fail
 refine(H _).out.mono ?_
 rintro e w1 ⟨rfl,hb⟩
 have HB:=lh9 hb
 clear hb
 go_wp2
 go_ret
 exact⟨rfl,HB.out⟩
theorem en_pick2:∀(args:Array Value) (w':World),Sem.run Tryz.prog (callFunc 89 args) w'=.ok (.enter 89 args) w':=Go.Proofs.enters_of Tryz.func89 (by kernel_rfl) rfl
theorem cl_pick {g gs i j k q qc:Nat}{ap:Addr}(h:zaI w A n c m M)(hk:Blk w g 28 #[.slice A n c,.int .i64 (m:Int)])(hks:Blk w gs 63 #[.slice (some ap) q qc])(hz:w.cell? (ap.add j)=some (.int .i64 (k:Int)))(hi:i<n)(hj:j<q)(hk9:k<m):
  Calls Tryz.prog 89 #[.int .i64 (i:Int),.int .i64 (j:Int),.pointer (some ⟨g,0,none⟩),.pointer (some ⟨gs,0,none⟩)] w (zaJ w (atM M i k)):=by
 obtain⟨bx1,bx2,bz⟩:=zaA w 48 #[.bool false,.slice none 0 0,.slice none 0 0]
 obtain⟨ad,B,d,rfl,hl1,hc,ae,b1,B1,m1,d1,E1,u1,v1,rfl,hl2,h0,h1,h2,hq⟩:=h.place (Below.refl _ _) hi hk9
 have hl3:=hk.lt
 have hl4:=hks.lt
 have hl5:(ap.add j).block<w.heap.size:=World.block_lt_of_cell? w _ hz
 obtain⟨g0,g1⟩:=(zae bx1 hk).c2
 have y0:=(zae bx1 hks).c1
 have y1:=zad bx1 hz
 have z0:=zad bx1 hc
 have z1:=zad bx1 h0
 have z2:=zad bx1 h1
 have z3:=zad bx1 h2
 have hq1:=hq.below bx1
 have i1:(0:Int)<=(i:Int):=by omega
 have i2:(i:Int)<(n:Int):=by omega
 have i3:(0:Int)<=(j:Int):=by omega
 have i4:(j:Int)<(q:Int):=by omega
 have i5:(0:Int)<=(k:Int):=by omega
 have i6:(k:Int)<(m:Int):=by omega
 have HQ:=lh9 hq1
 have HB:=lh9 bx1
 have HK:=lh9 bx2
 clear h hk hks hz hc h0 h1 h2 hq hq1 bx1 bx2 bz
 go_enter Tryz.func89,Tryz.ntmps89
 go_wp2_with fail
 generalize w.alloc (.cells #[.bool false,.slice none 0 0,.slice none 0 0] 48)=W1 at*
 have hBw:=(Below.refl W1.heap.size W1).drew
 refine rg (csc g0 (csc z0 (csc y0 (csc y1 (csc z1 (csc z2 (csc z3 csn))))))) (λhHeld=>?_)
 clear g0 g1 z0 y0 y1 z1 z2 z3
 generalize W1.drew=D at*
 refine tk 0 ?_
 refine tk 1 ?_
 refine tk 2 ?_
 refine tk 3 ?_
 refine tk 4 ?_
 refine tk 5 ?_
 refine tk 6 ?_
 refine tk 7 ?_
 refine tk 8 ?_
 refine tk 9 ?_
 refine tk 10 ?_
 have kr:=zae hBw HK.out
 obtain⟨sc0,sf0,sc1,sf1,sc2,sf2⟩:=st3 kr (.bool b1) (.slice B1 m1 d1)
 obtain⟨r0,r1,r2⟩:=(sn3 kr (.bool b1) (.slice B1 m1 d1) (.slice E1 u1 v1)).c3
 have HG:=lh9 (gq3 (HQ.out.below hBw) kr (zac HB.out hBw) (by omega))
 refine rc 11 (λKK hK=>?_)
 go_simp
 refine hK.out _ _ ?_ (λhHeld=>?_)
 ·refine Cs.far hHeld (off3 _ _ _ _ _) ?_
  refine⟨?_,?_,?_,?_,?_,?_,?_,trivial⟩<;>(simp only [zao];simp only [zao] at hl5;omega)
 clear hK KK
 refine rdn ?_
 clear sc0 sf0 sc1 sf1 sc2 sf2 hHeld kr
 go_wp2
 refine bodyPost_ret (v:=.agg #[.bool b1,.slice B1 m1 d1,.slice E1 u1 v1]) (by simp [results,Tryz.results89,go_sem,r0,r1,r2]) rfl ?_
 exact HG.out
end
theorem zjx (z:Int)(w:World):Calls Tryz.prog 130 #[.int .i64 z] w (λe w'=>e=.returned (.bool false)/\w=w'):=by
 have h1:(z !=z)=false:=by simp
 go_enter Tryz.func130,Tryz.ntmps130
 go_wp2
 go_ret
 exact⟨rfl,rfl⟩
theorem zla (n m:Nat)(w:World):Calls Tryz.prog 102 #[.int .i64 (n:Int),.int .i64 (m:Int)] w (λe w'=>e=.returned (.int .i64 (cmpN n m))/\w=w'):=by
 have H1:=lh9 (zjx (n:Int) w)
 have H2:=lh9 (zjx (m:Int) w)
 unfold cmpN
 by_cases h1:n<m
 ·have hd:decide ((n:Int)<(m:Int))=true:=decide_eq_true (by omega)
  have hd':decide (n<m)=true:=decide_eq_true (by omega)
  rw [if_pos h1]
  go_enter Tryz.func102,Tryz.ntmps102
  go_wp2_with fail
  refine H1.out.mono ?_
  rintro e w1 ⟨rfl,rfl⟩
  go_wp2_with fail
  refine H2.out.mono ?_
  rintro e w1 ⟨rfl,rfl⟩
  go_wp2
  go_ret
  exact⟨rfl,rfl⟩
 ·have hd:decide ((n:Int)<(m:Int))=false:=decide_eq_false (by omega)
  have hd':decide (n<m)=false:=decide_eq_false (by omega)
  rw [if_neg h1]
  by_cases h2:n=m
  ·rw [if_pos h2]
   have hd2:decide ((m:Int)<(n:Int))=false:=decide_eq_false (by omega)
   have hd3:decide ((n:Int)>(m:Int))=false:=decide_eq_false (by omega)
   have hd4:decide (m<n)=false:=decide_eq_false (by omega)
   clear h1 h2
   go_enter Tryz.func102,Tryz.ntmps102
   go_wp2_with fail
   refine H1.out.mono ?_
   rintro e w1 ⟨rfl,rfl⟩
   go_wp2_with fail
   refine H2.out.mono ?_
   rintro e w1 ⟨rfl,rfl⟩
   go_wp2
   go_ret
   exact⟨rfl,rfl⟩
  ·rw [if_neg h2]
   have hd2:decide ((m:Int)<(n:Int))=true:=decide_eq_true (by omega)
   have hd3:decide ((n:Int)>(m:Int))=true:=decide_eq_true (by omega)
   have hd4:decide (m<n)=true:=decide_eq_true (by omega)
   clear h1 h2
   go_enter Tryz.func102,Tryz.ntmps102
   go_wp2_with fail
   refine H1.out.mono ?_
   rintro e w1 ⟨rfl,rfl⟩
   go_wp2_with fail
   refine H2.out.mono ?_
   rintro e w1 ⟨rfl,rfl⟩
   go_wp2
   go_ret
   exact⟨rfl,rfl⟩
section
variable {K K':Nat}{xs ys:List Rat}{A B:oA9}{n n' c d:Nat}{w:World}
theorem zpR {z:Int}(hz:zeu xs ys=z)(hT:zal w)(ha:zaK w A n c xs)(hb:zaK w B n' d ys)(hx:zaE K xs)(hy:zaE K' ys)(hn:n<=1073741824:=by omega)(hn':n'<=1073741824:=by omega)(hK:K<=67108864:=by omega)(hK':K'<=67108864:=by omega):
  Calls Tryz.prog 91 #[.slice A n c,.slice B n' d] w (zbK w z):=by
 have hla:=ha.len
 have hlb:=hb.len
 have HLA:=lh9 hla
 have HLB:=lh9 hlb
 have HZ:=lh9 hz
 have HSX:Hid (∀i,i<n->SzQ K (xs.getD i 0)):=λi hi=>hx.at_ (by omega)
 have HSY:Hid (∀i,i<n'->SzQ K' (ys.getD i 0)):=λi hi=>hy.at_ (by omega)
 unfold zbK
 have HA:=lh9 ha
 have HB9:=lh9 hb
 have HT:=lh9 (λw' (hb:Below w.heap.size w w')=>hT.on hb)
 clear hT ha hb hx hy hla hlb hz
 have hB:=Below.refl w.heap.size w
 have i0:(0:Int)<=(n:Int):=by omega
 obtain⟨N,hN⟩:∃N,min n n'=N:=⟨_,rfl⟩
 have hNn:N<=n:=by omega
 have hNm:N<=n':=by omega
 have HN:=lh9 hN
 have hmn1:min (n:Int) (n':Int)=(N:Int):=by omega
 have hmn2:(if (n':Int)<(n:Int) then(n':Int) else(n:Int))=(N:Int):=by split<;>omega
 have hmn3:(if n'<n then(n':Int) else(n:Int))=(N:Int):=by split<;>omega
 clear hN
 go_enter Tryz.func91,Tryz.ntmps91
 go_wp2_with fail
 clear hmn1 hmn2 hmn3
 go_loopg [11] (N+1) (λg ix wr=>∃(k:Nat),k<=N/\N<g+k/\ix=.int .i64 k/\Hid (zeu (xs.drop k) (ys.drop k)=z)/\Below w.heap.size w wr)
 case atStart=>exact⟨0,Nat.zero_le _,by omega,rfl,HZ,hB⟩
 case round=>
  clear hB
  obtain⟨k,hkn,hg,rfl,hz0,hB⟩:=hrel
  by_cases hlt:k<N
  ·have hltn:k<n:=by omega
   have hltm:k<n':=by omega
   obtain⟨ad,b1,B1,m1,d1,E1,u1,v1,rfl,-,hc0,hc1,hc2,hx⟩:=HA.out.get hB hltn
   obtain⟨ae,b2,B2,m2,d2,E2,u2,v2,rfl,-,he0,he1,he2,hy⟩:=HB9.out.get hB hltm
   have hd1:decide ((k:Int)<(N:Int))=true:=decide_eq_true (by omega)
   have i1:(0:Int)<=(k:Int):=by omega
   have i2:(k:Int)<(n:Int):=by omega
   have i3:(k:Int)<(n':Int):=by omega
   have HX:=lh9 hx
   have HY:=lh9 hy
   have HB1:=lh9 hB
   have hlx:k<xs.length:=by have:=HLA.out;omega
   have hly:k<ys.length:=by have:=HLB.out;omega
   clear hx hy hB
   by_cases h0:xs.getD k 0=ys.getD k 0
   ·have HQ:=lh9 (decide_eq_true h0)
    have HZ1:Hid (zeu (xs.drop (k+1)) (ys.drop (k+1))=z):=by
     show _=_
     rw [<-zhM hlx hly h0];exact hz0.out
    clear h0 hlx hly
    go_wp2_with fail
    have hBw:=(Below.refl wr.heap.size wr).drew
    refine rg (csc hc0 (csc hc1 (csc hc2 (csc he0 (csc he1 (csc he2 csn)))))) (λhHeld=>?_)
    refine tk 0 ?_
    refine tk 1 ?_
    refine tk 2 ?_
    refine tk 3 ?_
    refine tk 4 ?_
    refine tk 5 ?_
    refine tk 6 ?_
    refine tk 7 ?_
    refine rc 8 (λKK hK9=>?_)
    go_simp
    (with_reducible refine(q_same HQ.out (HT.out _ (zac HB1.out hBw)) (HX.out.below hBw) (HY.out.below hBw) (HSX.out k hltn) (HSY.out k hltm) hK hK').mono ?_);rintro e wa ⟨rfl,hb⟩;have hBw:=zac hBw hb;refine hK9.out _ _ (Cs.below hHeld hb) (λhHeld=>?_);clear hK9 KK hb
    refine tk 9 ?_
    refine rdn ?_
    have HB2:=lh9 (zac HB1.out hBw)
    clear hHeld hBw hc0 hc1 hc2 he0 he1 he2 HX HY HB1
    go_wp2
    go_roundg (N - k)
    case measure=>omega
    case rel=>exact⟨k+1,by omega,by omega,by go_num,HZ1,HB2.out⟩
   ·have HQ:=lh9 (decide_eq_false h0)
    have HF:Hid (zfL (xs.getD k 0) (ys.getD k 0)=z):=by
     show _=_
     rw [<-zho hlx hly h0];exact hz0.out
    clear h0 hlx hly
    go_wp2_with fail
    have hBw:=(Below.refl wr.heap.size wr).drew
    refine rg (csc hc0 (csc hc1 (csc hc2 (csc he0 (csc he1 (csc he2 csn)))))) (λhHeld=>?_)
    refine tk 0 ?_
    refine tk 1 ?_
    refine tk 2 ?_
    refine tk 3 ?_
    refine tk 4 ?_
    refine tk 5 ?_
    refine tk 6 ?_
    refine tk 7 ?_
    refine rc 8 (λKK hK9=>?_)
    go_simp
    (with_reducible refine(q_same HQ.out (HT.out _ (zac HB1.out hBw)) (HX.out.below hBw) (HY.out.below hBw) (HSX.out k hltn) (HSY.out k hltm) hK hK').mono ?_);rintro e wa ⟨rfl,hb⟩;have hBw:=zac hBw hb;refine hK9.out _ _ (Cs.below hHeld hb) (λhHeld=>?_);clear hK9 KK hb
    refine tk 9 ?_
    refine rdn ?_
    have HB2:=lh9 (zac HB1.out hBw)
    have HX2:=lh9 (HX.out.below hBw)
    have HY2:=lh9 (HY.out.below hBw)
    obtain⟨c0,c1,c2,e0,e1,e2,-⟩:=hHeld
    clear hBw hc0 hc1 hc2 he0 he1 he2 HX HY HB1
    go_wp2_with fail
    have hBw:=(Below.refl wa.heap.size wa).drew
    refine rg (csc c0 (csc c1 (csc c2 (csc e0 (csc e1 (csc e2 csn)))))) (λhHeld=>?_)
    refine tk 0 ?_
    refine tk 1 ?_
    refine tk 2 ?_
    refine tk 3 ?_
    refine tk 4 ?_
    refine tk 5 ?_
    refine tk 6 ?_
    refine tk 7 ?_
    refine rc 8 (λKK hK9=>?_)
    go_simp
    (with_reducible refine(zbz HF.out (q_cmp (HT.out _ (zac HB2.out hBw)) (HX2.out.below hBw) (HY2.out.below hBw) (HSX.out k hltn) (HSY.out k hltm) hK hK')).mono ?_);rintro e wb ⟨rfl,hb⟩;have hBw:=zac hBw hb;refine hK9.out _ _ (Cs.below hHeld hb) (λhHeld=>?_);clear hK9 KK hb
    refine tk 9 ?_
    refine rdn ?_
    have HB3:=lh9 (zac HB2.out hBw)
    clear hHeld hBw c0 c1 c2 e0 e1 e2
    go_wp2
    go_ret
    exact⟨rfl,HB3.out⟩
  ·have hk:k=N:=by omega
   subst hk
   have hd1:decide ((k:Int)<(k:Int))=false:=by simp
   have HF:Hid (cmpN n n'=z):=by
    have h1:=HLA.out
    have h2:=HLB.out
    have h3:=HN.out
    have h4:=hz0.out
    rw [cmpV_end (by rw [h1,h2];exact h3.symm),h1,h2] at h4
    exact h4
   have HB2:=lh9 hB
   have H1:=lh9 (zla n n' wr)
   rw [HF.out] at H1
   clear hB
   go_wp2_with fail
   refine H1.out.mono ?_
   rintro e w1 ⟨rfl,rfl⟩
   go_wp2
   go_ret
   exact⟨rfl,HB2.out⟩
theorem zeB {t:Bool}(e:decide (xs=ys)=t)(hT:zal w)(ha:zaK w A n c xs)(hb:zaK w B n' d ys)(hx:zaE K xs)(hy:zaE K' ys)(hn:n<=1073741824:=by omega)(hn':n'<=1073741824:=by omega)(hK:K<=67108864:=by omega)(hK':K'<=67108864:=by omega):
  Calls Tryz.prog 49 #[.slice A n c,.slice B n' d] w (λe w'=>e=.returned (.bool t)/\Below w.heap.size w w'):=by
 obtain⟨z,hz⟩:∃z,zeu xs ys=z:=⟨_,rfl⟩
 have H:=lh9 (zpR hz hT ha hb hx hy hn hn' hK hK')
 have ht:(z==0)=t:=by
  rw [<-e,<-hz]
  by_cases h:xs=ys
  ·rw [decide_eq_true h,(zkc xs ys).2 h];rfl
  ·rw [decide_eq_false h,beq_eq_false_iff_ne]
   exact λh9=>h ((zkc xs ys).1 h9)
 clear hz hT ha hb hx hy e
 have HE:=lh9 ht
 clear ht
 go_enter Tryz.func49,Tryz.ntmps49
 go_wp2_with fail
 refine H.out.mono ?_
 rintro e w1 ⟨rfl,hb⟩
 go_wp2
 go_ret
 exact⟨by rw [<-HE.out];rfl,hb⟩
end
