/- What this claim leans on. -/
import Derived.Test.YtcojjcjgbepicaaGreatDoorSESolM
namespace Go.Proofs.YtcojjcjgbepicaaGreatDoor
open Go Go.RowKit
set_option maxHeartbeats 16000000
set_option maxRecDepth 100000
set_option linter.unusedVariables false
set_option linter.unusedSimpArgs false
theorem zaM.pre12 {α:Type}{E:El α}{w:World}{A:oA9}{n c m:Nat}{xs:List α}(h:zaM E w A n c xs)(hm:m<=n):zaM E w A m c (xs.take m):=
 ⟨by rw [List.length_take,h.len];omega,Nat.le_trans hm h.fits,h.most,λi x hi=>h.num i x (by
  rw [List.getElem?_take] at hi
  split at hi
  ·exact hi
  ·cases hi)⟩
theorem elimSolves_core (z0:Nat)(A0:oA9)(n0 c0:Nat)(R0:RowV)(A1:oA9)(n1 c1:Nat)(L1:List (Int×Int))(A2:oA9)(n2 c2:Nat)(L2:List (Int×Int))(a3:Bool)(w:World)(hz0:z0<=255)(h0:zbc w A0 n0 c0 R0)(h1:zaT w A1 n1 c1 L1)(h2:zaT w A2 n2 c2 L2)(hT:zaj w):
  Calls Tryz.prog 7 #[.agg #[.int .u8 (z0:Int),.slice A0 n0 c0],.slice A1 n1 c1,.slice A2 n2 c2,.bool a3] w λe w'=>e=.returned (.bool true)/\Below w.heap.size w w':=by
 obtain⟨i1',hi1,hz10,hz11,hz12⟩:=info_parts zkF
 have HMB:=lh9 (λW (hb:Below w.heap.size w W)=>ziC (hT.on hb) (h1.below hb))
 have HMY:=lh9 (λW (hb:Below w.heap.size w W)=>ziD (hT.on hb) (h2.below hb))
 have HQ1:=lh9 (zoj h1)
 have HQ2:=lh9 (zoj h2)
 have HN1:Hid (n1<=1048576):=Nat.le_trans h1.fits h1.small
 have HN2:Hid ((zdx L2).length<=1048576):=by show _<=_;rw [zes,h2.len];exact Nat.le_trans h2.fits h2.small
 clear h1 h2
 have HMK:=lh9 (λW (hb:Below w.heap.size w W)=>znd (hT.on hb) hz0 (h0.below hb))
 have HZ:=lh9 (zlF (m:=z0%7) h0 (Nat.min_le_left n0 6))
 have HD:=lh9 (zix (z0%7) R0 (min n0 6))
 obtain⟨m,hm0⟩:∃m,z0%7=m:=⟨_,rfl⟩
 obtain⟨N,hN0⟩:∃N,min n0 6=N:=⟨_,rfl⟩
 have bm:m<=6:=by omega
 have bN:N<=6:=by omega
 rw [hm0,hN0] at HMK HZ HD
 obtain⟨X,hX0⟩:∃X,ziw m R0 N=X:=⟨_,rfl⟩
 rw [hX0] at HMK HZ HD
 clear hX0 hm0 hN0
 have HW:Hid (zbT 8 X):=(zbT.of_sz HZ.out HD.out).up (by omega)
 have HT:=lh9 (λw' (hb:Below w.heap.size w w')=>hT.on hb)
 clear hT h0 hz0
 go_enter Tryz.func7,Tryz.ntmps7
 obtain⟨bx1,bx2,-⟩:=zaw w 24 #[.int .u8 (z0:Int),.slice A0 n0 c0]
 have HB:=lh9 bx1
 have HK1:=lh9 bx2
 clear bx1 bx2
 go_wp2_with fail
 generalize w.alloc (.cells #[.int .u8 (z0:Int),.slice A0 n0 c0] 24)=W1 at*
 (with_reducible refine(zlO (HT.out _ HB.out)).mono ?_)
 rintro e W2 ⟨rfl,hb⟩
 have HB:=lh9 (zaa HB.out hb)
 obtain⟨p0,p1⟩:=(zab hb HK1.out).c2
 clear hb HK1
 go_wp2_with fail
 clear p0 p1
 (with_reducible refine(HMK.out _ HB.out).mono ?_)
 rintro e W3 ⟨A3,c3,rfl,hm3,-,hb⟩
 obtain⟨bx1,bx2,-⟩:=zaw W3 32 #[.slice A3 N c3,.int .i64 (m:Int)]
 have HB:=lh9 (zaa HB.out (zaa hb bx1))
 have HM:=lh9 (hm3.keep bx1)
 have HK3:=lh9 bx2
 obtain⟨p0,p1⟩:=HK3.out.c2
 clear hb bx1 bx2 hm3 HMK
 go_wp2_with fail
 generalize W3.alloc (.cells #[.slice A3 N c3,.int .i64 (m:Int)] 32)=W4 at*
 generalize W3.heap.size=q3 at*
 clear p0 p1
 (with_reducible refine(HMB.out _ HB.out).mono ?_)
 rintro e W5 ⟨A5,c5,rfl,hv5,-,hb⟩
 have HB:=lh9 (zaa HB.out hb)
 have HM:=lh9 (HM.out.keep hb)
 have HK3:=lh9 (zab hb HK3.out)
 have HV:=lh9 hv5
 clear hb hv5 HMB
 have HT:=lh9 (λw' (hb:Below W5.heap.size W5 w')=>HT.out w' (zaa HB.out hb))
 have HM:=lh9 (λw' (hb:Below W5.heap.size W5 w')=>HM.out.keep hb)
 have HK3:=lh9 (λw' (hb:Below W5.heap.size W5 w')=>zab hb HK3.out)
 have HMY:=lh9 (λw' (hb:Below W5.heap.size W5 w')=>HMY.out w' (zaa HB.out hb))
 have HBW:=lh9 (λw' (hb:Below W5.heap.size W5 w')=>zaa HB.out hb)
 have HB:=lh9 (Below.refl W5.heap.size W5)
 go_upto_if 30 with fail
 go_cut [10,11,31,32,33,34,35,36,37,38,39,40,41,42,43,44,45,46,47,48,49,50,51,52] (λs10 s11 s31 s32 s33 s34 s35 s36 s37 s38 s39 s40 s41 s42 s43 s44 s45 s46 s47 s48 s49 s50 s51 s52 wx=>∃(V:oA9) (k cv:Nat) (v:List Rat),s10=.slice V k cv/\zaC wx V k cv v/\Hid (zaq 19 v)/\Hid (a3=true->∃y:List Rat,y.length=m/\v=zcY X y)/\Hid (k<=1048576)/\Below W5.heap.size W5 wx)
 case first=>
  cases a3
  ·go_wp2
   go_meet
   exact⟨A5,n1,c5,zdx L1,rfl,HV.out,HQ1.out.up (by decide),λh=>absurd h (by decide),HN1,HB.out⟩
  ·go_wp2_with fail
   (with_reducible refine(HMY.out _ HB.out).mono ?_)
   rintro e W6 ⟨v6,vs6,rfl,hon6,hb⟩
   have HB:=lh9 (zaa HB.out hb)
   obtain⟨A6,c6,hsh6,-,-⟩:=hon6.shape
   clear HMY HV hb
   subst hsh6
   obtain⟨b6,hb6⟩:∃b,W5.heap.size=b:=⟨_,rfl⟩
   go_wp2_with fail
   have hB:=HB.out
   clear HB
   go_loopg [11] (m+1) (λg sl wr=>∃(ys:List Rat) (A:oA9) (c:Nat) (vs:List Value),sl=.slice A ys.length c/\m<g+ys.length/\ys.length<=1048576/\Hid (zaq 1 ys)/\zdC zah wr W5.heap.size 53 (.slice A ys.length c) ys vs/\Below W5.heap.size W5 wr)
   case atStart=>exact⟨_,_,_,_,rfl,by omega,HN2.out,HQ2,hon6,hB⟩
   case round=>
    clear hB hon6
    obtain⟨ys,A7,c7,vs7,rfl,hg,hys,hyz,hon,hB⟩:=hrel
    have HB:=lh9 hB
    have HON0:=lh9 hon
    have HYZ:=lh9 hyz.out
    obtain⟨p0,p1⟩:=(HK3.out _ HB.out).c2
    clear hB hon hyz
    obtain⟨k,hk⟩:∃k,ys.length=k:=⟨_,rfl⟩
    rw [hk] at hg hys HON0⊢
    have HLQ:=lh9 hk
    clear hk
    by_cases hlt:k<m
    ·have hd1:decide ((k:Int)<(m:Int))=true:=decide_eq_true (by omega)
     go_wp2_with fail
     (with_reducible refine(zbp A3 N c3 (m:Int) _).mono ?_)
     rintro e X0 ⟨rfl,hb⟩
     have HB:=lh9 (zaa HB.out hb)
     have HON0:=lh9 (HON0.out.below zaf hb)
     clear p0 p1
     clear hb
     go_wp2_with fail
     (with_reducible refine(zcI (k:Int) _ (HT.out _ HB.out) (by omega) (by omega)).mono ?_)
     rintro e w5 ⟨b5,B5,m5,d5,E5,u5,f5,rfl,hx5,hb⟩
     obtain⟨t1,t2,_⟩:=zaw w5 53 #[.bool b5,.slice B5 m5 d5,.slice E5 u5 f5]
     obtain⟨t20,t21,t22⟩:=t2.c3
     have hup:=zaa hb t1
     have hon:=zdC.below zaf HON0.out hup
     have HX:=lh9 (hx5.below t1)
     have HB:=lh9 (zaa HB.out hup)
     have hcell:∀j u,[Value.bool b5,.slice B5 m5 d5,.slice E5 u5 f5][j]?=some u->(w5.alloc (.cells #[.bool b5,.slice B5 m5 d5,.slice E5 u5 f5] 53)).cell? ((⟨w5.heap.size,0,none⟩:Addr).add j)=some u:=λj u hu=>by
      rw [zaK]
      match j,hu with
      |0,hu=>simp at hu;subst hu;exact t2.cell 0
      |1,hu=>simp at hu;subst hu;exact t2.cell 1
      |2,hu=>simp at hu;subst hu;exact t2.cell 2
     have HCELL:=lh9 hcell
     have HONE:Hid (∀u ∈ [Value.bool b5,.slice B5 m5 d5,.slice E5 u5 f5],u.oneCell'=true):=by intro u hu;simp at hu;rcases hu with rfl|rfl|rfl<;>rfl
     have HNN:Hid (∀u ∈ [Value.bool b5,.slice B5 m5 d5,.slice E5 u5 f5],zgZ u):=by intro u hu y z;simp at hu;rcases hu with rfl|rfl|rfl<;>(intro h9;cases h9)
     have HZN:Hid (∀u ∈(Value.agg #[.bool false,.slice none 0 0,.slice none 0 0]).cells.toList,zgZ u):=by intro u hu y z;simp [Value.cells] at hu;rcases hu with rfl|rfl<;>(intro h9;cases h9)
     have HBS:Hid (W5.heap.size<=(w5.alloc (.cells #[.bool b5,.slice B5 m5 d5,.slice E5 u5 f5] 53)).heap.size):=HB.out.size
     have hown:=hon.own
     rw [HLQ.out] at hown
     have HOWN:=lh9 hown
     have HNOU:=lh9 hon.nou
     have HON:=lh9 hon
     have HOB:=lh9 (λr (h:(Value.slice A7 k c7).ownBlock=some r)=>hon.own.lt r h)
     have HZ2:Hid (zaq 1 (ys++[((k:Int):Rat)])):=λx hx=>by
      rcases List.mem_append.1 hx with hx|hx
      ·exact HYZ.out x hx
      ·rw [List.mem_singleton.1 hx]
       exact int_sz12 (by omega) (by omega)
     clear hb hup hx5 hcell hon t1 t2 t20 t21 t22 hown
     go_wp2_with (at_builtin;go_loud (refine zcZ _ rfl (.tmp 38) (.tmp 42) 71 rfl W5.heap.size 53 i1' (.agg #[.bool false,.slice none 0 0,.slice none 0 0]) 3 56 Tryz.underlying71 hi1 hz10 hz11 hz12 rfl (by decide) (.slice A7 k c7) k vs7 rfl HOWN.out ⟨w5.heap.size,0,none⟩ 1 1 [.bool b5,.slice B5 m5 d5,.slice E5 u5 f5] rfl rfl HCELL.out HONE.out (by unfold maxLen;omega) (by omega) HBS.out HNOU.out HZN.out HNN.out ?_;intro v' w8 hown' hgrow hat hnou';have HON8:=lh9 (zdC.grow (n:=k+1) zaf HON.out HX.out hown' (by rw [HLQ.out]) hgrow hnou');have HB8:=lh9 (HB.out.grown hgrow HBS.out (λr hr=>(HOB.out r hr).1));clear hown' hgrow hat hnou'))
     obtain⟨A8,c8,hsh8,-,-⟩:=HON8.out.shape
     have hl8:(ys++[((k:Int):Rat)]).length=k+1:=by rw [List.length_append,HLQ.out];rfl
     have HON9:=lh9 HON8.out
     rw [hsh8] at HON9
     go_roundg (m - k)
     case measure=>omega
     case rel=>exact⟨ys++[((k:Int):Rat)],A8,c8,_,hsh8,by omega,by omega,HZ2,HON9.out,HB8.out⟩
    ·have hd1:decide ((k:Int)<(m:Int))=false:=decide_eq_false (by omega)
     go_wp2_with fail
     (with_reducible refine(zbp A3 N c3 (m:Int) _).mono ?_)
     rintro e X1 ⟨rfl,hb⟩
     have HB:=lh9 (zaa HB.out hb)
     have HON0:=lh9 (HON0.out.below zaf hb)
     clear p0 p1
     clear hb
     obtain⟨A9,c9,hsh9,hrow9,-⟩:=HON0.out.shape
     injection hsh9 with q1 q2 q3
     subst q1
     subst q3
     rw [HLQ.out] at hrow9
     have hkm:m<=k:=by omega
     have hkc:k<=c7:=hrow9.fits
     have HVY:Hid (zaC X1 A7 m c7 (ys.take m)):=zaM.pre12 hrow9 hkm
     have HYL:Hid ((ys.take m).length=m):=by show _=_;rw [List.length_take,HLQ.out];omega
     have HYT:Hid (zaq 1 (ys.take m)):=λx hx=>HYZ.out x (List.mem_of_mem_take hx)
     clear hrow9 HON0
     go_wp2_with fail
     obtain⟨p0,p1⟩:=(HK3.out _ HB.out).c2
     have hbd:=(Below.refl X1.heap.size X1).drew
     have HB:=lh9 (zaa HB.out hbd)
     have HVY:=lh9 (HVY.out.keep hbd)
     refine rg (csc p0 (csc p1 csn)) (λhHeld=>?_)
     clear p0 p1 hbd
     generalize X1.drew=D9 at*
     have j0:(0:Int)<=(m:Int):=by omega
     have j1:(m:Int)<=(c7:Int):=by omega
     refine tk 0 ?_
     refine tk 1 ?_
     refine tk 2 ?_
     refine rc 3 (λKK hK=>?_)
     go_simp
     (with_reducible refine(zbp A3 N c3 (m:Int) _).mono ?_)
     rintro e X2 ⟨rfl,hb⟩
     refine hK.out _ _ (Cs.below hHeld hb) (λhHeld=>?_)
     clear hK KK
     have HB:=lh9 (zaa HB.out hb)
     have HVY:=lh9 (HVY.out.keep hb)
     clear hb
     refine tk 4 (v:=.slice A7 m c7) ?_
     refine rc 5 (λKK hK=>?_)
     go_simp
     (with_reducible refine(zhi (K:=1) (K':=1) (HT.out _ HB.out) (HM.out _ HB.out) HVY.out HZ.out HYT.out (by decide) (by decide) (by omega)).mono ?_)
     rintro e X3 ⟨g10,rfl,-,ho10,hb⟩
     refine hK.out _ _ (Cs.below hHeld hb) (λhHeld=>?_)
     clear hK KK
     have HB:=lh9 (zaa HB.out hb)
     have HV10:=lh9 (zaE ho10)
     clear hb ho10
     refine tk 6 ?_
     refine tk 7 ?_
     refine tk 8 ?_
     refine tk 9 ?_
     refine rdn ?_
     clear hHeld
     go_wp2
     go_meet
     exact⟨_,_,_,_,rfl,HV10.out,(times_sz HZ.out HYT.out (k:=m) HD.out.cols HYL.out).up (by omega),λ_=>⟨_,HYL.out,rfl⟩,(by show N<=_;omega),HB.out⟩
 case rest=>
  obtain⟨V,k,cv,v,rfl,hv,hvz,hmade,hk6,hB⟩:=hcut
  obtain⟨wk,hwq⟩:∃x,x=wc:=⟨_,rfl⟩
  subst hwq
  have HB:=lh9 hB
  have HVB:=lh9 (λw' (hb:Below wk.heap.size wk w')=>hv.keep hb)
  have HVZ:=lh9 hvz.out
  have HMD:=lh9 hmade.out
  have hvl:v.length=k:=hv.len
  have hk9:k<=1048576:=hk6.out
  clear HV hB hv hvz hmade HMY HQ1 HQ2 HN1 HN2 hk6
  have HT:=lh9 (λw' (hb:Below wk.heap.size wk w')=>HT.out w' (zaa HB.out hb))
  have HM:=lh9 (λw' (hb:Below wk.heap.size wk w')=>HM.out w' (zaa HB.out hb))
  have HK3:=lh9 (λw' (hb:Below wk.heap.size wk w')=>HK3.out w' (zaa HB.out hb))
  have HBW:=lh9 (λw' (hb:Below wk.heap.size wk w')=>HBW.out w' (zaa HB.out hb))
  have HB:=lh9 (Below.refl wk.heap.size wk)
  obtain⟨p0,p1⟩:=(HK3.out _ HB.out).c2
  by_cases hkN:k=N
  ·subst hkN
   have hWZ:=zfB (K:=19) (n:=k) (m:=m) (p:=m+1) rfl HD.out (HZ.out.up (by decide)) hvl HVZ.out
   have HWW:Hid (zbT 153 (zaN k m (m+1) X v)):=(zbT.of_sz hWZ (zcP _ _ _ _ _)).up (by omega)
   have HWD:Hid (zaD 19 (zaN k m (m+1) X v)):=hWZ
   have HRANK:Hid (∀(w':World) (A:oA9) (c:Nat),zaj w'->zaW w' A k c m X->Hid (Calls Tryz.prog 31 #[.agg #[.slice A k c,.int .i64 (m:Int)]] w' (λeo w2=>eo=.returned (.int .i64 ((zaA m X).ld.length:Int))/\Below w'.heap.size w' w2))):=λw' A c ht h=>zjH ht h HZ.out HW.out (by decide) (by decide) (by decide)
   have HRED1:Hid (∀(w':World) (A:oA9) (c:Nat),zaj w'->zaW w' A k c m X->Hid (Calls Tryz.prog 40 #[.agg #[.slice A k c,.int .i64 (m:Int)]] w' (zgu w' k m (zdP m X) (zaA m X).ld))):=λw' A c ht h=>zgD ht h HZ.out HW.out (by decide) (by decide) (by decide)
   have HWC:Hid (∀(w':World),Below wk.heap.size wk w'->Hid (Calls Tryz.prog 49 #[.agg #[.slice A3 k c3,.int .i64 (m:Int)],.slice V k cv] w' (zem w' k (m+1) (zaN k m (m+1) X v)))):=λw' hb=>zhz (K:=19) rfl (HT.out _ hb) (HM.out _ hb) (HZ.out.up (by decide)) (HVB.out _ hb) HVZ.out (by omega) (by decide)
   have HSO:Hid (∀(w':World),Below wk.heap.size wk w'->Hid (Calls Tryz.prog 35 #[.agg #[.slice A3 k c3,.int .i64 (m:Int)],.slice V k cv] w' (zfa w' (zeQ m (zaA (m+1) (zaN k m (m+1) X v)).ld (zdP (m+1) (zaN k m (m+1) X v))) (zgQ m (zaA (m+1) (zaN k m (m+1) X v)).ld)))):=λw' hb=>zgi (K0:=19) rfl (HT.out _ hb) (HM.out _ hb) (HZ.out.up (by decide)) (HVB.out _ hb) HVZ.out (by omega) HWW.out (by decide) (by decide) (by decide)
   have HRW:Hid (∀(w':World) (A:oA9) (c:Nat),zaj w'->zaW w' A k c (m+1) (zaN k m (m+1) X v)->Hid (Calls Tryz.prog 31 #[.agg #[.slice A k c,.int .i64 ((m+1:Nat):Int)]] w' (λeo w2=>eo=.returned (.int .i64 ((zaA (m+1) (zaN k m (m+1) X v)).ld.length:Int))/\Below w'.heap.size w' w2))):=λw' A c ht h=>zjH ht h HWD.out HWW.out (by decide) (by decide) (by decide)
   have hrf:=zla HD.out
   have hl6:(zaA m X).ld.length<=6:=Nat.le_trans hrf.len bN
   have HRF:=lh9 hrf
   clear hrf hWZ HWW HWD HW
   rcases sol_ok HD.out hvl with hno|⟨x,z,hyes⟩
   ·have HNO:=lh9 hno
    have ha3:a3=false:=by
     cases a3
     ·rfl
     ·obtain⟨y,hy1,hy2⟩:=HMD.out rfl
      exact absurd hy2 (HNO.out.un y hy1)
    subst ha3
    rw [HNO.out.x,HNO.out.c] at HSO
    rw [HNO.out.rank] at HRW
    obtain⟨p,hp⟩:∃p,m+1=p:=⟨_,rfl⟩
    rw [hp] at HRW HWC
    obtain⟨L,hL⟩:∃L,(zaA m X).ld.length=L:=⟨_,rfl⟩
    rw [hL] at HRW HRANK hl6
    obtain⟨WX,hWX⟩:∃W,zaN k m p X v=W:=⟨_,rfl⟩
    rw [hWX] at HRW HWC
    clear hno hL hWX hp HNO HRF HRED1 hvl HMD
    go_wp2_with fail
    (with_reducible refine(HSO.out _ HB.out).out.mono ?_)
    rintro e X4 ⟨A8,k8,c8,rfl,hv8,hb⟩
    have HB:=lh9 (zaa HB.out hb)
    have hk8:k8=0:=hv8.len.symm
    subst hk8
    clear hb HSO hv8 p0 p1
    obtain⟨p0,p1⟩:=(HK3.out _ HB.out).c2
    go_wp2_with fail
    (with_reducible refine(zcC A3 k c3 (m:Int) _).mono ?_)
    rintro e X5 ⟨rfl,hb⟩
    have HB:=lh9 (zaa HB.out hb)
    clear p0 p1
    obtain⟨p0,p1⟩:=(HK3.out _ HB.out).c2
    clear hb
    go_wp2_with fail
    (with_reducible refine(HWC.out _ HB.out).out.mono ?_)
    rintro e X6 ⟨A9,c9,rfl,hm9,-,hb⟩
    obtain⟨bx1,bx2,-⟩:=zaw X6 32 #[.slice A9 k c9,.int .i64 (p:Int)]
    have hbx:=zaa hb bx1
    have HB:=lh9 (zaa HB.out hbx)
    have HM9:=lh9 (hm9.keep bx1)
    have HK9:=lh9 bx2
    clear p0 p1
    obtain⟨p0,p1⟩:=(HK3.out _ HB.out).c2
    clear hb bx1 bx2 hbx hm9 HWC
    go_wp2_with fail
    generalize X6.alloc (.cells #[.slice A9 k c9,.int .i64 (p:Int)] 32)=W9 at*
    generalize X6.heap.size=q9 at*
    (with_reducible refine((HRANK.out _ A3 c3 (HT.out _ HB.out) (HM.out _ HB.out)).out).mono ?_)
    rintro e X7 ⟨rfl,hb⟩
    have HB:=lh9 (zaa HB.out hb)
    have HM9:=lh9 (HM9.out.keep hb)
    have HK9:=lh9 (zab hb HK9.out)
    clear p0 p1
    obtain⟨p4,p5⟩:=HK9.out.c2
    clear hb
    go_wp2_with fail
    (with_reducible refine((HRW.out _ A9 c9 (HT.out _ HB.out) HM9.out).out).mono ?_)
    rintro e X8 ⟨rfl,hb⟩
    have HB:=lh9 (zaa HB.out hb)
    clear hb HM9 HK9 p4 p5
    have HB:=lh9 (HBW.out _ HB.out)
    go_wp2
    go_ret
    exact⟨rfl,HB.out⟩
   ·have HY:=lh9 hyes
    rw [HY.out.ex,HY.out.ec] at HSO
    rw [HY.out.rank] at HRW
    obtain⟨p,hp⟩:∃p,m+1=p:=⟨_,rfl⟩
    rw [hp] at HRW HWC
    have HXZ:Hid (zaq 1000000 x):=by
     rw [<-HY.out.ex]
     exact zpA k m X v HD.out hvl (HZ.out.up (by decide)) HVZ.out bm bN
    obtain⟨L,hL⟩:∃L,(zaA m X).ld.length=L:=⟨_,rfl⟩
    obtain⟨ld,hld⟩:∃ld,(zaA m X).ld=ld:=⟨_,rfl⟩
    have HFR:=lh9 HY.out.free
    have HZC:=lh9 HY.out.c
    have HUP:=lh9 HRF.out.up
    have HTM:=lh9 HY.out.times
    have HXL:=lh9 HY.out.len
    rw [hL] at HRW HRANK hl6 HZC
    rw [hld] at HRED1 HFR HUP hL
    have HLL:=lh9 hL
    obtain⟨WX,hWX⟩:∃W,zaN k m p X v=W:=⟨_,rfl⟩
    rw [hWX] at HRW HWC
    have hz2:z=2\/z=3:=by have:=HZC.out;by_cases e:L=m<;>simp [e] at this<;>omega
    have hz1:(z==1)=false:=by rw [beq_eq_false_iff_ne];omega
    clear hyes hL hWX hp hld HRF hvl HMD HY
    go_wp2_with fail
    (with_reducible refine(HSO.out _ HB.out).out.mono ?_)
    rintro e X9 ⟨A8,k8,c8,rfl,hv8,hb⟩
    have HB:=lh9 (zaa HB.out hb)
    have hk8:m=k8:=by have:=hv8.len;have:=HXL.out;omega
    subst hk8
    have HX8:=lh9 hv8
    clear hb HSO hv8 p0 p1
    obtain⟨p0,p1⟩:=(HK3.out _ HB.out).c2
    go_wp2_with fail
    (with_reducible refine(zcC A3 k c3 (m:Int) _).mono ?_)
    rintro e X10 ⟨rfl,hb⟩
    have HB:=lh9 (zaa HB.out hb)
    have HX8:=lh9 (HX8.out.keep hb)
    clear p0 p1
    obtain⟨p0,p1⟩:=(HK3.out _ HB.out).c2
    clear hb
    go_wp2_with fail
    (with_reducible refine(HWC.out _ HB.out).out.mono ?_)
    rintro e X11 ⟨A9,c9,rfl,hm9,-,hb⟩
    obtain⟨bx1,bx2,-⟩:=zaw X11 32 #[.slice A9 k c9,.int .i64 (p:Int)]
    have hbx:=zaa hb bx1
    have HB:=lh9 (zaa HB.out hbx)
    have HM9:=lh9 (hm9.keep bx1)
    have HK9:=lh9 bx2
    have HX8:=lh9 (HX8.out.keep hbx)
    clear p0 p1
    obtain⟨p0,p1⟩:=(HK3.out _ HB.out).c2
    clear hb bx1 bx2 hbx hm9 HWC
    go_wp2_with fail
    generalize X11.alloc (.cells #[.slice A9 k c9,.int .i64 (p:Int)] 32)=W9 at*
    generalize X11.heap.size=q9 at*
    (with_reducible refine((HRANK.out _ A3 c3 (HT.out _ HB.out) (HM.out _ HB.out)).out).mono ?_)
    rintro e X12 ⟨rfl,hb⟩
    have HB:=lh9 (zaa HB.out hb)
    have HX8:=lh9 (HX8.out.keep hb)
    have HM9:=lh9 (HM9.out.keep hb)
    have HK9:=lh9 (zab hb HK9.out)
    clear p0 p1
    obtain⟨p4,p5⟩:=HK9.out.c2
    clear hb
    obtain⟨p0,p1⟩:=(HK3.out _ HB.out).c2
    go_wp2_with fail
    (with_reducible refine(HRED1.out _ A3 c3 (HT.out _ HB.out) (HM.out _ HB.out)).out.mono ?_)
    rintro e W12 ⟨A12,c12,B12,k12,cB12,rfl,hkq,hm12,hI12,-,-,hb⟩
    have hk12:k12=L:=hkq.trans HLL.out
    clear hkq
    subst hk12
    have HLL2:=HLL
    clear HLL
    obtain⟨bx1,bx2,-⟩:=zaw W12 32 #[.slice A12 k c12,.int .i64 (m:Int)]
    have hbx:=zaa hb bx1
    have HB:=lh9 (zaa HB.out hbx)
    have HX8:=lh9 (HX8.out.keep hbx)
    have HM9:=lh9 (HM9.out.keep hbx)
    have HK9:=lh9 (zab hbx HK9.out)
    have HI:=lh9 (hI12.keep bx1)
    clear hb bx1 bx2 hbx hm12 hI12 HRED1 p0 p1 p4 p5
    go_wp2_with fail
    generalize W12.alloc (.cells #[.slice A12 k c12,.int .i64 (m:Int)] 32)=W13 at*
    have HT:=lh9 (λw' (hb:Below W13.heap.size W13 w')=>HT.out w' (zaa HB.out hb))
    have HM:=lh9 (λw' (hb:Below W13.heap.size W13 w')=>HM.out w' (zaa HB.out hb))
    have HK3:=lh9 (λw' (hb:Below W13.heap.size W13 w')=>HK3.out w' (zaa HB.out hb))
    have HVB:=lh9 (λw' (hb:Below W13.heap.size W13 w')=>HVB.out w' (zaa HB.out hb))
    have HBW:=lh9 (λw' (hb:Below W13.heap.size W13 w')=>HBW.out w' (zaa HB.out hb))
    have HX8:=lh9 (λw' (hb:Below W13.heap.size W13 w')=>HX8.out.keep hb)
    have HM9:=lh9 (λw' (hb:Below W13.heap.size W13 w')=>HM9.out.keep hb)
    have HI:=lh9 (λw' (hb:Below W13.heap.size W13 w')=>HI.out.keep hb)
    have HK9:=lh9 (λw' (hb:Below W13.heap.size W13 w')=>zab hb HK9.out)
    have hB:=Below.refl W13.heap.size W13
    clear HB
    go_loopg [20,21] (m+1) (λg al ix wr=>∃(j q:Nat),j<=m/\m<g+j/\ix=.int .i64 j/\al=.int .i64 q/\q<=k12/\Hid (∀l,l<q->ld.getD l 0<j)/\Hid (∀l,q<=l->l<k12->j<=ld.getD l 0)/\Below W13.heap.size W13 wr)
    case atStart=>exact⟨0,0,Nat.zero_le _,by omega,rfl,rfl,Nat.zero_le _,λl hl=>absurd hl (by omega),λl _ _=>Nat.zero_le _,hB⟩
    case round=>
     clear hB
     obtain⟨j,q,hjm,hg,rfl,rfl,hqL,hlo,hhi,hB⟩:=hrel
     have HB:=lh9 hB
     have HLO:=lh9 hlo.out
     have HHI:=lh9 hhi.out
     clear hB hlo hhi
     by_cases hlj:j<m
     ·have hd1:decide ((j:Int)<(m:Int))=true:=decide_eq_true (by omega)
      have i2:(0:Int)<=(j:Int):=by omega
      have i3:(j:Int)<(m:Int):=by omega
      by_cases hqk:q<k12
      ·have hd2:decide ((q:Int)<(k12:Int))=true:=decide_eq_true (by omega)
       have i4:(0:Int)<=(q:Int):=by omega
       have i5:(q:Int)<(k12:Int):=by omega
       have hqn:q<ld.length:=by rw [HLL2.out];exact hqk
       obtain⟨ae,hae,hc⟩:=(HI.out _ HB.out).num q hqk
       rw [znf hqn] at hc
       have HQ1:=lh9 (HHI.out q (Nat.le_refl _) hqk)
       have HUQ:=lh9 (λl (h1:q<l) (h2:l<k12)=>HUP.out q l h1 (by rw [HLL2.out];exact h2))
       obtain⟨u,hu⟩:∃u,ld.getD q 0=u:=⟨_,rfl⟩
       rw [hu] at hc HQ1 HUQ
       by_cases huj:u=j
       ·have HLO2:Hid (∀l,l<q+1->ld.getD l 0<j+1):=λl hl=>by
         by_cases e:l=q
         ·rw [e,hu,huj];omega
         ·have:=HLO.out l (by omega);omega
        have HHI2:Hid (∀l,q+1<=l->l<k12->j+1<=ld.getD l 0):=λl h1 h2=>by have:=HUQ.out l (by omega) h2;omega
        subst huj
        subst hae
        clear hu HLO HHI HQ1 HUQ hqn
        go_wp2
        go_roundg (m - u)
        case measure=>omega
        case rel=>exact⟨u+1,q+1,by omega,by omega,by go_num,by go_num,by omega,HLO2,HHI2,HB.out⟩
       ·have hjn:j ∉ ld:=λh=>by
         obtain⟨l,hl,e⟩:=zdq h
         rw [HLL2.out] at hl
         rcases Nat.lt_trichotomy l q with a|a|a
         ·have:=HLO.out l a;omega
         ·rw [a,hu] at e;exact huj e
         ·have:=HUQ.out l a hl;have:=HQ1.out;omega
        have hd4:((u:Int)==(j:Int))=false:=by rw [beq_eq_false_iff_ne];omega
        subst hae
        clear hu HQ1 HUQ hqn huj
        have HX0:=lh9 (HFR.out j hlj hjn)
        have HLO2:Hid (∀l,l<q->ld.getD l 0<j+1):=λl hl=>by have:=HLO.out l hl;omega
        have HHI2:Hid (∀l,q<=l->l<k12->j+1<=ld.getD l 0):=λl h1 h2=>by
         have h3:=HHI.out l h1 h2
         have h4:ld.getD l 0≠j:=λe=>hjn (e▸zcB (by rw [HLL2.out];exact h2))
         omega
        obtain⟨ax,b1,B1,m1,d1,E1,u1,v1,hax,-,hc0,hc1,hc2,hx⟩:=(HX8.out _ HB.out).get (Below.refl _ _) (i:=j) hlj
        have HX1:=lh9 hx
        have HSZ:Hid (SzQ 1000000 (x.getD j 0)):=HXZ.out.at_ (by rw [HXL.out];exact hlj)
        subst hax
        clear hx hjn HLO HHI
        go_wp2_with fail
        (with_reducible refine(zns (t:=true) (decide_eq_true HX0.out) (HT.out _ HB.out) HX1.out HSZ.out (by decide)).mono ?_)
        rintro e X13 ⟨rfl,hb⟩
        have HB:=lh9 (zaa HB.out hb)
        clear hb hc0 hc1 hc2 HX1 HSZ HX0
        go_wp2
        go_roundg (m - j)
        case measure=>omega
        case rel=>exact⟨j+1,q,by omega,by omega,by go_num,rfl,by omega,HLO2,HHI2,HB.out⟩
      ·have hd2:decide ((q:Int)<(k12:Int))=false:=decide_eq_false (by omega)
       have hjn:j ∉ ld:=λh=>by
        obtain⟨l,hl,e⟩:=zdq h
        rw [HLL2.out] at hl
        have:=HLO.out l (by omega)
        omega
       have HX0:=lh9 (HFR.out j hlj hjn)
       have HLO2:Hid (∀l,l<q->ld.getD l 0<j+1):=λl hl=>by have:=HLO.out l hl;omega
       have HHI2:Hid (∀l,q<=l->l<k12->j+1<=ld.getD l 0):=λl h1 h2=>by
        have h3:=HHI.out l h1 h2
        have h4:ld.getD l 0≠j:=λe=>hjn (e▸zcB (by rw [HLL2.out];exact h2))
        omega
       obtain⟨ax,b1,B1,m1,d1,E1,u1,v1,hax,-,hc0,hc1,hc2,hx⟩:=(HX8.out _ HB.out).get (Below.refl _ _) (i:=j) hlj
       have HX1:=lh9 hx
       have HSZ:Hid (SzQ 1000000 (x.getD j 0)):=HXZ.out.at_ (by rw [HXL.out];exact hlj)
       subst hax
       clear hx hjn HLO HHI
       go_wp2_with fail
       (with_reducible refine(zns (t:=true) (decide_eq_true HX0.out) (HT.out _ HB.out) HX1.out HSZ.out (by decide)).mono ?_)
       rintro e X14 ⟨rfl,hb⟩
       have HB:=lh9 (zaa HB.out hb)
       clear hb hc0 hc1 hc2 HX1 HSZ HX0
       go_wp2
       go_roundg (m - j)
       case measure=>omega
       case rel=>exact⟨j+1,q,by omega,by omega,by go_num,rfl,by omega,HLO2,HHI2,HB.out⟩
     ·have hd1:decide ((j:Int)<(m:Int))=false:=decide_eq_false (by omega)
      clear HLO HHI HFR HUP HLL2 HI
      by_cases hLm:k12=m
      ·have hz9:z=2:=by have:=HZC.out;rw [if_pos hLm] at this;exact this
       have hb1:((k12:Int)==(m:Int))=true:=by rw [beq_iff_eq];omega
       subst hz9
       clear hLm HZC
       obtain⟨p0,p1⟩:=(HK3.out _ HB.out).c2
       go_wp2_with fail
       (with_reducible refine(zhi (K:=1) (K':=1000000) (HT.out _ HB.out) (HM.out _ HB.out) (HX8.out _ HB.out) HZ.out HXZ.out (by decide) (by decide) (by omega)).mono ?_)
       rintro e X15 ⟨g10,rfl,-,ho10,hb⟩
       have HB:=lh9 (zaa HB.out hb)
       have HV2:Hid (zaC X15 (some ⟨g10,0,none⟩) k k v):=by rw [<-HTM.out];exact zaE ho10
       clear hb ho10 p0 p1
       go_wp2_with fail
       (with_reducible refine(zdj (K:=19) (K':=19) (t:=true) (decide_eq_true rfl) (HT.out _ HB.out) HV2.out (HVB.out _ HB.out) HVZ.out HVZ.out (by omega) (by omega) (by decide) (by decide)).mono ?_)
       rintro e X16 ⟨rfl,hb⟩
       have HB:=lh9 (zaa HB.out hb)
       obtain⟨p4,p5⟩:=(HK9.out _ HB.out).c2
       clear hb HV2
       go_wp2_with fail
       (with_reducible refine((HRW.out _ A9 c9 (HT.out _ HB.out) (HM9.out _ HB.out)).out).mono ?_)
       rintro e X17 ⟨rfl,hb⟩
       have HB:=lh9 (zaa HB.out hb)
       obtain⟨p0,p1⟩:=(HK3.out _ HB.out).c2
       clear hb p4 p5
       go_wp2_with fail
       (with_reducible refine(zbp A3 k c3 (m:Int) _).mono ?_)
       rintro e X18 ⟨rfl,hb⟩
       have HB:=lh9 (zaa HB.out hb)
       have HB:=lh9 (HBW.out _ HB.out)
       clear hb p0 p1
       go_wp2
       go_ret
       exact⟨rfl,HB.out⟩
      ·have hz9:z=3:=by have:=HZC.out;rw [if_neg hLm] at this;exact this
       have hb1:((k12:Int)==(m:Int))=false:=by rw [beq_eq_false_iff_ne];omega
       subst hz9
       clear hLm HZC
       obtain⟨p0,p1⟩:=(HK3.out _ HB.out).c2
       go_wp2_with fail
       (with_reducible refine(zhi (K:=1) (K':=1000000) (HT.out _ HB.out) (HM.out _ HB.out) (HX8.out _ HB.out) HZ.out HXZ.out (by decide) (by decide) (by omega)).mono ?_)
       rintro e X19 ⟨g10,rfl,-,ho10,hb⟩
       have HB:=lh9 (zaa HB.out hb)
       have HV2:Hid (zaC X19 (some ⟨g10,0,none⟩) k k v):=by rw [<-HTM.out];exact zaE ho10
       clear hb ho10 p0 p1
       go_wp2_with fail
       (with_reducible refine(zdj (K:=19) (K':=19) (t:=true) (decide_eq_true rfl) (HT.out _ HB.out) HV2.out (HVB.out _ HB.out) HVZ.out HVZ.out (by omega) (by omega) (by decide) (by decide)).mono ?_)
       rintro e X20 ⟨rfl,hb⟩
       have HB:=lh9 (zaa HB.out hb)
       obtain⟨p4,p5⟩:=(HK9.out _ HB.out).c2
       clear hb HV2
       go_wp2_with fail
       (with_reducible refine((HRW.out _ A9 c9 (HT.out _ HB.out) (HM9.out _ HB.out)).out).mono ?_)
       rintro e X21 ⟨rfl,hb⟩
       have HB:=lh9 (zaa HB.out hb)
       obtain⟨p0,p1⟩:=(HK3.out _ HB.out).c2
       clear hb p4 p5
       go_wp2_with fail
       (with_reducible refine(zbp A3 k c3 (m:Int) _).mono ?_)
       rintro e X22 ⟨rfl,hb⟩
       have HB:=lh9 (zaa HB.out hb)
       have HB:=lh9 (HBW.out _ HB.out)
       clear hb p0 p1
       go_wp2
       go_ret
       exact⟨rfl,HB.out⟩
  ·have HKN:=lh9 hkN
   have hb1:((k:Int)==(N:Int))=false:=by rw [beq_eq_false_iff_ne];omega
   have hb2:((k:Int) !=(N:Int))=true:=by rw [bne_iff_ne];omega
   clear hkN HMD hvl
   go_wp2_with fail
   (with_reducible refine(zjr HKN.out).mono ?_)
   rintro e X23 ⟨rfl,hb⟩
   have HB:=lh9 (zaa HB.out hb)
   clear p0 p1
   obtain⟨p0,p1⟩:=(HK3.out _ HB.out).c2
   clear hb
   go_wp2_with fail
   (with_reducible refine(zcC A3 N c3 (m:Int) _).mono ?_)
   rintro e X24 ⟨rfl,hb⟩
   have HB:=lh9 (zaa HB.out hb)
   clear p0 p1
   obtain⟨p0,p1⟩:=(HK3.out _ HB.out).c2
   clear hb
   go_wp2_with fail
   (with_reducible refine(zcC A3 N c3 (m:Int) _).mono ?_)
   rintro e X25 ⟨rfl,hb⟩
   have HB:=lh9 (zaa HB.out hb)
   clear p0 p1
   have HB:=lh9 (HBW.out _ HB.out)
   clear hb
   go_wp2
   go_ret
   exact⟨rfl,HB.out⟩
