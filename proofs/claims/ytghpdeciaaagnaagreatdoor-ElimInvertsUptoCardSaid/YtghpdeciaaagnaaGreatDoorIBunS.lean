/- What this claim leans on. -/
import Derived.Test.YtghpdeciaaagnaaGreatDoorIBunN
import Derived.BigRegion
namespace Go.Proofs.YtghpdeciaaagnaaGreatDoor
open Go Go.RowKit
set_option maxHeartbeats 16000000
set_option maxRecDepth 100000
set_option linter.unusedVariables false
theorem zpB (x k:Nat)(A:oA9)(n c:Nat)(w:World)(hA:zad w x A n c)(hn:n<=549755813888)(hk:k<=65536):
  Calls Tryz.prog 210 #[.agg #[.slice A n c],.int .i64 k] w (zga w (2^k*x) true):=by
 obtain⟨i0,hi0,hz0,hz1,hz2⟩:=info_parts zgx
 have hln:=hA.len
 have HLN:=lh9 hln
 have HA:=lh9 (λw' (hb:Below w.heap.size w w')=>hA.below hb)
 have HK:=kpow k
 obtain⟨q,hq⟩:∃q,k / 64=q:=⟨_,rfl⟩
 obtain⟨r,hr⟩:∃r,k%64=r:=⟨_,rfl⟩
 rw [hq,hr] at HK
 have HKP:=lh9 HK
 have hr64:r<64:=by omega
 have hq1:q<=1024:=by omega
 obtain⟨N,hN⟩:∃N,q+n+1=N:=⟨_,rfl⟩
 have hN0:N<=549755814913:=by omega
 have hNq:(q:Int)+(n:Int)+1=(N:Int):=by omega
 have hNw:IntKind.i64.wrap (N:Int)=(N:Int):=IntWalk.i64_in _ (by omega)
 have hN1:=lh9 hN
 obtain⟨Z,hZ⟩:∃Z,madeCells (Value.cells (.int .u64 0)) (N*i0.size)=Z:=⟨_,rfl⟩
 have HZ:Hid (Z.toList=zaA .u64 (List.replicate N 0)):=by
  show _=_
  rw [<-hZ,hz1,Nat.mul_one]
  exact(toList_madeCells_one _ _).trans (by simp [zaA])
 have hmk:∀W:World,(Instr.makeSlice 35 (.int .i64 (N:Int)) (.int .i64 (N:Int))).run Tryz.prog W=.ok (.slice (some ⟨W.heap.size,0,none⟩) N N) (W.alloc (.cells Z 160)):=λW=>by
  rw [<-hZ];exact zaW _ _ i0 _ Tryz.underlying35 hi0 hz0 _ _ N N (Nat.le_refl _) (by rw [hz2];omega) (by omega) W
 have hkd:decide ((k:Int)<0)=false:=by simp
 have hkd2:decide ((65536:Int)<(k:Int))=false:=by simp;omega
 have hkd3:decide ((k:Int)>65536)=false:=by simp;omega
 have hq':(k:Int) / 64=(q:Int):=by omega
 have hr':(k:Int)%64=(r:Int):=by omega
 have hqt:(k:Int).tdiv 64=(q:Int):=by rw [Int.tdiv_eq_ediv_of_nonneg (by omega)];exact hq'
 have hrt:(k:Int).tmod 64=(r:Int):=by rw [Int.tmod_eq_emod_of_nonneg (by omega)];exact hr'
 clear hZ hA hln hN hq hr HK
 go_enter Tryz.func210,Tryz.ntmps210
 go_wp2_with fail
 generalize hW:(w.alloc (.cells #[.slice A n c] 37)).alloc (.cells #[.slice none 0 0] 37)=W0
 obtain⟨b1,b2,b4,b5⟩:=zbI w 37 37 #[.slice A n c] #[.slice none 0 0]
 rw [hW] at b1 b2 b4 b5
 have g1:W0.cell? ⟨w.heap.size,0,none⟩=some (.slice A n c):=b2.cell 0
 clear hW b2
 refine(zbQ x _ _ _ _).mono ?_
 rintro e w2 ⟨rfl,hb⟩
 have hB:=zab b1 hb
 have hk2:=zaa hb b4
 have g1:=zac hb g1
 have hs2:=hb.size
 have hgs:w.heap.size+2<=w2.heap.size:=by omega
 clear hb hs2 b1 b4 b5
 have ga:∀o,(w2.alloc o).cell? ⟨w.heap.size,0,none⟩=some (.slice A n c):=λo=>zal o g1
 go_wp2_with fail
 clear ga
 have hZ0:=Blk.new w2 160 Z
 have hB:=zaj (.cells Z 160) hB
 have hk2:=hk2.alloc (.cells Z 160)
 have g1:=zal (.cells Z 160) g1
 generalize w2.alloc (.cells Z 160)=W1 at*
 generalize w2.heap.size=gs at*
 clear hmk hNq hNw hq' hr' hqt hrt
 have HPR:0<2^r:=Nat.two_pow_pos r
 go_loopg [9,10,31] (n + 1) (fun g _ _ ix wr => ∃ (i cc : Nat) (cs : Array Value) (out : List Nat),i ≤ n ∧ n < g + i ∧ ix = .int .i64 i ∧ Hid (zeT x (2 ^ r) i out cc) ∧ Hid (cs.toList = zaA .u64 (List.replicate q 0 ++ out) ++ .int .u64 cc :: zaA .u64 (List.replicate (n - i) 0)) ∧ Blk wr gs 160 cs ∧
   Below w.heap.size w wr/\wr.cell? ⟨w.heap.size,0,none⟩=some (.slice A n c)/\Blk wr (w.heap.size+1) 37 #[.slice none 0 0])
 case atStart=>
  refine⟨0,0,Z,[],by omega,by omega,rfl,zeT.start x _ HPR,?_,hZ0,hB,g1,hk2⟩
  show Z.toList=zaA .u64 (List.replicate q 0++[])++Value.int .u64 0::zaA .u64 (List.replicate (n - 0) 0)
  rw [HZ.out,List.append_nil,Nat.sub_zero,<-znB,<-zeq,List.replicate_append_replicate,show q+(n+1)=N from by have:=hN1.out;omega]
 case round=>
  clear hB g1 hk2 hZ0
  obtain⟨i,cc,cs,out,hi,hg,rfl,hat,hcl,hcs,hB,g1,hkr⟩:=hrel
  have hol:=hat.out.len
  have hPL:(zaA .u64 (List.replicate q 0++out)).length=q+i:=by rw [zaE,List.length_append,List.length_replicate,hol]
  by_cases hlt:i<n
  ·have hWA:=(HA.out wr hB).1
   obtain⟨ad,rfl,hadb,hx⟩:=zdv hWA hlt
   rw [zeu] at hx
   have ha1:=zcp x i
   have HST:=lh9 (hat.out.step (s:=wd x i*2^r+cc) rfl)
   have hcc:=hat.out.carry
   obtain⟨a,ha⟩:∃a,wd x i=a:=⟨_,rfl⟩
   rw [ha] at hx ha1 HST
   have HV1:=lh9 (shl_cell (a:=a) hr64 hcc)
   have HV2:=lh9 (zqZ (a:=a) hr64 hcc)
   obtain⟨m,hm⟩:∃m,n - i=m+1:=⟨n - i - 1,by omega⟩
   have hcl2:=hcl.out
   rw [hm,znB] at hcl2
   have hszt:cs.size=q+i+(m+2):=by
    have h:=congrArg List.length hcl2
    rw [Array.length_toList] at h
    rw [h,List.length_append,hPL,List.length_cons,List.length_cons,zaE,List.length_replicate]
   have hx1:cs[q+i]?=some (.int .u64 cc):=by
    rw [<-Array.getElem?_toList,hcl2,List.getElem?_append_right (by omega),hPL,Nat.sub_self];rfl
   have hx2:cs[q+i+1]?=some (.int .u64 0):=by
    rw [<-Array.getElem?_toList,hcl2,List.getElem?_append_right (by omega),hPL,show q+i+1 - (q+i)=1 from by omega];rfl
   have q1:wr.cell? ⟨gs,q+i,none⟩=some (.int .u64 cc):=(hcs.cell _).trans hx1
   have q2:=hcs.frozen (q+i)
   have HCL:=lh9 hcl2
   have HPL:=lh9 hPL
   have HM:=lh9 hm
   have hNn:q+i+2<=N:=by have:=hN1.out;omega
   obtain⟨i1,i2,i3,i4,i5,i6,i7⟩:(0:Int)<=(i:Int)/\(i:Int)<(n:Int)/\(0:Int)<=(q:Int)+(i:Int)/\(q:Int)+(i:Int)<(N:Int)/\(0:Int)<=(q:Int)+(i:Int)+1/\(q:Int)+(i:Int)+1<(N:Int)/\q+i+1<N:=by omega
   obtain⟨j1,j2,j3,j4,j5⟩:IntKind.i64.wrap ((q:Int)+(i:Int))=(q:Int)+(i:Int)/\IntKind.i64.wrap ((q:Int)+(i:Int)+1)=(q:Int)+(i:Int)+1/\IntKind.i64.wrap (64 - (r:Int))=64 - (r:Int)/\((q:Int)+(i:Int)).toNat=q+i/\((q:Int)+(i:Int)+1).toNat=q+i+1:=⟨IntWalk.i64_in _ (by omega),IntWalk.i64_in _ (by omega),IntWalk.i64_in _ (by omega),by omega,by omega⟩
   clear ha hat hcl hWA hcl2 hPL hm hszt hx1 hadb hol
   go_wp2_with fail
   go_region
   rw [HV1.out]
   obtain⟨s1,e1⟩:∃s1,(a*2^r+cc)%18446744073709551616=s1:=⟨_,rfl⟩
   obtain⟨s2,e2⟩:∃s2,(a*2^r+cc) / 18446744073709551616=s2:=⟨_,rfl⟩
   rw [e1,e2] at HST
   rw [e2] at HV2
   rw [e1]
   clear HV1 e1 e2 q1 q2
   have hcs2:=(hcs.set_ (q+i) (.int .u64 (s1:Int))).drew
   have hk4:=(hkr.far (p:=⟨gs,q+i,none⟩) (by show w.heap.size+1≠gs;omega) (.int .u64 (s1:Int))).drew
   have hB3:=(zae (p:=⟨gs,q+i,none⟩) (.int .u64 (s1:Int)) (by show w.heap.size<=gs;omega) hB).drew
   have g2:((wr.setCell ⟨gs,q+i,none⟩ (.int .u64 (s1:Int))).drew).cell? ⟨w.heap.size,0,none⟩=some (.slice (some ad) n c):=zag _ (by show w.heap.size≠gs;omega) g1
   generalize (wr.setCell ⟨gs,q+i,none⟩ (.int .u64 (s1:Int))).drew=w3 at*
   have q1:w3.cell? ⟨gs,q+i+1,none⟩=some (.int .u64 0):=(hcs2.cell _).trans (by rw [Array.getElem?_setIfInBounds_ne (by omega)];exact hx2)
   have q2:=hcs2.frozen (q+i+1)
   have hv2:=HV2.out
   clear hx2 hcs hkr hB g1 hx
   go_wp2_with fail
   have hcs4:=hcs2.set_ (q+i+1) (.int .u64 (s2:Int))
   have hk5:=hk4.far (p:=⟨gs,q+i+1,none⟩) (by show w.heap.size+1≠gs;omega) (.int .u64 (s2:Int))
   have hB5:=zae (p:=⟨gs,q+i+1,none⟩) (.int .u64 (s2:Int)) (by show w.heap.size<=gs;omega) hB3
   have g5:=zag (q:=⟨gs,q+i+1,none⟩) (.int .u64 (s2:Int)) (by show w.heap.size≠gs;omega) g2
   go_roundg (n - i)
   case measure=>omega
   case rel=>
    refine⟨i+1,s2,_,_,by omega,by omega,by go_num,HST.out,?_,hcs4,hB5,g5,hk5⟩
    show _=_
    rw [Array.toList_setIfInBounds,Array.toList_setIfInBounds,HCL.out,set_two HPL.out,<-List.append_assoc,zeN,show n - (i+1)=m from by have:=HM.out;omega,List.append_assoc]
    rfl
  ·have hin:i=n:=by omega
   subst hin
   have hcl2:=hcl.out
   rw [Nat.sub_self] at hcl2
   have e:=hat.out.done (q:=q) (by have:=HLN.out;omega)
   rw [HKP.out] at e
   have hout:cs.toList=zaA .u64 (List.replicate q 0++out++[cc]):=by rw [hcl2,zeN];rfl
   have hlen:(List.replicate q 0++out++[cc]).length=N:=by
    have:=hN1.out
    simp [hol];omega
   have hszN:cs.size=N:=by
    have h:=congrArg List.length hout
    rw [Array.length_toList,zaE,hlen] at h
    exact h
   have hdg:Dgs 18446744073709551616 (List.replicate q 0++out++[cc]):=by
    have h:=hat.out.carry
    have h2:2^r<=2^63:=Nat.pow_le_pow_right (by decide) (by omega)
    exact((Dgs.zeros (by decide) q).append hat.out.dgs).append (by intro d hd;simp at hd;subst hd;omega)
   have T:=zfH (some ⟨gs,0,none⟩) N N wr.heap.size _ wr (zdR hcs hszN (by rw [<-hszN,<-Array.length_toList,List.take_length];exact hout) hlen) hdg (Nat.le_refl _) (by omega) (by omega)
   rw [e] at T
   have HT:=lh9 T
   have hc1:wr.cell? ⟨w.heap.size+1,0,none⟩=some (.slice none 0 0):=hkr.cell 0
   have hf1:=hkr.frozen 0
   clear T hcs hcl2 hout hlen hszN hdg hat hcl e hkr g1 hol hPL
   go_wp2_with fail
   refine HT.out.mono ?_
   rintro e w2 ⟨A1,c1,rfl,hr1,h1,h2,hA1,rfl⟩
   have G:=zgo hB (p:=w.heap.size+1) (gs:=gs) (by omega) (by omega) hr1 h1 h2 hA1 (by omega) (.slice A1 (dg 18446744073709551616 (2^k*x)).length c1)
   have HG:Hid (zga w (2^k*x) true (.returned (.tuple #[.agg #[.slice A1 (dg 18446744073709551616 (2^k*x)).length c1],.bool true])) (wr.setCell ⟨w.heap.size+1,0,none⟩ (.slice A1 (dg 18446744073709551616 (2^k*x)).length c1))):=⟨_,_,_,rfl,G.2.1,G.1,G.2.2⟩
   clear G hr1 h1 h2 hA1
   obtain⟨L,hL⟩:∃L,(dg 18446744073709551616 (2^k*x)).length=L:=⟨_,rfl⟩
   rw [hL] at HG⊢
   clear hL
   go_wp2
   refine bodyPost_ret (v:=.tuple #[.agg #[.slice A1 L c1],.bool true]) (by simp [results,Tryz.results210,go_sem,hc1]) rfl ?_
   exact HG.out
theorem znL (w:World):zad w 0 none 0 0:=⟨zas.none_,Nat.le_refl _,by omega⟩
theorem znf (x k:Nat)(A:oA9)(n c:Nat)(w:World)(hA:zad w x A n c)(hn:n<=549755813888)(hk:bitLen x<=k):
  Calls Tryz.prog 213 #[.agg #[.slice A n c],.int .i64 k] w (zaO w 0):=by
 have HC:=lh9 (λw' (hb:Below w.heap.size w w')=>zjH x A n c w' (hA.below hb) (by omega))
 obtain⟨z,hz⟩:∃z,bitLen x=z:=⟨_,rfl⟩
 rw [hz] at HC hk
 have hd:decide ((z:Int)<=(k:Int))=true:=by simpa using hk
 clear hz hA
 go_enter Tryz.func213,Tryz.ntmps213
 go_wp2_with fail
 generalize hW:(w.alloc (.cells #[.slice A n c] 37)).alloc (.cells #[.slice none 0 0] 37)=W0
 obtain⟨b1,b2,b4,b5⟩:=zbI w 37 37 #[.slice A n c] #[.slice none 0 0]
 rw [hW] at b1 b2 b4 b5
 clear hW b2
 refine(HC.out _ b1).mono ?_
 rintro e w1 ⟨rfl,hb⟩
 have hB:=zab b1 hb
 have hk:=zaa hb b4
 have hc1:w1.cell? ⟨w.heap.size+1,0,none⟩=some (.slice none 0 0):=hk.cell 0
 have hf1:=hk.frozen 0
 have HG:Hid (zaO w 0 (.returned (.agg #[.slice none 0 0])) (w1.setCell ⟨w.heap.size+1,0,none⟩ (.slice none 0 0))):=⟨_,_,_,rfl,znL _,zae _ (by show _<=w.heap.size+1;omega) hB,zew.none_ _⟩
 clear hB hk hb b1 b4
 go_wp2
 refine bodyPost_ret (v:=.agg #[.slice none 0 0]) (by simp [results,Tryz.results213,go_sem,hc1]) rfl ?_
 exact HG.out
theorem nat_shr (x k:Nat)(A:oA9)(n c:Nat)(w:World)(hA:zad w x A n c)(hn:n<=549755813888)(hk:k<bitLen x):
  Calls Tryz.prog 213 #[.agg #[.slice A n c],.int .i64 k] w (zaO w (x / 2^k)):=by
 obtain⟨i0,hi0,hz0,hz1,hz2⟩:=info_parts zgx
 have hln:=hA.len
 have hbl:bitLen x<=64*n:=zey _ _ (by
  have h:=zbM (b:=18446744073709551616) (by decide) x
  rw [hln,show(18446744073709551616:Nat)=2^64 from rfl,<-Nat.pow_mul] at h
  exact h)
 have HC:=(λw' (hb:Below w.heap.size w w')=>zjH x A n c w' (hA.below hb) (by omega))
 have HA:=lh9 (λw' (hb:Below w.heap.size w w')=>hA.below hb)
 obtain⟨q,hq⟩:∃q,k / 64=q:=⟨_,rfl⟩
 obtain⟨r,hr⟩:∃r,k%64=r:=⟨_,rfl⟩
 have hr64:r<64:=by omega
 have hqn:q<n:=by omega
 obtain⟨z,hz⟩:∃z,bitLen x=z:=⟨_,rfl⟩
 rw [hz] at HC hk hbl
 have HC:=lh9 HC
 have hd:decide ((z:Int)<=(k:Int))=false:=by simp;omega
 have hzk:z<=35184372088832:=by omega
 have W:∀i,wd (x / 2^k) i=wd x (q+i) / 2^r+2^(64 - r)*(wd x (q+i+1)%2^r):=λi=>by rw [wd_shr,hq,hr]
 have HW:=lh9 W
 obtain⟨N,hN⟩:∃N,n - q=N:=⟨_,rfl⟩
 have hN0:0<N/\N<=n:=by omega
 obtain⟨hN0,hNn⟩:=hN0
 have hNq:(n:Int) - (q:Int)=(N:Int):=by omega
 have hNw:IntKind.i64.wrap (N:Int)=(N:Int):=IntWalk.i64_in _ (by omega)
 obtain⟨Z,hZ⟩:∃Z,madeCells (Value.cells (.int .u64 0)) (N*i0.size)=Z:=⟨_,rfl⟩
 have HZ:Hid (Z.size=N):=by show _=_;rw [<-hZ,size_madeCells,hz1,Nat.mul_one]
 have hmk:∀W:World,(Instr.makeSlice 35 (.int .i64 (N:Int)) (.int .i64 (N:Int))).run Tryz.prog W=.ok (.slice (some ⟨W.heap.size,0,none⟩) N N) (W.alloc (.cells Z 160)):=λW=>by
  rw [<-hZ];exact zaW _ _ i0 _ Tryz.underlying35 hi0 hz0 _ _ N N (Nat.le_refl _) (by rw [hz2];omega) (by omega) W
 have HL:Hid ((dg 18446744073709551616 (x / 2^k)).length<=N):=by
  refine zcD (by decide) _ _ ?_
  have h:=zbM (b:=18446744073709551616) (by decide) x
  rw [hln] at h
  refine(Nat.div_lt_iff_lt_mul (Nat.two_pow_pos k)).2 ?_
  rw [<-kpow k,hq,hr,<-Nat.mul_assoc,<-Nat.pow_add,show N+q=n from by omega]
  exact Nat.lt_of_lt_of_le h (Nat.le_mul_of_pos_right _ (Nat.two_pow_pos r))
 have hkd:decide ((k:Int)<0)=false:=by simp
 have hq':(k:Int) / 64=(q:Int):=by omega
 have hr':(k:Int)%64=(r:Int):=by omega
 have hqt:(k:Int).tdiv 64=(q:Int):=by rw [Int.tdiv_eq_ediv_of_nonneg (by omega)];exact hq'
 have hrt:(k:Int).tmod 64=(r:Int):=by rw [Int.tmod_eq_emod_of_nonneg (by omega)];exact hr'
 clear hZ hA hln hN hq hr hz W
 go_enter Tryz.func213,Tryz.ntmps213
 go_wp2_with fail
 generalize hW:(w.alloc (.cells #[.slice A n c] 37)).alloc (.cells #[.slice none 0 0] 37)=W0
 obtain⟨b1,b2,b4,b5⟩:=zbI w 37 37 #[.slice A n c] #[.slice none 0 0]
 rw [hW] at b1 b2 b4 b5
 have g1:W0.cell? ⟨w.heap.size,0,none⟩=some (.slice A n c):=b2.cell 0
 clear hW b2
 refine(HC.out _ b1).mono ?_
 rintro e w1 ⟨rfl,hb⟩
 have hB:=zab b1 hb
 have hk2:=zaa hb b4
 have g3:=zac hb g1
 have hs1:=hb.size
 clear hb g1 b1 b4
 go_wp2_with fail
 refine(zbQ x _ _ _ _).mono ?_
 rintro e w2 ⟨rfl,hb⟩
 have hB:=zab hB hb
 have hk2:=zaa hb hk2
 have g1:=zac hb g3
 have hs2:=hb.size
 have hgs:w.heap.size+2<=w2.heap.size:=by omega
 clear hb g3 hs1 hs2 b5
 go_wp2_with fail
 have hZ0:=Blk.new w2 160 Z
 have hB:=zaj (.cells Z 160) hB
 have hk2:=hk2.alloc (.cells Z 160)
 have g1:=zal (.cells Z 160) g1
 generalize w2.alloc (.cells Z 160)=W1 at*
 generalize w2.heap.size=gs at*
 clear hmk hNq hNw hq' hr' hqt hrt
 rename_i hh1 _ _ hh2
 clear hh1
 go_loopg [8,29] (N + 1) (fun g _ ix wr => ∃ (i : Nat) (cs : Array Value),i ≤ N ∧ N < g + i ∧ ix = .int .i64 i ∧ cs.size = N ∧ cs.toList.take i = zaA .u64 (zci (x / 2 ^ k) i) ∧ Blk wr gs 160 cs ∧
   Below w.heap.size w wr/\wr.cell? ⟨w.heap.size,0,none⟩=some (.slice A n c)/\Blk wr (w.heap.size+1) 37 #[.slice none 0 0])
 case atStart=>exact⟨0,Z,by omega,by omega,rfl,HZ.out,rfl,hZ0,hB,g1,hk2⟩
 case round=>
  clear hB g1 hk2 hZ0
  obtain⟨i,cs,hi,hg,rfl,hsz,htk,hcs,hB,g1,hkr⟩:=hrel
  by_cases hlt:i<N
  ·have ha1:=zcp x (q+i)
   have ha2:=zcp x (q+i+1)
   have WX:=(λw' (h:Below w.heap.size w w')=>zdE x A n c (q+i) w' (HA.out w' h))
   have WY:=(λw' (h:Below w.heap.size w w')=>zdE x A n c (q+i+1) w' (HA.out w' h))
   rw [Int.natCast_add] at WX
   rw [show((q+i+1:Nat):Int)=(q:Int)+(i:Int)+1 from by omega] at WY
   have HWI:=lh9 (HW.out i)
   obtain⟨a,ha⟩:∃a,wd x (q+i)=a:=⟨_,rfl⟩
   obtain⟨b,hb⟩:∃a,wd x (q+i+1)=a:=⟨_,rfl⟩
   rw [ha] at WX ha1 HWI
   rw [hb] at WY ha2 HWI
   have HWX:=lh9 WX
   have HWY:=lh9 WY
   have HSZ:=lh9 hsz
   have HTK:=lh9 htk
   obtain⟨u,hu⟩:∃u,cs[i]?=some u:=⟨cs[i]'(by omega),Array.getElem?_eq_getElem (by omega)⟩
   have HU:=lh9 hu
   clear WX WY ha hb htk hu hsz
   have i1:(0:Int)<=(i:Int):=by omega
   have i2:(i:Int)<(N:Int):=by omega
   obtain⟨j1,j2,j3⟩:IntKind.i64.wrap ((q:Int)+(i:Int))=(q:Int)+(i:Int)/\IntKind.i64.wrap ((q:Int)+(i:Int)+1)=(q:Int)+(i:Int)+1/\IntKind.i64.wrap (64 - (r:Int))=64 - (r:Int):=⟨IntWalk.i64_in _ (by omega),IntWalk.i64_in _ (by omega),IntWalk.i64_in _ (by omega)⟩
   go_wp2_with fail
   have hb0:=hB.drew
   have hk0:=hkr.drew
   have hc0:=hcs.drew
   go_region_held3 (fun w' => Below w.heap.size w w' ∧ w'.cell? ⟨w.heap.size,0,none⟩ = some (.slice A n c) ∧ Blk w' (w.heap.size + 1) 37 #[.slice none 0 0])
    (first|(exact⟨hb0,g1,hk0⟩)|(go_split_ands;(repeat' apply And.intro);all_goals (first|with_reducible assumption|exact zab (by with_reducible assumption) hb|exact zac hb (by with_reducible assumption)|exact zaa hb (by with_reducible assumption)|exact zae _ (by simp;omega) (by with_reducible assumption)|exact zag _ (by simp;omega) (by with_reducible assumption)|exact Blk.far (by with_reducible assumption) (by simp;omega) _)))
    (first
      |(go_at_call 164;with_reducible refine(HWX.out _ (by first|with_reducible assumption|exact And.left (by with_reducible assumption))).mono ?_;rintro e w' ⟨rfl,hb⟩;have hk2:Blk w' gs 160 cs:=zaa hb (by with_reducible assumption);have q1:=(hk2.cell i).trans HU.out;have q2:=hk2.frozen i)
      |(go_at_call 164;with_reducible refine(HWY.out _ (by first|with_reducible assumption|exact And.left (by with_reducible assumption))).mono ?_;rintro e w' ⟨rfl,hb⟩;have hk2:Blk w' gs 160 cs:=zaa hb (by with_reducible assumption);have q1:=(hk2.cell i).trans HU.out;have q2:=hk2.frozen i))
   rename_i hH
   obtain⟨hB2,g3,hk3⟩:=hH
   have hk4:=hk2.set_ i (.int .u64 (bits .or .u64 ((a:Int) / 2^r) (IntKind.u64.wrap ((b:Int)*2^(64 - r)))))
   have HV:Hid ((cs.setIfInBounds i (.int .u64 (bits .or .u64 ((a:Int) / 2^r) (IntKind.u64.wrap ((b:Int)*2^(64 - r)))))).toList.take (i+1)=zaA .u64 (zci (x / 2^k) (i+1))):=by
    show _=_
    rw [zkf _ _ _ (by have:=HSZ.out;omega),HTK.out,zfC,zeN,HWI.out,zns ha1 hr64]
   clear hb hk2 q1 q2 hb0 hk0 hc0 hB g1 hkr hcs j1 j2 j3
   go_wp2
   go_roundg (N - i)
   case measure=>omega
   case rel=>exact⟨i+1,_,by omega,by omega,by go_num,by simpa using HSZ.out,HV.out,hk4,hB2,g3,hk3⟩
  ·have hiN:i=N:=by omega
   subst hiN
   have e:=zjn HL.out
   have T:=zfH (some ⟨gs,0,none⟩) i i wr.heap.size (zci (x / 2^k) i) wr (zdR hcs hsz htk (zcy _ _)) (zjo _ _) (Nat.le_refl _) (by omega) (by omega)
   rw [e] at T
   have HT:=lh9 T
   have hc1:wr.cell? ⟨w.heap.size+1,0,none⟩=some (.slice none 0 0):=hkr.cell 0
   have hf1:=hkr.frozen 0
   clear T hcs hsz htk e hkr g1
   go_wp2_with fail
   refine HT.out.mono ?_
   rintro e w2 ⟨A1,c1,rfl,hr1,h1,h2,hA1,rfl⟩
   have G:=zgo hB (p:=w.heap.size+1) (gs:=gs) (by omega) (by omega) hr1 h1 h2 hA1 (by omega) (.slice A1 (dg 18446744073709551616 (x / 2^k)).length c1)
   have HG:Hid (zaO w (x / 2^k) (.returned (.agg #[.slice A1 (dg 18446744073709551616 (x / 2^k)).length c1])) (wr.setCell ⟨w.heap.size+1,0,none⟩ (.slice A1 (dg 18446744073709551616 (x / 2^k)).length c1))):=⟨_,_,_,rfl,G.2.1,G.1,G.2.2⟩
   clear G hr1 h1 h2 hA1
   obtain⟨L,hL⟩:∃L,(dg 18446744073709551616 (x / 2^k)).length=L:=⟨_,rfl⟩
   rw [hL] at HG⊢
   clear hL
   go_wp2
   refine bodyPost_ret (v:=.agg #[.slice A1 L c1]) (by simp [results,Tryz.results213,go_sem,hc1]) rfl ?_
   exact HG.out
theorem zpX (x:Nat):x<2^bitLen x:=by
 unfold bitLen
 split
 ·rename_i h;subst h;decide
 ·exact Nat.lt_log2_self
theorem zil (x k:Nat)(A:oA9)(n c:Nat)(w:World)(hA:zad w x A n c)(hn:n<=549755813888):
  Calls Tryz.prog 213 #[.agg #[.slice A n c],.int .i64 k] w (zaO w (x / 2^k)):=by
 by_cases h:bitLen x<=k
 ·rw [Nat.div_eq_of_lt (Nat.lt_of_lt_of_le (zpX x) (Nat.pow_le_pow_right (by decide) h))]
  exact znf x k A n c w hA hn h
 ·exact nat_shr x k A n c w hA hn (by omega)
theorem Sz.shl' {K x k M:Nat}(h:Sz K x)(hk:k<=64*M):Sz (K+M) (2^k*x):=by
 unfold Sz at*
 have h1:2^k<=18446744073709551616^M:=by
  rw [show(18446744073709551616:Nat)=2^64 from rfl,<-Nat.pow_mul]
  exact Nat.pow_le_pow_right (by decide) hk
 rw [Nat.pow_add,Nat.mul_comm (18446744073709551616^K)]
 exact Nat.lt_of_le_of_lt (Nat.mul_le_mul_right x h1) (Nat.mul_lt_mul_of_pos_left h (Nat.pow_pos (by decide)))
