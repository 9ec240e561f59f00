/- What this claim leans on. -/
import Derived.Test.YtlgnacmgepnamaaGreatDoorKMDel
namespace Go.Proofs.YtlgnacmgepnamaaGreatDoor
open Go Go.RowKit
set_option maxHeartbeats 16000000
set_option maxRecDepth 100000
set_option linter.unusedVariables false
set_option linter.unusedSimpArgs false
section
variable {A:oA9}{n c m K:Nat}{MM:List (List Rat)}{w:World}
theorem zil {V:oA9}{k cv N:Nat}{xs:List Rat}(hN:n+1=N)(h:zaI w A n c m MM)(hv:zaK w V k cv xs)(hno:zcy (N:Int) (m:Int)=false\/k≠m):Calls Tryz.prog 48 #[.agg #[.slice A n c,.int .i64 (m:Int)],.slice V k cv] w (zcC w):=by
 obtain⟨i9,hi9,hz9,hz10,hz11⟩:=info_parts zgp
 obtain⟨hn,hm⟩:=And.intro h.hn h.hm
 have hlx:=hv.len
 have HLX:=lh9 hlx
 have HLM:=lh9 h.dims.rows
 have HN:=lh9 hN
 have HOF:Hid (∀(W:World) (Q:oA9) (q:Nat),Below w.heap.size w W->zaF (zaB zan) W Q N (MM++[xs])->Calls Tryz.prog 45 #[.int .i64 (m:Int),.slice Q N q] W (zcC W)):=λW Q q hb hr=>by
  refine zpe hr (by omega) ?_
  rcases hno with h1|h1
  ·exact Or.inl h1
  ·refine Or.inr ?_
   unfold badB
   refine List.any_eq_true.2 ⟨xs,List.mem_append.2 (Or.inr (List.mem_singleton.2 rfl)),?_⟩
   simp
   omega
 have HC:=lh9 (λW (hb:Below w.heap.size w W)=>znF (c:=c) (h.keep hb).rows (by omega))
 obtain⟨bx1,bx2,bx3,bz⟩:=zbe w 28 28 #[.slice A n c,.int .i64 (m:Int)] #[.slice none 0 0,.int .i64 0]
 obtain⟨p0,p1⟩:=bx2.c2
 have HB:=lh9 bx1
 have HKM:=lh9 bx2
 have HK:=lh9 bx3
 have HV:=lh9 (hv.keep bx1)
 clear h hv hN hlx bx1 bx2 bx3 bz hno
 go_enter Tryz.func48,Tryz.ntmps48
 go_wp2_with fail
 generalize (w.alloc (.cells #[.slice A n c,.int .i64 (m:Int)] 28)).alloc (.cells #[.slice none 0 0,.int .i64 0] 28)=W1 at*
 have hbd:=(Below.refl W1.heap.size W1).drew
 refine rg (csc p0 (csc p1 csn)) (λhHeld=>?_)
 clear p0 p1
 have HB:=lh9 (zac HB.out hbd)
 have HK:=lh9 (zae hbd HK.out)
 have HKM:=lh9 (zae hbd HKM.out)
 have HV:=lh9 (HV.out.keep hbd)
 clear hbd
 generalize W1.drew=D at*
 refine tk 0 ?_
 refine tk 1 ?_
 refine tk 2 ?_
 refine tk 3 ?_
 refine tk 5 ?_
 have HKB:Hid (w.heap.size+1<D.heap.size):=HK.out.lt
 refine rcb 4 6 (λKK hK9=>?_) (λKK hK9=>?_)
 ·go_simp
  refine(HC.out _ HB.out).mono ?_
  rintro e w4 ⟨v9,vs,rfl,hon,hb⟩
  refine hK9.out _ _ (Cs.below hHeld hb) (λhHeld=>?_)
  clear hK9 KK
  have HB:=lh9 (zac HB.out hb)
  have HK:=lh9 (zae hb HK.out)
  have HKM:=lh9 (zae hb HKM.out)
  have HV:=lh9 (HV.out.keep hb)
  obtain⟨base,hbase⟩:∃x,x=D.heap.size:=⟨_,rfl⟩
  rw [<-hbase] at hon HKB
  have hbs:base<=w4.heap.size:=by rw [hbase];exact hb.size
  have HWB:Hid (w.heap.size<=base):=by have:=HKB.out;show _<=_;omega
  clear hb hbase
  refine rc 6 (λKK hK9=>?_)
  go_simp
  obtain⟨t1,hlit,t3⟩:=zaA w4 51 #[.slice V k cv]
  refine hK9.out _ _ (Cs.below hHeld t1) (λhHeld=>?_)
  clear hK9 KK
  have HB:=lh9 (zac HB.out t1)
  have HK:=lh9 (zae t1 HK.out)
  have HKM:=lh9 (zae t1 HKM.out)
  have HV:=lh9 (HV.out.keep t1)
  have hon:=hon.below (zay zaq) t1
  have hbs:=Nat.le_trans hbs t1.size
  obtain⟨W5,hW5⟩:∃x,x=w4.alloc (.cells #[.slice V k cv] 51):=⟨_,rfl⟩
  obtain⟨gl,hgl⟩:∃x,x=w4.heap.size:=⟨_,rfl⟩
  rw [<-hW5] at hon hbs hlit HB HK HKM HV hHeld⊢
  rw [<-hgl] at hlit⊢
  clear t1 t3 hW5 hgl
  have HON:Hid (zbc (zaB zan) W5 base 51 v9 MM vs):=hon
  clear hon
  have HOWN:Hid (W5.ownsRow base 51 1 v9 n vs):=by have:=HON.out.own;rw [HLM.out] at this;exact this
  have HSL:=lh9 HON.out.sl
  have HBS:Hid (base<=W5.heap.size):=hbs
  have HZS:Hid (∀u ∈(Value.slice none 0 0).cells.toList,zbC u):=by intro u hu;simp [Value.cells] at hu;exact⟨_,_,_,hu⟩
  have HNN:Hid (∀u ∈ [Value.slice V k cv],zbC u):=by intro u hu;simp at hu;exact⟨_,_,_,hu⟩
  have HONE:Hid (∀u ∈ [Value.slice V k cv],u.oneCell'=true):=by intro u hu;simp at hu;subst hu;rfl
  have HOB:=lh9 (λr (h:v9.ownBlock=some r)=>HON.out.own.lt r h)
  have HCELL:Hid (∀j u,[Value.slice V k cv][j]?=some u->W5.cell? ((⟨gl,0,none⟩:Addr).add j)=some u):=λj u hu=>by
   rw [zaM]
   match j,hu with
   |0,hu=>simp at hu;subst hu;exact hlit.c1
  clear hlit hbs
  refine rc 7 (λKK hK9=>?_)
  refine zcS _ (.tmp 10) (.tmp 12) 26 rfl base 51 i9 (.slice none 0 0) 1 24 Tryz.underlying26 hi9 hz9 hz10 hz11 rfl (by decide) v9 n vs rfl HOWN.out ⟨gl,0,none⟩ 1 1 [.slice V k cv] rfl rfl HCELL.out HONE.out (by unfold maxLen;omega) (by omega) HBS.out HSL.out HZS.out HNN.out ?_
  intro v' w8 hown' hgrow hat hsl'
  have hon8:=zbc.grow (n:=n+1) (L:=xs) (zay zaq) HON.out HV.out HLX.out hown' (by rw [HLM.out]) hgrow hsl'
  have HB8:=lh9 (HB.out.grown hgrow HB.out.size (λr hr=>Nat.le_trans HWB.out (HOB.out r hr).1))
  have HK8:Hid (Blk w8 (w.heap.size+1) 28 #[.slice none 0 0,.int .i64 0]):=zbt HK.out hgrow (λe=>by have:=(HOB.out _ e).1;have:=HKB.out;omega)
  have HKM8:Hid (Blk w8 w.heap.size 28 #[.slice A n c,.int .i64 (m:Int)]):=zbt HKM.out hgrow (λe=>by have:=(HOB.out _ e).1;have:=HKB.out;omega)
  obtain⟨Q,q,rfl,hq1,hq2,hrs,-⟩:=hon8.shape (n:=N) (by rw [List.length_append,HLM.out];exact HN.out)
  have HRS:=lh9 hrs
  obtain⟨p0,p1⟩:=HKM8.out.c2
  refine hK9.out _ _ (csc p0 (csc p1 csn)) (λhHeld=>?_)
  clear hK9 KK hown' hgrow hat hsl' hon8 hrs p0 p1 HON HOWN HSL HBS HZS HNN HONE HOB HCELL HB HK HKM hq1 hq2
  have HB:=HB8
  have HK:=HK8
  clear HB8 HK8 HKM8
  refine rc 8 (λKK hK9=>?_)
  go_simp
  refine(HOF.out _ _ _ HB.out HRS.out).mono ?_
  rintro e w9 ⟨rfl,hb⟩
  refine hK9.out _ _ (Cs.below hHeld hb) (λhHeld=>?_)
  clear hK9 KK
  have hk3:=zae hb HK.out
  obtain⟨sc0,sf0,sc1,sf1⟩:=st2 hk3 (.slice none 0 0)
  obtain⟨r0,r1⟩:=(sn2 hk3 (.slice none 0 0) (.int .i64 0)).c2
  have HG:=lh9 (gmn2 (g:=w.heap.size+1) (zac HB.out hb) (by omega))
  clear hb hk3  HB HK
  refine tk 9 ?_
  refine tk 10 ?_
  refine rc 11 (λKK hK9=>?_)
  go_simp
  refine hK9.out _ _ ?_ (λhHeld=>?_)
  ·refine Cs.far hHeld (zez _ _ _ _) ⟨?_,?_,trivial⟩<;>(show w.heap.size≠w.heap.size+1;omega)
  clear hK9 KK
  refine tk 12 ?_
  refine rdn ?_
  clear hHeld sc0 sf0 sc1 sf1
  go_wp2
  refine bodyPost_ret (v:=.tuple #[.agg #[.slice none 0 0,.int .i64 0],.bool false]) (by simp [results,Tryz.results48,go_sem,r0,r1]) rfl ?_
  exact HG.out
 ·go_simp
  obtain⟨t1,hlit,t3⟩:=zaA D 51 #[.slice V k cv]
  refine hK9.out _ _ (Cs.below hHeld t1) (λhHeld=>?_)
  clear hK9 KK
  have HB:=lh9 (zac HB.out t1)
  have HK:=lh9 (zae t1 HK.out)
  have HKM:=lh9 (zae t1 HKM.out)
  have HV:=lh9 (HV.out.keep t1)
  obtain⟨W4,hW4⟩:∃x,x=D.alloc (.cells #[.slice V k cv] 51):=⟨_,rfl⟩
  obtain⟨gl,hgl⟩:∃x,x=D.heap.size:=⟨_,rfl⟩
  have HKB:Hid (w.heap.size+1<W4.heap.size):=by rw [hW4];exact Nat.lt_of_lt_of_le HKB.out t1.size
  rw [<-hW4] at hlit HB HK HKM HV hHeld⊢
  rw [<-hgl] at hlit⊢
  clear t1 t3 hW4 hgl
  refine rc 4 (λKK hK9=>?_)
  go_simp
  refine(HC.out _ HB.out).mono ?_
  rintro e W5 ⟨v9,vs,rfl,hon,hb⟩
  refine hK9.out _ _ (Cs.below hHeld hb) (λhHeld=>?_)
  clear hK9 KK
  have HB:=lh9 (zac HB.out hb)
  have HK:=lh9 (zae hb HK.out)
  have HKM:=lh9 (zae hb HKM.out)
  have HV:=lh9 (HV.out.keep hb)
  have hlit:=zae hb hlit
  obtain⟨base,hbase⟩:∃x,x=W4.heap.size:=⟨_,rfl⟩
  rw [<-hbase] at hon HKB
  have hbs:base<=W5.heap.size:=by rw [hbase];exact hb.size
  have HWB:Hid (w.heap.size<=base):=by have:=HKB.out;show _<=_;omega
  clear hb hbase
  have HON:Hid (zbc (zaB zan) W5 base 51 v9 MM vs):=hon
  clear hon
  have HOWN:Hid (W5.ownsRow base 51 1 v9 n vs):=by have:=HON.out.own;rw [HLM.out] at this;exact this
  have HSL:=lh9 HON.out.sl
  have HBS:Hid (base<=W5.heap.size):=hbs
  have HZS:Hid (∀u ∈(Value.slice none 0 0).cells.toList,zbC u):=by intro u hu;simp [Value.cells] at hu;exact⟨_,_,_,hu⟩
  have HNN:Hid (∀u ∈ [Value.slice V k cv],zbC u):=by intro u hu;simp at hu;exact⟨_,_,_,hu⟩
  have HONE:Hid (∀u ∈ [Value.slice V k cv],u.oneCell'=true):=by intro u hu;simp at hu;subst hu;rfl
  have HOB:=lh9 (λr (h:v9.ownBlock=some r)=>HON.out.own.lt r h)
  have HCELL:Hid (∀j u,[Value.slice V k cv][j]?=some u->W5.cell? ((⟨gl,0,none⟩:Addr).add j)=some u):=λj u hu=>by
   rw [zaM]
   match j,hu with
   |0,hu=>simp at hu;subst hu;exact hlit.c1
  clear hlit hbs
  refine rc 7 (λKK hK9=>?_)
  refine zcS _ (.tmp 10) (.tmp 12) 26 rfl base 51 i9 (.slice none 0 0) 1 24 Tryz.underlying26 hi9 hz9 hz10 hz11 rfl (by decide) v9 n vs rfl HOWN.out ⟨gl,0,none⟩ 1 1 [.slice V k cv] rfl rfl HCELL.out HONE.out (by unfold maxLen;omega) (by omega) HBS.out HSL.out HZS.out HNN.out ?_
  intro v' w8 hown' hgrow hat hsl'
  have hon8:=zbc.grow (n:=n+1) (L:=xs) (zay zaq) HON.out HV.out HLX.out hown' (by rw [HLM.out]) hgrow hsl'
  have HB8:=lh9 (HB.out.grown hgrow HB.out.size (λr hr=>Nat.le_trans HWB.out (HOB.out r hr).1))
  have HK8:Hid (Blk w8 (w.heap.size+1) 28 #[.slice none 0 0,.int .i64 0]):=zbt HK.out hgrow (λe=>by have:=(HOB.out _ e).1;have:=HKB.out;omega)
  have HKM8:Hid (Blk w8 w.heap.size 28 #[.slice A n c,.int .i64 (m:Int)]):=zbt HKM.out hgrow (λe=>by have:=(HOB.out _ e).1;have:=HKB.out;omega)
  obtain⟨Q,q,rfl,hq1,hq2,hrs,-⟩:=hon8.shape (n:=N) (by rw [List.length_append,HLM.out];exact HN.out)
  have HRS:=lh9 hrs
  obtain⟨p0,p1⟩:=HKM8.out.c2
  refine hK9.out _ _ (csc p0 (csc p1 csn)) (λhHeld=>?_)
  clear hK9 KK hown' hgrow hat hsl' hon8 hrs p0 p1 HON HOWN HSL HBS HZS HNN HONE HOB HCELL HB HK HKM hq1 hq2
  have HB:=HB8
  have HK:=HK8
  clear HB8 HK8 HKM8
  refine rc 8 (λKK hK9=>?_)
  go_simp
  refine(HOF.out _ _ _ HB.out HRS.out).mono ?_
  rintro e w9 ⟨rfl,hb⟩
  refine hK9.out _ _ (Cs.below hHeld hb) (λhHeld=>?_)
  clear hK9 KK
  have hk3:=zae hb HK.out
  obtain⟨sc0,sf0,sc1,sf1⟩:=st2 hk3 (.slice none 0 0)
  obtain⟨r0,r1⟩:=(sn2 hk3 (.slice none 0 0) (.int .i64 0)).c2
  have HG:=lh9 (gmn2 (g:=w.heap.size+1) (zac HB.out hb) (by omega))
  clear hb hk3  HB HK
  refine tk 9 ?_
  refine tk 10 ?_
  refine rc 11 (λKK hK9=>?_)
  go_simp
  refine hK9.out _ _ ?_ (λhHeld=>?_)
  ·refine Cs.far hHeld (zez _ _ _ _) ⟨?_,?_,trivial⟩<;>(show w.heap.size≠w.heap.size+1;omega)
  clear hK9 KK
  refine tk 12 ?_
  refine rdn ?_
  clear hHeld sc0 sf0 sc1 sf1
  go_wp2
  refine bodyPost_ret (v:=.tuple #[.agg #[.slice none 0 0,.int .i64 0],.bool false]) (by simp [results,Tryz.results48,go_sem,r0,r1]) rfl ?_
  exact HG.out
end
theorem zdb {A R:oA9}{n c d m K:Nat}{M:List (List Rat)}{w:World}(hT:zal w)(ha:zaI w A n c m M)(hr:zcJ w R n d m M)(hx:zaD K M)(hK:K<=16777216:=by omega):
  Calls Tryz.prog 15 #[.agg #[.slice A n c,.int .i64 (m:Int)],.agg #[.slice R n d,.int .i64 (m:Int)]] w (λe w'=>e=.returned (.bool true)/\Below w.heap.size w w'):=by
 have hn0:n<=64:=ha.hn
 have hm0:m<=64:=ha.hm
 have HX:=lh9 hx
 have HXR:Hid (∀k,k<n->zaE K (M.getD k [])):=λk hk=>hx.row (by rw [ha.dims.rows];exact hk)
 have HXA:Hid (∀k j,k<n->j<m->SzQ K (atM M k j)):=λk j hk hj=>hx.at_ ha.dims hk hj
 obtain⟨bx1,bx2,bx3,bz⟩:=zbe w 28 32 #[.slice A n c,.int .i64 (m:Int)] #[.slice R n d,.int .i64 (m:Int)]
 have HA:=lh9 (ha.keep bx1)
 have HR:=lh9 (hr.keep bx1)
 have HT:=lh9 (λw' (hb:Below w.heap.size w w')=>hT.on hb)
 have HB0:=lh9 bx1
 have HK1:=lh9 bx2
 have HK2:=lh9 bx3
 obtain⟨g0,g1⟩:=bx2.c2
 obtain⟨p0,p1⟩:=bx3.c2
 have hd0:((n:Int) !=(n:Int))=false:=by simp
 have hd9:((m:Int) !=(m:Int))=false:=by simp
 clear hT ha hr hx bx1 bx2 bx3 bz
 go_enter Tryz.func15,Tryz.ntmps15
 go_upto_region 1 with fail
 generalize (w.alloc (.cells #[.slice A n c,.int .i64 (m:Int)] 28)).alloc (.cells #[.slice R n d,.int .i64 (m:Int)] 32)=W2 at*
 have hbd:=(Below.refl W2.heap.size W2).drew
 refine rg (csc g0 (csc g1 (csc p0 (csc p1 csn)))) (λhHeld=>?_)
 clear g0 g1 p0 p1
 generalize W2.drew=D0 at*
 refine tk 0 ?_
 refine tk 2 ?_
 refine tk 3 ?_
 refine tk 4 ?_
 refine rc 1 (λKK hK9=>?_)
 go_simp
 (with_reducible refine(zcM A n c (m:Int) _).mono ?_)
 rintro e wa ⟨rfl,hb⟩
 have hbd:=zac hbd hb
 refine hK9.out _ _ (Cs.below hHeld hb) (λhHeld=>?_)
 clear hK9 KK hb
 refine tk 5 ?_
 refine tk 6 ?_
 refine tk 7 ?_
 refine tk 9 ?_
 refine tk 10 ?_
 refine rc 8 (λKK hK9=>?_)
 go_simp
 (with_reducible refine(zlG A n c (m:Int) _).mono ?_)
 rintro e wb ⟨rfl,hb⟩
 have hB:=zac hbd hb
 refine hK9.out _ _ (Cs.below hHeld hb) (λhHeld=>?_)
 clear hK9 KK hb hbd
 refine tk 11 ?_
 refine tk 12 ?_
 refine rdn ?_
 clear hHeld
 go_wp2_with fail
 go_loopg [5] (n+1) (λg ix wr=>∃(k:Nat),k<=n/\n<g+k/\ix=.int .i64 k/\Below W2.heap.size W2 wr)
 case atStart=>exact⟨0,Nat.zero_le _,by omega,rfl,hB⟩
 case round=>
  clear hB
  obtain⟨k,hkn,hg,rfl,hB⟩:=hrel
  obtain⟨g0,g1⟩:=(zae hB HK1.out).c2
  obtain⟨p0,p1⟩:=(zae hB HK2.out).c2
  by_cases hlt:k<n
  ·have hd1:decide ((k:Int)<(n:Int))=true:=decide_eq_true (by omega)
   have hd1':decide (k<n)=true:=decide_eq_true hlt
   have i1:(0:Int)<=(k:Int):=by omega
   have i2:(k:Int)<(n:Int):=by omega
   obtain⟨ad,Bk,dk,rfl,-,hck,hrk⟩:=HR.out.row (Below.refl _ _) hlt
   have HCK:=lh9 hck
   have HRK:=lh9 hrk
   have HB:=lh9 hB
   clear hck hrk hB
   go_wp2_with fail
   (with_reducible refine(zoi (HT.out _ (zac HB0.out HB.out)) (HA.out.keep HB.out) HX.out hlt (by omega)).mono ?_)
   rintro e w5 ⟨g5,rfl,-,ho5,hb⟩
   have HB5:=lh9 (zac HB.out hb)
   have HV5:=lh9 (zbl ho5)
   obtain⟨g0,g1⟩:=(zae HB5.out HK1.out).c2
   obtain⟨p0,p1⟩:=(zae HB5.out HK2.out).c2
   have hck:=zad HB5.out HCK.out
   clear hb ho5
   go_wp2_with fail
   (with_reducible refine(zdH (HT.out _ (zac HB0.out HB5.out)) HV5.out (zcK.keep HRK.out HB5.out) (HXR.out k hlt) (by omega) hK).mono ?_)
   rintro e w6 ⟨rfl,hb⟩
   have hB6:=zac HB5.out hb
   clear hb g0 g1 p0 p1 hck HV5 HB5 HB
   go_wp2_with fail
   go_loopg [8] (m+1) (λg jx wr=>∃(j:Nat),j<=m/\m<g+j/\jx=.int .i64 j/\Below W2.heap.size W2 wr)
   case atStart=>exact⟨0,Nat.zero_le _,by omega,rfl,hB6⟩
   case round=>
    clear hB6
    obtain⟨j,hjm,hg2,rfl,hB⟩:=hrel
    obtain⟨g0,g1⟩:=(zae hB HK1.out).c2
    obtain⟨p0,p1⟩:=(zae hB HK2.out).c2
    by_cases hjl:j<m
    ·have he1:decide ((j:Int)<(m:Int))=true:=decide_eq_true (by omega)
     have he1':decide (j<m)=true:=decide_eq_true hjl
     have i3:(0:Int)<=(j:Int):=by omega
     have i4:(j:Int)<(m:Int):=by omega
     have hck:=zad hB HCK.out
     obtain⟨ae,b2,B2,m2,d2,E2,u2,v2,rfl,-,hc1,hc2,hc3,hq⟩:=HRK.out.get hB hjl
     have hq:zca wr (atM M k j) b2 B2 m2 d2 E2 u2 v2:=hq
     have HSZ:=lh9 (HXA.out k j hlt hjl)
     have hbd:=(Below.refl wr.heap.size wr).drew
     have HQ:=lh9 (zca.below hq hbd)
     have HB:=lh9 (zac hB hbd)
     clear hq hB hbd
     go_upto_region 12 with fail
     refine rg (csc g0 (csc g1 (csc p0 (csc p1 (csc hck (csc hc1 (csc hc2 (csc hc3 csn)))))))) (λhHeld=>?_)
     clear g0 g1 p0 p1 hck hc1 hc2 hc3
     generalize wr.drew=D at*
     refine tk 0 ?_
     refine tk 1 ?_
     refine tk 2 ?_
     refine tk 4 ?_
     refine tk 5 ?_
     refine tk 6 ?_
     refine tk 7 ?_
     refine tk 8 ?_
     refine tk 9 ?_
     refine tk 10 ?_
     refine tk 11 ?_
     refine rc 3 (λKK hK9=>?_)
     go_simp
     (with_reducible refine(zko (HT.out _ (zac HB0.out HB.out)) (HA.out.keep HB.out) HX.out hlt hjl (by omega)).mono ?_)
     rintro e w7 ⟨b1,B1,m1,d1,E1,u1,v1,rfl,hq1,hb⟩
     refine hK9.out _ _ (Cs.below hHeld hb) (λhHeld=>?_)
     clear hK9 KK
     have HQ7:=lh9 (zca.below HQ.out hb)
     have HB7:=lh9 (zac HB.out hb)
     have HQ1:=lh9 hq1
     clear hb hq1
     refine rc 12 (λKK hK9=>?_)
     go_simp
     (with_reducible refine(zjr (λ_ _ h hb=>h.on hb) zbJ qc10 _ K b1 B1 m1 d1 E1 u1 v1 b2 B2 m2 d2 E2 u2 v2 _ hK HSZ.out HQ1.out HQ7.out (HT.out _ (zac HB0.out HB7.out))).mono ?_)
     rintro e w8 ⟨rfl,hb⟩
     refine hK9.out _ _ (Cs.below hHeld hb) (λhHeld=>?_)
     clear hK9 KK
     have HB8:=lh9 (zac HB7.out hb)
     clear hb
     refine tk 13 ?_
     refine rdn ?_
     clear hHeld HQ HQ1 HQ7 HB HB7
     go_wp2
     go_roundg (m - j)
     case measure=>omega
     case rel=>exact⟨j+1,by omega,by omega,by go_num,HB8.out⟩
    ·have hj:j=m:=by omega
     subst hj
     have he1:decide ((j:Int)<(j:Int))=false:=by simp
     have he1':decide (j<j)=false:=by simp
     have HB8:=lh9 hB
     clear hB
     go_wp2
     go_roundg (n - k)
     case measure=>omega
     case rel=>exact⟨k+1,by omega,by omega,by go_num,HB8.out⟩
  ·have hk:k=n:=by omega
   subst hk
   have hd1:decide ((k:Int)<(k:Int))=false:=by simp
   have hd1':decide (k<k)=false:=by simp
   have HB8:=lh9 (zac HB0.out hB)
   clear hB
   go_wp2
   go_ret
   exact⟨rfl,HB8.out⟩
