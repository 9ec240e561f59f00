/- What this claim leans on. -/
import Derived.Test.YtedbgdlbgohiiaaGreatDoorTMOf
namespace Go.Proofs.YtedbgdlbgohiiaaGreatDoor
open Go Go.RowKit
set_option maxHeartbeats 16000000
set_option maxRecDepth 100000
set_option linter.unusedVariables false
set_option linter.unusedSimpArgs false
section
variable {A : oA9} {n c m K : Nat} {MM : List (List Rat)} {w : World}
theorem zgP {V : oA9} {k cv N : Nat} {xs : List Rat} (hN : n + 1 = N) (h : zau w A n c m MM) (hv : zaF w V k cv xs) (hno : zet (N : Int) (m : Int) = false ∨ k ≠ m) : Calls Tryz.prog 46 #[.agg #[.slice A n c,.int .i64 (m : Int)],.slice V k cv] w (zcJ w):=by
 obtain ⟨i9,hi9,hz9,hz10,hz11⟩:=info_parts zfh
 obtain ⟨hn,hm⟩:=And.intro h.hn h.hm
 have hlx:=hv.len
 have HLX:=lh9 hlx
 have HLM:=lh9 h.dims.rows
 have HN:=lh9 hN
 have HOF : Hid (∀ (W : World) (Q : oA9) (q : Nat),Below w.heap.size w W → zaK (zaI zaj) W Q N (MM ++ [xs]) → Calls Tryz.prog 50 #[.int .i64 (m : Int),.slice Q N q] W (zcJ W)):=fun W Q q hb hr => by
  refine zmn hr (by omega) ?_
  rcases hno with h1 | h1
  ·exact Or.inl h1
  ·refine Or.inr ?_
   unfold badB
   refine List.any_eq_true.2 ⟨xs,List.mem_append.2 (Or.inr (List.mem_singleton.2 rfl)),?_⟩
   simp
   omega
 have HC:=lh9 (fun W (hb : Below w.heap.size w W) => zkY (c:=c) (h.keep hb).rows (by omega))
 obtain ⟨bx1,bx2,bx3,bz⟩:=zbr w 28 28 #[.slice A n c,.int .i64 (m : Int)] #[.slice none 0 0,.int .i64 0]
 obtain ⟨p0,p1⟩:=bx2.c2
 have HB:=lh9 bx1
 have HKM:=lh9 bx2
 have HK:=lh9 bx3
 have HV:=lh9 (hv.keep bx1)
 clear h hv hN hlx bx1 bx2 bx3 bz hno
 go_enter Tryz.func46,Tryz.ntmps46
 go_wp2_with fail
 generalize (w.alloc (.cells #[.slice A n c,.int .i64 (m : Int)] 28)).alloc (.cells #[.slice none 0 0,.int .i64 0] 28) = W1 at *
 have hbd:=(Below.refl W1.heap.size W1).drew
 refine rg (csc p0 (csc p1 csn)) (fun hHeld => ?_)
 clear p0 p1
 have HB:=lh9 (zaa HB.out hbd)
 have HK:=lh9 (zac hbd HK.out)
 have HKM:=lh9 (zac hbd HKM.out)
 have HV:=lh9 (HV.out.keep hbd)
 clear hbd
 generalize W1.drew = D at *
 refine tk 0 ?_
 refine tk 1 ?_
 refine tk 2 ?_
 refine tk 3 ?_
 refine tk 5 ?_
 have HKB : Hid (w.heap.size + 1 < D.heap.size):=HK.out.lt
 refine rcb 4 6 (fun KK hK9 => ?_) (fun KK hK9 => ?_)
 ·go_simp
  refine (HC.out _ HB.out).mono ?_
  rintro e w4 ⟨v9,vs,rfl,hon,hb⟩
  refine hK9.out _ _ (Cs.below hHeld hb) (fun hHeld => ?_)
  clear hK9 KK
  have HB:=lh9 (zaa HB.out hb)
  have HK:=lh9 (zac hb HK.out)
  have HKM:=lh9 (zac hb HKM.out)
  have HV:=lh9 (HV.out.keep hb)
  obtain ⟨base,hbase⟩ : ∃ x,x = D.heap.size:=⟨_,rfl⟩
  rw [← hbase] at hon HKB
  have hbs : base ≤ w4.heap.size:=by rw [hbase]; exact hb.size
  have HWB : Hid (w.heap.size ≤ base):=by have:=HKB.out; show _ ≤ _; omega
  clear hb hbase
  refine rc 6 (fun KK hK9 => ?_)
  go_simp
  obtain ⟨t1,hlit,t3⟩:=zaE w4 51 #[.slice V k cv]
  refine hK9.out _ _ (Cs.below hHeld t1) (fun hHeld => ?_)
  clear hK9 KK
  have HB:=lh9 (zaa HB.out t1)
  have HK:=lh9 (zac t1 HK.out)
  have HKM:=lh9 (zac t1 HKM.out)
  have HV:=lh9 (HV.out.keep t1)
  have hon:=hon.below (zaz zam) t1
  have hbs:=Nat.le_trans hbs t1.size
  obtain ⟨W5,hW5⟩ : ∃ x,x = w4.alloc (.cells #[.slice V k cv] 51):=⟨_,rfl⟩
  obtain ⟨gl,hgl⟩ : ∃ x,x = w4.heap.size:=⟨_,rfl⟩
  rw [← hW5] at hon hbs hlit HB HK HKM HV hHeld ⊢
  rw [← hgl] at hlit ⊢
  clear t1 t3 hW5 hgl
  have HON : Hid (zbx (zaI zaj) W5 base 51 v9 MM vs):=hon
  clear hon
  have HOWN : Hid (W5.ownsRow base 51 1 v9 n vs):=by have:=HON.out.own; rw [HLM.out] at this; exact this
  have HSL:=lh9 HON.out.sl
  have HBS : Hid (base ≤ W5.heap.size):=hbs
  have HZS : Hid (∀ u ∈ (Value.slice none 0 0).cells.toList,zbQ u):=by intro u hu; simp [Value.cells] at hu; exact ⟨_,_,_,hu⟩
  have HNN : Hid (∀ u ∈ [Value.slice V k cv],zbQ u):=by intro u hu; simp at hu; exact ⟨_,_,_,hu⟩
  have HONE : Hid (∀ u ∈ [Value.slice V k cv],u.oneCell' = true):=by intro u hu; simp at hu; subst hu; rfl
  have HOB:=lh9 (fun r (h : v9.ownBlock = some r) => HON.out.own.lt r h)
  have HCELL : Hid (∀ j u,[Value.slice V k cv][j]? = some u → W5.cell? ((⟨gl,0,none⟩ : Addr).add j) = some u):=fun j u hu => by
   rw [zaJ]
   match j,hu with
   | 0,hu => simp at hu; subst hu; exact hlit.c1
  clear hlit hbs
  refine rc 7 (fun KK hK9 => ?_)
  refine zfB _ (.tmp 10) (.tmp 12) 26 rfl base 51 i9 (.slice none 0 0) 1 24 Tryz.underlying26 hi9 hz9 hz10 hz11 rfl (by decide) v9 n vs rfl HOWN.out ⟨gl,0,none⟩ 1 1 [.slice V k cv] rfl rfl HCELL.out HONE.out (by unfold maxLen; omega) (by omega) HBS.out HSL.out HZS.out HNN.out ?_
  intro v' w8 hown' hgrow hat hsl'
  have hon8:=zbx.grow (n:=n + 1) (L:=xs) (zaz zam) HON.out HV.out HLX.out hown' (by rw [HLM.out]) hgrow hsl'
  have HB8:=lh9 (HB.out.grown hgrow HB.out.size (fun r hr => Nat.le_trans HWB.out (HOB.out r hr).1))
  have HK8 : Hid (Blk w8 (w.heap.size + 1) 28 #[.slice none 0 0,.int .i64 0]):=zcd HK.out hgrow (fun e => by have:=(HOB.out _ e).1; have:=HKB.out; omega)
  have HKM8 : Hid (Blk w8 w.heap.size 28 #[.slice A n c,.int .i64 (m : Int)]):=zcd HKM.out hgrow (fun e => by have:=(HOB.out _ e).1; have:=HKB.out; omega)
  obtain ⟨Q,q,rfl,hq1,hq2,hrs,-⟩:=hon8.shape (n:=N) (by rw [List.length_append,HLM.out]; exact HN.out)
  have HRS:=lh9 hrs
  obtain ⟨p0,p1⟩:=HKM8.out.c2
  refine hK9.out _ _ (csc p0 (csc p1 csn)) (fun hHeld => ?_)
  clear hK9 KK hown' hgrow hat hsl' hon8 hrs p0 p1 HON HOWN HSL HBS HZS HNN HONE HOB HCELL HB HK HKM hq1 hq2
  have HB:=HB8
  have HK:=HK8
  clear HB8 HK8 HKM8
  refine rc 8 (fun KK hK9 => ?_)
  go_simp
  refine (HOF.out _ _ _ HB.out HRS.out).mono ?_
  rintro e w9 ⟨rfl,hb⟩
  refine hK9.out _ _ (Cs.below hHeld hb) (fun hHeld => ?_)
  clear hK9 KK
  have hk3:=zac hb HK.out
  obtain ⟨sc0,sf0,sc1,sf1⟩:=st2 hk3 (.slice none 0 0)
  obtain ⟨r0,r1⟩:=(sn2 hk3 (.slice none 0 0) (.int .i64 0)).c2
  have HG:=lh9 (gmn2 (g:=w.heap.size + 1) (zaa HB.out hb) (by omega))
  clear hb hk3  HB HK
  refine tk 9 ?_
  refine tk 10 ?_
  refine rc 11 (fun KK hK9 => ?_)
  go_simp
  refine hK9.out _ _ ?_ (fun hHeld => ?_)
  ·refine Cs.far hHeld (zeu _ _ _ _) ⟨?_,?_,trivial⟩ <;> (show w.heap.size ≠ w.heap.size + 1; omega)
  clear hK9 KK
  refine tk 12 ?_
  refine rdn ?_
  clear hHeld sc0 sf0 sc1 sf1
  go_wp2
  refine bodyPost_ret (v:=.tuple #[.agg #[.slice none 0 0,.int .i64 0],.bool false]) (by simp [results,Tryz.results46,go_sem,r0,r1]) rfl ?_
  exact HG.out
 ·go_simp
  obtain ⟨t1,hlit,t3⟩:=zaE D 51 #[.slice V k cv]
  refine hK9.out _ _ (Cs.below hHeld t1) (fun hHeld => ?_)
  clear hK9 KK
  have HB:=lh9 (zaa HB.out t1)
  have HK:=lh9 (zac t1 HK.out)
  have HKM:=lh9 (zac t1 HKM.out)
  have HV:=lh9 (HV.out.keep t1)
  obtain ⟨W4,hW4⟩ : ∃ x,x = D.alloc (.cells #[.slice V k cv] 51):=⟨_,rfl⟩
  obtain ⟨gl,hgl⟩ : ∃ x,x = D.heap.size:=⟨_,rfl⟩
  have HKB : Hid (w.heap.size + 1 < W4.heap.size):=by rw [hW4]; exact Nat.lt_of_lt_of_le HKB.out t1.size
  rw [← hW4] at hlit HB HK HKM HV hHeld ⊢
  rw [← hgl] at hlit ⊢
  clear t1 t3 hW4 hgl
  refine rc 4 (fun KK hK9 => ?_)
  go_simp
  refine (HC.out _ HB.out).mono ?_
  rintro e W5 ⟨v9,vs,rfl,hon,hb⟩
  refine hK9.out _ _ (Cs.below hHeld hb) (fun hHeld => ?_)
  clear hK9 KK
  have HB:=lh9 (zaa HB.out hb)
  have HK:=lh9 (zac hb HK.out)
  have HKM:=lh9 (zac hb HKM.out)
  have HV:=lh9 (HV.out.keep hb)
  have hlit:=zac hb hlit
  obtain ⟨base,hbase⟩ : ∃ x,x = W4.heap.size:=⟨_,rfl⟩
  rw [← hbase] at hon HKB
  have hbs : base ≤ W5.heap.size:=by rw [hbase]; exact hb.size
  have HWB : Hid (w.heap.size ≤ base):=by have:=HKB.out; show _ ≤ _; omega
  clear hb hbase
  have HON : Hid (zbx (zaI zaj) W5 base 51 v9 MM vs):=hon
  clear hon
  have HOWN : Hid (W5.ownsRow base 51 1 v9 n vs):=by have:=HON.out.own; rw [HLM.out] at this; exact this
  have HSL:=lh9 HON.out.sl
  have HBS : Hid (base ≤ W5.heap.size):=hbs
  have HZS : Hid (∀ u ∈ (Value.slice none 0 0).cells.toList,zbQ u):=by intro u hu; simp [Value.cells] at hu; exact ⟨_,_,_,hu⟩
  have HNN : Hid (∀ u ∈ [Value.slice V k cv],zbQ u):=by intro u hu; simp at hu; exact ⟨_,_,_,hu⟩
  have HONE : Hid (∀ u ∈ [Value.slice V k cv],u.oneCell' = true):=by intro u hu; simp at hu; subst hu; rfl
  have HOB:=lh9 (fun r (h : v9.ownBlock = some r) => HON.out.own.lt r h)
  have HCELL : Hid (∀ j u,[Value.slice V k cv][j]? = some u → W5.cell? ((⟨gl,0,none⟩ : Addr).add j) = some u):=fun j u hu => by
   rw [zaJ]
   match j,hu with
   | 0,hu => simp at hu; subst hu; exact hlit.c1
  clear hlit hbs
  refine rc 7 (fun KK hK9 => ?_)
  refine zfB _ (.tmp 10) (.tmp 12) 26 rfl base 51 i9 (.slice none 0 0) 1 24 Tryz.underlying26 hi9 hz9 hz10 hz11 rfl (by decide) v9 n vs rfl HOWN.out ⟨gl,0,none⟩ 1 1 [.slice V k cv] rfl rfl HCELL.out HONE.out (by unfold maxLen; omega) (by omega) HBS.out HSL.out HZS.out HNN.out ?_
  intro v' w8 hown' hgrow hat hsl'
  have hon8:=zbx.grow (n:=n + 1) (L:=xs) (zaz zam) HON.out HV.out HLX.out hown' (by rw [HLM.out]) hgrow hsl'
  have HB8:=lh9 (HB.out.grown hgrow HB.out.size (fun r hr => Nat.le_trans HWB.out (HOB.out r hr).1))
  have HK8 : Hid (Blk w8 (w.heap.size + 1) 28 #[.slice none 0 0,.int .i64 0]):=zcd HK.out hgrow (fun e => by have:=(HOB.out _ e).1; have:=HKB.out; omega)
  have HKM8 : Hid (Blk w8 w.heap.size 28 #[.slice A n c,.int .i64 (m : Int)]):=zcd HKM.out hgrow (fun e => by have:=(HOB.out _ e).1; have:=HKB.out; omega)
  obtain ⟨Q,q,rfl,hq1,hq2,hrs,-⟩:=hon8.shape (n:=N) (by rw [List.length_append,HLM.out]; exact HN.out)
  have HRS:=lh9 hrs
  obtain ⟨p0,p1⟩:=HKM8.out.c2
  refine hK9.out _ _ (csc p0 (csc p1 csn)) (fun hHeld => ?_)
  clear hK9 KK hown' hgrow hat hsl' hon8 hrs p0 p1 HON HOWN HSL HBS HZS HNN HONE HOB HCELL HB HK HKM hq1 hq2
  have HB:=HB8
  have HK:=HK8
  clear HB8 HK8 HKM8
  refine rc 8 (fun KK hK9 => ?_)
  go_simp
  refine (HOF.out _ _ _ HB.out HRS.out).mono ?_
  rintro e w9 ⟨rfl,hb⟩
  refine hK9.out _ _ (Cs.below hHeld hb) (fun hHeld => ?_)
  clear hK9 KK
  have hk3:=zac hb HK.out
  obtain ⟨sc0,sf0,sc1,sf1⟩:=st2 hk3 (.slice none 0 0)
  obtain ⟨r0,r1⟩:=(sn2 hk3 (.slice none 0 0) (.int .i64 0)).c2
  have HG:=lh9 (gmn2 (g:=w.heap.size + 1) (zaa HB.out hb) (by omega))
  clear hb hk3  HB HK
  refine tk 9 ?_
  refine tk 10 ?_
  refine rc 11 (fun KK hK9 => ?_)
  go_simp
  refine hK9.out _ _ ?_ (fun hHeld => ?_)
  ·refine Cs.far hHeld (zeu _ _ _ _) ⟨?_,?_,trivial⟩ <;> (show w.heap.size ≠ w.heap.size + 1; omega)
  clear hK9 KK
  refine tk 12 ?_
  refine rdn ?_
  clear hHeld sc0 sf0 sc1 sf1
  go_wp2
  refine bodyPost_ret (v:=.tuple #[.agg #[.slice none 0 0,.int .i64 0],.bool false]) (by simp [results,Tryz.results46,go_sem,r0,r1]) rfl ?_
  exact HG.out
end
end Go.Proofs.YtedbgdlbgohiiaaGreatDoor
