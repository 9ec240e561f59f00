/- What this claim leans on. -/
import Derived.Test.YtedbgdlbgohiiaaGreatDoorBMOf
import Derived.Test.YtedbgdlbgohiiaaGreatDoorBMLook
import Derived.Test.YtedbgdlbgohiiaaGreatDoorBMDel
namespace Go.Proofs.YtedbgdlbgohiiaaGreatDoor
open Go Go.RowKit
set_option maxHeartbeats 16000000
set_option maxRecDepth 100000
set_option linter.unusedVariables false
set_option linter.unusedSimpArgs false
theorem zaZ.at_some {w : World} {base n : Nat} {t : TypeId} {v : Value} {Ls : List (List Rat)} {vs : List Value} (h : zaZ (zaH zai) w base t v Ls vs) (hl : Ls.length = n) (hn : 0 < n) : ∃ g c,v = .slice (some ⟨g,0,none⟩) n c:=by
 subst hl
 rcases h.own.2 with ⟨rfl,h0⟩ | ⟨g,cap,cur,rfl,_⟩
 ·omega
 ·exact ⟨g,cap,rfl⟩
section
variable {A : oA9} {n c m K : Nat} {MM : List (List Rat)} {w : World}
theorem zhk {V : oA9} {k cv N : Nat} {xs : List Rat} (hN : n + 1 = N) (h : zat w A n c m MM) (hv : zaD w V k cv xs) (hno : zeH (N : Int) (m : Int) = false ∨ k ≠ m) : Calls Tryz.prog 46 #[.agg #[.slice A n c,.int .i64 (m : Int)],.slice V k cv] w (zdu w):=by
 obtain ⟨i9,hi9,hz9,hz10,hz11⟩:=info_parts zdl
 obtain ⟨hn,hm⟩:=And.intro h.hn h.hm
 have hlx:=hv.len
 have HLX:=lh9 hlx
 have HLM:=lh9 h.dims.rows
 have HN:=lh9 hN
 have HOF : Hid (∀ (W : World) (Q : oA9) (q : Nat),Below w.heap.size w W → zaE (zaH zai) W Q N (MM ++ [xs]) → Calls Tryz.prog 50 #[.int .i64 (m : Int),.slice Q N q] W (zdu W)):=fun W Q q hb hr => by
  refine znf hr (by omega) ?_
  rcases hno with h1 | h1
  ·exact Or.inl h1
  ·refine Or.inr ?_
   unfold badB
   refine List.any_eq_true.2 ⟨xs,List.mem_append.2 (Or.inr (List.mem_singleton.2 rfl)),?_⟩
   simp
   omega
 have HC:=lh9 (fun W (hb : Below w.heap.size w W) => zfd (c:=c) (h.keep hb).rows (by omega))
 obtain ⟨bx1,bx2,bx3,bz⟩:=zbo w 28 28 #[.slice A n c,.int .i64 (m : Int)] #[.slice none 0 0,.int .i64 0]
 obtain ⟨p0,p1⟩:=bx2.c2
 have HB:=lh9 bx1
 have HKM:=lh9 bx2
 have HK:=lh9 bx3
 have HV:=lh9 (hv.keep bx1)
 clear h hv hN hlx bx1 bx2 bx3 bz hno
 go_enter Tryz.func46,Tryz.ntmps46
 go_wp2_with fail
 generalize (w.alloc (.cells #[.slice A n c,.int .i64 (m : Int)] 28)).alloc (.cells #[.slice none 0 0,.int .i64 0] 28) = W1 at *
 have hbd:=(Below.refl W1.heap.size W1).drew
 refine rg (csc p0 (csc p1 csn)) (fun hHeld => ?_)
 clear p0 p1
 have HB:=lh9 (zaa HB.out hbd)
 have HK:=lh9 (zac hbd HK.out)
 have HKM:=lh9 (zac hbd HKM.out)
 have HV:=lh9 (HV.out.keep hbd)
 clear hbd
 generalize W1.drew = D at *
 refine tk 0 ?_
 refine tk 1 ?_
 refine tk 2 ?_
 refine tk 3 ?_
 refine tk 5 ?_
 have HKB : Hid (w.heap.size + 1 < D.heap.size):=HK.out.lt
 refine rcb 4 6 (fun KK hK9 => ?_) (fun KK hK9 => ?_)
 ·go_simp
  refine (HC.out _ HB.out).mono ?_
  rintro e w4 ⟨v9,vs,rfl,hon,hb⟩
  refine hK9.out _ _ (Cs.below hHeld hb) (fun hHeld => ?_)
  clear hK9 KK
  have HB:=lh9 (zaa HB.out hb)
  have HK:=lh9 (zac hb HK.out)
  have HKM:=lh9 (zac hb HKM.out)
  have HV:=lh9 (HV.out.keep hb)
  obtain ⟨base,hbase⟩ : ∃ x,x = D.heap.size:=⟨_,rfl⟩
  rw [← hbase] at hon HKB
  have hbs : base ≤ w4.heap.size:=by rw [hbase]; exact hb.size
  have HWB : Hid (w.heap.size ≤ base):=by have:=HKB.out; show _ ≤ _; omega
  clear hb hbase
  refine rc 6 (fun KK hK9 => ?_)
  go_simp
  obtain ⟨t1,hlit,t3⟩:=zaC w4 51 #[.slice V k cv]
  refine hK9.out _ _ (Cs.below hHeld t1) (fun hHeld => ?_)
  clear hK9 KK
  have HB:=lh9 (zaa HB.out t1)
  have HK:=lh9 (zac t1 HK.out)
  have HKM:=lh9 (zac t1 HKM.out)
  have HV:=lh9 (HV.out.keep t1)
  have hon:=hon.below (zaA zal) t1
  have hbs:=Nat.le_trans hbs t1.size
  obtain ⟨W5,hW5⟩ : ∃ x,x = w4.alloc (.cells #[.slice V k cv] 51):=⟨_,rfl⟩
  obtain ⟨gl,hgl⟩ : ∃ x,x = w4.heap.size:=⟨_,rfl⟩
  rw [← hW5] at hon hbs hlit HB HK HKM HV hHeld ⊢
  rw [← hgl] at hlit ⊢
  clear t1 t3 hW5 hgl
  have HON : Hid (zaZ (zaH zai) W5 base 51 v9 MM vs):=hon
  clear hon
  have HOWN : Hid (W5.ownsRow base 51 1 v9 n vs):=by have:=HON.out.own; rw [HLM.out] at this; exact this
  have HSL:=lh9 HON.out.sl
  have HBS : Hid (base ≤ W5.heap.size):=hbs
  have HZS : Hid (∀ u ∈ (Value.slice none 0 0).cells.toList,zbr u):=by intro u hu; simp [Value.cells] at hu; exact ⟨_,_,_,hu⟩
  have HNN : Hid (∀ u ∈ [Value.slice V k cv],zbr u):=by intro u hu; simp at hu; exact ⟨_,_,_,hu⟩
  have HONE : Hid (∀ u ∈ [Value.slice V k cv],u.oneCell' = true):=by intro u hu; simp at hu; subst hu; rfl
  have HOB:=lh9 (fun r (h : v9.ownBlock = some r) => HON.out.own.lt r h)
  have HCELL : Hid (∀ j u,[Value.slice V k cv][j]? = some u → W5.cell? ((⟨gl,0,none⟩ : Addr).add j) = some u):=fun j u hu => by
   rw [zay]
   match j,hu with
   | 0,hu => simp at hu; subst hu; exact hlit.c1
  clear hlit hbs
  refine rc 7 (fun KK hK9 => ?_)
  refine zcR _ (.tmp 10) (.tmp 12) 26 rfl base 51 i9 (.slice none 0 0) 1 24 Tryz.underlying26 hi9 hz9 hz10 hz11 rfl (by decide) v9 n vs rfl HOWN.out ⟨gl,0,none⟩ 1 1 [.slice V k cv] rfl rfl HCELL.out HONE.out (by unfold maxLen; omega) (by omega) HBS.out HSL.out HZS.out HNN.out ?_
  intro v' w8 hown' hgrow hat hsl'
  have hon8:=zaZ.grow (n:=n + 1) (L:=xs) (zaA zal) HON.out HV.out HLX.out hown' (by rw [HLM.out]) hgrow hsl'
  have HB8:=lh9 (HB.out.grown hgrow HB.out.size (fun r hr => Nat.le_trans HWB.out (HOB.out r hr).1))
  have HK8 : Hid (Blk w8 (w.heap.size + 1) 28 #[.slice none 0 0,.int .i64 0]):=zbe HK.out hgrow (fun e => by have:=(HOB.out _ e).1; have:=HKB.out; omega)
  have HKM8 : Hid (Blk w8 w.heap.size 28 #[.slice A n c,.int .i64 (m : Int)]):=zbe HKM.out hgrow (fun e => by have:=(HOB.out _ e).1; have:=HKB.out; omega)
  obtain ⟨Q,q,rfl,hq1,hq2,hrs,-⟩:=hon8.shape (n:=N) (by rw [List.length_append,HLM.out]; exact HN.out)
  have HRS:=lh9 hrs
  obtain ⟨p0,p1⟩:=HKM8.out.c2
  refine hK9.out _ _ (csc p0 (csc p1 csn)) (fun hHeld => ?_)
  clear hK9 KK hown' hgrow hat hsl' hon8 hrs p0 p1 HON HOWN HSL HBS HZS HNN HONE HOB HCELL HB HK HKM hq1 hq2
  have HB:=HB8
  have HK:=HK8
  clear HB8 HK8 HKM8
  refine rc 8 (fun KK hK9 => ?_)
  go_simp
  refine (HOF.out _ _ _ HB.out HRS.out).mono ?_
  rintro e w9 ⟨rfl,hb⟩
  refine hK9.out _ _ (Cs.below hHeld hb) (fun hHeld => ?_)
  clear hK9 KK
  have hk3:=zac hb HK.out
  obtain ⟨sc0,sf0,sc1,sf1⟩:=st2 hk3 (.slice none 0 0)
  obtain ⟨r0,r1⟩:=(sn2 hk3 (.slice none 0 0) (.int .i64 0)).c2
  have HG:=lh9 (gmn2 (g:=w.heap.size + 1) (zaa HB.out hb) (by omega))
  clear hb hk3  HB HK
  refine tk 9 ?_
  refine tk 10 ?_
  refine rc 11 (fun KK hK9 => ?_)
  go_simp
  refine hK9.out _ _ ?_ (fun hHeld => ?_)
  ·refine Cs.far hHeld (zdf _ _ _ _) ⟨?_,?_,trivial⟩ <;> (show w.heap.size ≠ w.heap.size + 1; omega)
  clear hK9 KK
  refine tk 12 ?_
  refine rdn ?_
  clear hHeld sc0 sf0 sc1 sf1
  go_wp2
  refine bodyPost_ret (v:=.tuple #[.agg #[.slice none 0 0,.int .i64 0],.bool false]) (by simp [results,Tryz.results46,go_sem,r0,r1]) rfl ?_
  exact HG.out
 ·go_simp
  obtain ⟨t1,hlit,t3⟩:=zaC D 51 #[.slice V k cv]
  refine hK9.out _ _ (Cs.below hHeld t1) (fun hHeld => ?_)
  clear hK9 KK
  have HB:=lh9 (zaa HB.out t1)
  have HK:=lh9 (zac t1 HK.out)
  have HKM:=lh9 (zac t1 HKM.out)
  have HV:=lh9 (HV.out.keep t1)
  obtain ⟨W4,hW4⟩ : ∃ x,x = D.alloc (.cells #[.slice V k cv] 51):=⟨_,rfl⟩
  obtain ⟨gl,hgl⟩ : ∃ x,x = D.heap.size:=⟨_,rfl⟩
  have HKB : Hid (w.heap.size + 1 < W4.heap.size):=by rw [hW4]; exact Nat.lt_of_lt_of_le HKB.out t1.size
  rw [← hW4] at hlit HB HK HKM HV hHeld ⊢
  rw [← hgl] at hlit ⊢
  clear t1 t3 hW4 hgl
  refine rc 4 (fun KK hK9 => ?_)
  go_simp
  refine (HC.out _ HB.out).mono ?_
  rintro e W5 ⟨v9,vs,rfl,hon,hb⟩
  refine hK9.out _ _ (Cs.below hHeld hb) (fun hHeld => ?_)
  clear hK9 KK
  have HB:=lh9 (zaa HB.out hb)
  have HK:=lh9 (zac hb HK.out)
  have HKM:=lh9 (zac hb HKM.out)
  have HV:=lh9 (HV.out.keep hb)
  have hlit:=zac hb hlit
  obtain ⟨base,hbase⟩ : ∃ x,x = W4.heap.size:=⟨_,rfl⟩
  rw [← hbase] at hon HKB
  have hbs : base ≤ W5.heap.size:=by rw [hbase]; exact hb.size
  have HWB : Hid (w.heap.size ≤ base):=by have:=HKB.out; show _ ≤ _; omega
  clear hb hbase
  have HON : Hid (zaZ (zaH zai) W5 base 51 v9 MM vs):=hon
  clear hon
  have HOWN : Hid (W5.ownsRow base 51 1 v9 n vs):=by have:=HON.out.own; rw [HLM.out] at this; exact this
  have HSL:=lh9 HON.out.sl
  have HBS : Hid (base ≤ W5.heap.size):=hbs
  have HZS : Hid (∀ u ∈ (Value.slice none 0 0).cells.toList,zbr u):=by intro u hu; simp [Value.cells] at hu; exact ⟨_,_,_,hu⟩
  have HNN : Hid (∀ u ∈ [Value.slice V k cv],zbr u):=by intro u hu; simp at hu; exact ⟨_,_,_,hu⟩
  have HONE : Hid (∀ u ∈ [Value.slice V k cv],u.oneCell' = true):=by intro u hu; simp at hu; subst hu; rfl
  have HOB:=lh9 (fun r (h : v9.ownBlock = some r) => HON.out.own.lt r h)
  have HCELL : Hid (∀ j u,[Value.slice V k cv][j]? = some u → W5.cell? ((⟨gl,0,none⟩ : Addr).add j) = some u):=fun j u hu => by
   rw [zay]
   match j,hu with
   | 0,hu => simp at hu; subst hu; exact hlit.c1
  clear hlit hbs
  refine rc 7 (fun KK hK9 => ?_)
  refine zcR _ (.tmp 10) (.tmp 12) 26 rfl base 51 i9 (.slice none 0 0) 1 24 Tryz.underlying26 hi9 hz9 hz10 hz11 rfl (by decide) v9 n vs rfl HOWN.out ⟨gl,0,none⟩ 1 1 [.slice V k cv] rfl rfl HCELL.out HONE.out (by unfold maxLen; omega) (by omega) HBS.out HSL.out HZS.out HNN.out ?_
  intro v' w8 hown' hgrow hat hsl'
  have hon8:=zaZ.grow (n:=n + 1) (L:=xs) (zaA zal) HON.out HV.out HLX.out hown' (by rw [HLM.out]) hgrow hsl'
  have HB8:=lh9 (HB.out.grown hgrow HB.out.size (fun r hr => Nat.le_trans HWB.out (HOB.out r hr).1))
  have HK8 : Hid (Blk w8 (w.heap.size + 1) 28 #[.slice none 0 0,.int .i64 0]):=zbe HK.out hgrow (fun e => by have:=(HOB.out _ e).1; have:=HKB.out; omega)
  have HKM8 : Hid (Blk w8 w.heap.size 28 #[.slice A n c,.int .i64 (m : Int)]):=zbe HKM.out hgrow (fun e => by have:=(HOB.out _ e).1; have:=HKB.out; omega)
  obtain ⟨Q,q,rfl,hq1,hq2,hrs,-⟩:=hon8.shape (n:=N) (by rw [List.length_append,HLM.out]; exact HN.out)
  have HRS:=lh9 hrs
  obtain ⟨p0,p1⟩:=HKM8.out.c2
  refine hK9.out _ _ (csc p0 (csc p1 csn)) (fun hHeld => ?_)
  clear hK9 KK hown' hgrow hat hsl' hon8 hrs p0 p1 HON HOWN HSL HBS HZS HNN HONE HOB HCELL HB HK HKM hq1 hq2
  have HB:=HB8
  have HK:=HK8
  clear HB8 HK8 HKM8
  refine rc 8 (fun KK hK9 => ?_)
  go_simp
  refine (HOF.out _ _ _ HB.out HRS.out).mono ?_
  rintro e w9 ⟨rfl,hb⟩
  refine hK9.out _ _ (Cs.below hHeld hb) (fun hHeld => ?_)
  clear hK9 KK
  have hk3:=zac hb HK.out
  obtain ⟨sc0,sf0,sc1,sf1⟩:=st2 hk3 (.slice none 0 0)
  obtain ⟨r0,r1⟩:=(sn2 hk3 (.slice none 0 0) (.int .i64 0)).c2
  have HG:=lh9 (gmn2 (g:=w.heap.size + 1) (zaa HB.out hb) (by omega))
  clear hb hk3  HB HK
  refine tk 9 ?_
  refine tk 10 ?_
  refine rc 11 (fun KK hK9 => ?_)
  go_simp
  refine hK9.out _ _ ?_ (fun hHeld => ?_)
  ·refine Cs.far hHeld (zdf _ _ _ _) ⟨?_,?_,trivial⟩ <;> (show w.heap.size ≠ w.heap.size + 1; omega)
  clear hK9 KK
  refine tk 12 ?_
  refine rdn ?_
  clear hHeld sc0 sf0 sc1 sf1
  go_wp2
  refine bodyPost_ret (v:=.tuple #[.agg #[.slice none 0 0,.int .i64 0],.bool false]) (by simp [results,Tryz.results46,go_sem,r0,r1]) rfl ?_
  exact HG.out
theorem zkb {V : oA9} {k cv N : Nat} {xs : List Rat} (hN : n + 1 = N) (hT : zaj w) (h : zat w A n c m MM) (z : zau K MM) (hv : zaD w V k cv xs) (zx : zav K xs) (hk : k = m) (hn9 : N ≤ 64) (hK : K + 2 ≤ 67108864:=by omega) : Calls Tryz.prog 46 #[.agg #[.slice A n c,.int .i64 (m : Int)],.slice V k cv] w (zbq w N m (MM ++ [xs])):=by
 obtain ⟨i9,hi9,hz9,hz10,hz11⟩:=info_parts zdl
 obtain ⟨hn,hm⟩:=And.intro h.hn h.hm
 have hlx:=hv.len
 have HLX:=lh9 hlx
 have HLM:=lh9 h.dims.rows
 have HN:=lh9 hN
 have HOF : Hid (∀ (W : World) (Q : oA9) (q : Nat),Below w.heap.size w W → zaE (zaH zai) W Q N (MM ++ [xs]) → Calls Tryz.prog 50 #[.int .i64 (m : Int),.slice Q N q] W (zbq W N m (MM ++ [xs]))):=fun W Q q hb hr => ziY (K:=K) (hT.on hb) hr (by rw [← hN]; exact h.dims.snoc (hlx.trans hk)) hn9 hm (fun L hL => by rcases List.mem_append.1 hL with hL | hL; exact z L hL; rw [List.mem_singleton.1 hL]; exact zx) hK
 have HC:=lh9 (fun W (hb : Below w.heap.size w W) => zfd (c:=c) (h.keep hb).rows (by omega))
 obtain ⟨bx1,bx2,bx3,bz⟩:=zbo w 28 28 #[.slice A n c,.int .i64 (m : Int)] #[.slice none 0 0,.int .i64 0]
 obtain ⟨p0,p1⟩:=bx2.c2
 have HB:=lh9 bx1
 have HKM:=lh9 bx2
 have HK:=lh9 bx3
 have HV:=lh9 (hv.keep bx1)
 clear h hv hN hlx bx1 bx2 bx3 bz hT z zx hk
 go_enter Tryz.func46,Tryz.ntmps46
 go_wp2_with fail
 generalize (w.alloc (.cells #[.slice A n c,.int .i64 (m : Int)] 28)).alloc (.cells #[.slice none 0 0,.int .i64 0] 28) = W1 at *
 have hbd:=(Below.refl W1.heap.size W1).drew
 refine rg (csc p0 (csc p1 csn)) (fun hHeld => ?_)
 clear p0 p1
 have HB:=lh9 (zaa HB.out hbd)
 have HK:=lh9 (zac hbd HK.out)
 have HKM:=lh9 (zac hbd HKM.out)
 have HV:=lh9 (HV.out.keep hbd)
 clear hbd
 generalize W1.drew = D at *
 refine tk 0 ?_
 refine tk 1 ?_
 refine tk 2 ?_
 refine tk 3 ?_
 refine tk 5 ?_
 have HKB : Hid (w.heap.size + 1 < D.heap.size):=HK.out.lt
 refine rcb 4 6 (fun KK hK9 => ?_) (fun KK hK9 => ?_)
 ·go_simp
  refine (HC.out _ HB.out).mono ?_
  rintro e w4 ⟨v9,vs,rfl,hon,hb⟩
  refine hK9.out _ _ (Cs.below hHeld hb) (fun hHeld => ?_)
  clear hK9 KK
  have HB:=lh9 (zaa HB.out hb)
  have HK:=lh9 (zac hb HK.out)
  have HKM:=lh9 (zac hb HKM.out)
  have HV:=lh9 (HV.out.keep hb)
  obtain ⟨base,hbase⟩ : ∃ x,x = D.heap.size:=⟨_,rfl⟩
  rw [← hbase] at hon HKB
  have hbs : base ≤ w4.heap.size:=by rw [hbase]; exact hb.size
  have HWB : Hid (w.heap.size ≤ base):=by have:=HKB.out; show _ ≤ _; omega
  clear hb hbase
  refine rc 6 (fun KK hK9 => ?_)
  go_simp
  obtain ⟨t1,hlit,t3⟩:=zaC w4 51 #[.slice V k cv]
  refine hK9.out _ _ (Cs.below hHeld t1) (fun hHeld => ?_)
  clear hK9 KK
  have HB:=lh9 (zaa HB.out t1)
  have HK:=lh9 (zac t1 HK.out)
  have HKM:=lh9 (zac t1 HKM.out)
  have HV:=lh9 (HV.out.keep t1)
  have hon:=hon.below (zaA zal) t1
  have hbs:=Nat.le_trans hbs t1.size
  obtain ⟨W5,hW5⟩ : ∃ x,x = w4.alloc (.cells #[.slice V k cv] 51):=⟨_,rfl⟩
  obtain ⟨gl,hgl⟩ : ∃ x,x = w4.heap.size:=⟨_,rfl⟩
  rw [← hW5] at hon hbs hlit HB HK HKM HV hHeld ⊢
  rw [← hgl] at hlit ⊢
  clear t1 t3 hW5 hgl
  have HON : Hid (zaZ (zaH zai) W5 base 51 v9 MM vs):=hon
  clear hon
  have HOWN : Hid (W5.ownsRow base 51 1 v9 n vs):=by have:=HON.out.own; rw [HLM.out] at this; exact this
  have HSL:=lh9 HON.out.sl
  have HBS : Hid (base ≤ W5.heap.size):=hbs
  have HZS : Hid (∀ u ∈ (Value.slice none 0 0).cells.toList,zbr u):=by intro u hu; simp [Value.cells] at hu; exact ⟨_,_,_,hu⟩
  have HNN : Hid (∀ u ∈ [Value.slice V k cv],zbr u):=by intro u hu; simp at hu; exact ⟨_,_,_,hu⟩
  have HONE : Hid (∀ u ∈ [Value.slice V k cv],u.oneCell' = true):=by intro u hu; simp at hu; subst hu; rfl
  have HOB:=lh9 (fun r (h : v9.ownBlock = some r) => HON.out.own.lt r h)
  have HCELL : Hid (∀ j u,[Value.slice V k cv][j]? = some u → W5.cell? ((⟨gl,0,none⟩ : Addr).add j) = some u):=fun j u hu => by
   rw [zay]
   match j,hu with
   | 0,hu => simp at hu; subst hu; exact hlit.c1
  clear hlit hbs
  refine rc 7 (fun KK hK9 => ?_)
  refine zcR _ (.tmp 10) (.tmp 12) 26 rfl base 51 i9 (.slice none 0 0) 1 24 Tryz.underlying26 hi9 hz9 hz10 hz11 rfl (by decide) v9 n vs rfl HOWN.out ⟨gl,0,none⟩ 1 1 [.slice V k cv] rfl rfl HCELL.out HONE.out (by unfold maxLen; omega) (by omega) HBS.out HSL.out HZS.out HNN.out ?_
  intro v' w8 hown' hgrow hat hsl'
  have hon8:=zaZ.grow (n:=n + 1) (L:=xs) (zaA zal) HON.out HV.out HLX.out hown' (by rw [HLM.out]) hgrow hsl'
  have HB8:=lh9 (HB.out.grown hgrow HB.out.size (fun r hr => Nat.le_trans HWB.out (HOB.out r hr).1))
  have HK8 : Hid (Blk w8 (w.heap.size + 1) 28 #[.slice none 0 0,.int .i64 0]):=zbe HK.out hgrow (fun e => by have:=(HOB.out _ e).1; have:=HKB.out; omega)
  have HKM8 : Hid (Blk w8 w.heap.size 28 #[.slice A n c,.int .i64 (m : Int)]):=zbe HKM.out hgrow (fun e => by have:=(HOB.out _ e).1; have:=HKB.out; omega)
  obtain ⟨Q,q,rfl,hq1,hq2,hrs,-⟩:=hon8.shape (n:=N) (by rw [List.length_append,HLM.out]; exact HN.out)
  have HRS:=lh9 hrs
  obtain ⟨p0,p1⟩:=HKM8.out.c2
  refine hK9.out _ _ (csc p0 (csc p1 csn)) (fun hHeld => ?_)
  clear hK9 KK hown' hgrow hat hsl' hon8 hrs p0 p1 HON HOWN HSL HBS HZS HNN HONE HOB HCELL HB HK HKM hq1 hq2
  have HB:=HB8
  have HK:=HK8
  clear HB8 HK8 HKM8
  refine rc 8 (fun KK hK9 => ?_)
  go_simp
  refine (HOF.out _ _ _ HB.out HRS.out).mono ?_
  rintro e w9 ⟨A3,c3,rfl,hm3,hf3,hb⟩
  refine hK9.out _ _ (Cs.below hHeld hb) (fun hHeld => ?_)
  clear hK9 KK
  have hk3:=zac hb HK.out
  obtain ⟨sc0,sf0,sc1,sf1⟩:=st2 hk3 (.slice A3 N c3)
  obtain ⟨r0,r1⟩:=(sn2 hk3 (.slice A3 N c3) (.int .i64 (m : Int))).c2
  have HG:=lh9 (gmb2 hm3 (fun ad e => Nat.lt_of_lt_of_le HK.out.lt (hf3 ad e)) hk3 (zaa HB.out hb) (by omega))
  clear hb hk3 hm3 hf3 HB HK
  refine tk 9 ?_
  refine tk 10 ?_
  refine rc 11 (fun KK hK9 => ?_)
  go_simp
  refine hK9.out _ _ ?_ (fun hHeld => ?_)
  ·refine Cs.far hHeld (zdf _ _ _ _) ⟨?_,?_,trivial⟩ <;> (show w.heap.size ≠ w.heap.size + 1; omega)
  clear hK9 KK
  refine tk 12 ?_
  refine rdn ?_
  clear hHeld sc0 sf0 sc1 sf1
  go_wp2
  refine bodyPost_ret (v:=.tuple #[.agg #[.slice A3 N c3,.int .i64 (m : Int)],.bool true]) (by simp [results,Tryz.results46,go_sem,r0,r1]) rfl ?_
  exact HG.out
 ·go_simp
  obtain ⟨t1,hlit,t3⟩:=zaC D 51 #[.slice V k cv]
  refine hK9.out _ _ (Cs.below hHeld t1) (fun hHeld => ?_)
  clear hK9 KK
  have HB:=lh9 (zaa HB.out t1)
  have HK:=lh9 (zac t1 HK.out)
  have HKM:=lh9 (zac t1 HKM.out)
  have HV:=lh9 (HV.out.keep t1)
  obtain ⟨W4,hW4⟩ : ∃ x,x = D.alloc (.cells #[.slice V k cv] 51):=⟨_,rfl⟩
  obtain ⟨gl,hgl⟩ : ∃ x,x = D.heap.size:=⟨_,rfl⟩
  have HKB : Hid (w.heap.size + 1 < W4.heap.size):=by rw [hW4]; exact Nat.lt_of_lt_of_le HKB.out t1.size
  rw [← hW4] at hlit HB HK HKM HV hHeld ⊢
  rw [← hgl] at hlit ⊢
  clear t1 t3 hW4 hgl
  refine rc 4 (fun KK hK9 => ?_)
  go_simp
  refine (HC.out _ HB.out).mono ?_
  rintro e W5 ⟨v9,vs,rfl,hon,hb⟩
  refine hK9.out _ _ (Cs.below hHeld hb) (fun hHeld => ?_)
  clear hK9 KK
  have HB:=lh9 (zaa HB.out hb)
  have HK:=lh9 (zac hb HK.out)
  have HKM:=lh9 (zac hb HKM.out)
  have HV:=lh9 (HV.out.keep hb)
  have hlit:=zac hb hlit
  obtain ⟨base,hbase⟩ : ∃ x,x = W4.heap.size:=⟨_,rfl⟩
  rw [← hbase] at hon HKB
  have hbs : base ≤ W5.heap.size:=by rw [hbase]; exact hb.size
  have HWB : Hid (w.heap.size ≤ base):=by have:=HKB.out; show _ ≤ _; omega
  clear hb hbase
  have HON : Hid (zaZ (zaH zai) W5 base 51 v9 MM vs):=hon
  clear hon
  have HOWN : Hid (W5.ownsRow base 51 1 v9 n vs):=by have:=HON.out.own; rw [HLM.out] at this; exact this
  have HSL:=lh9 HON.out.sl
  have HBS : Hid (base ≤ W5.heap.size):=hbs
  have HZS : Hid (∀ u ∈ (Value.slice none 0 0).cells.toList,zbr u):=by intro u hu; simp [Value.cells] at hu; exact ⟨_,_,_,hu⟩
  have HNN : Hid (∀ u ∈ [Value.slice V k cv],zbr u):=by intro u hu; simp at hu; exact ⟨_,_,_,hu⟩
  have HONE : Hid (∀ u ∈ [Value.slice V k cv],u.oneCell' = true):=by intro u hu; simp at hu; subst hu; rfl
  have HOB:=lh9 (fun r (h : v9.ownBlock = some r) => HON.out.own.lt r h)
  have HCELL : Hid (∀ j u,[Value.slice V k cv][j]? = some u → W5.cell? ((⟨gl,0,none⟩ : Addr).add j) = some u):=fun j u hu => by
   rw [zay]
   match j,hu with
   | 0,hu => simp at hu; subst hu; exact hlit.c1
  clear hlit hbs
  refine rc 7 (fun KK hK9 => ?_)
  refine zcR _ (.tmp 10) (.tmp 12) 26 rfl base 51 i9 (.slice none 0 0) 1 24 Tryz.underlying26 hi9 hz9 hz10 hz11 rfl (by decide) v9 n vs rfl HOWN.out ⟨gl,0,none⟩ 1 1 [.slice V k cv] rfl rfl HCELL.out HONE.out (by unfold maxLen; omega) (by omega) HBS.out HSL.out HZS.out HNN.out ?_
  intro v' w8 hown' hgrow hat hsl'
  have hon8:=zaZ.grow (n:=n + 1) (L:=xs) (zaA zal) HON.out HV.out HLX.out hown' (by rw [HLM.out]) hgrow hsl'
  have HB8:=lh9 (HB.out.grown hgrow HB.out.size (fun r hr => Nat.le_trans HWB.out (HOB.out r hr).1))
  have HK8 : Hid (Blk w8 (w.heap.size + 1) 28 #[.slice none 0 0,.int .i64 0]):=zbe HK.out hgrow (fun e => by have:=(HOB.out _ e).1; have:=HKB.out; omega)
  have HKM8 : Hid (Blk w8 w.heap.size 28 #[.slice A n c,.int .i64 (m : Int)]):=zbe HKM.out hgrow (fun e => by have:=(HOB.out _ e).1; have:=HKB.out; omega)
  obtain ⟨Q,q,rfl,hq1,hq2,hrs,-⟩:=hon8.shape (n:=N) (by rw [List.length_append,HLM.out]; exact HN.out)
  have HRS:=lh9 hrs
  obtain ⟨p0,p1⟩:=HKM8.out.c2
  refine hK9.out _ _ (csc p0 (csc p1 csn)) (fun hHeld => ?_)
  clear hK9 KK hown' hgrow hat hsl' hon8 hrs p0 p1 HON HOWN HSL HBS HZS HNN HONE HOB HCELL HB HK HKM hq1 hq2
  have HB:=HB8
  have HK:=HK8
  clear HB8 HK8 HKM8
  refine rc 8 (fun KK hK9 => ?_)
  go_simp
  refine (HOF.out _ _ _ HB.out HRS.out).mono ?_
  rintro e w9 ⟨A3,c3,rfl,hm3,hf3,hb⟩
  refine hK9.out _ _ (Cs.below hHeld hb) (fun hHeld => ?_)
  clear hK9 KK
  have hk3:=zac hb HK.out
  obtain ⟨sc0,sf0,sc1,sf1⟩:=st2 hk3 (.slice A3 N c3)
  obtain ⟨r0,r1⟩:=(sn2 hk3 (.slice A3 N c3) (.int .i64 (m : Int))).c2
  have HG:=lh9 (gmb2 hm3 (fun ad e => Nat.lt_of_lt_of_le HK.out.lt (hf3 ad e)) hk3 (zaa HB.out hb) (by omega))
  clear hb hk3 hm3 hf3 HB HK
  refine tk 9 ?_
  refine tk 10 ?_
  refine rc 11 (fun KK hK9 => ?_)
  go_simp
  refine hK9.out _ _ ?_ (fun hHeld => ?_)
  ·refine Cs.far hHeld (zdf _ _ _ _) ⟨?_,?_,trivial⟩ <;> (show w.heap.size ≠ w.heap.size + 1; omega)
  clear hK9 KK
  refine tk 12 ?_
  refine rdn ?_
  clear hHeld sc0 sf0 sc1 sf1
  go_wp2
  refine bodyPost_ret (v:=.tuple #[.agg #[.slice A3 N c3,.int .i64 (m : Int)],.bool true]) (by simp [results,Tryz.results46,go_sem,r0,r1]) rfl ?_
  exact HG.out
theorem zne {i N : Nat} (hN : N + 1 = n) (hT : zaj w) (h : zat w A n c m MM) (z : zau K MM) (hi : i < n) (hK : K + 2 ≤ 67108864:=by omega) : Calls Tryz.prog 47 #[.agg #[.slice A n c,.int .i64 (m : Int)],.int .i64 (i : Int)] w (zbq w N m (MM.eraseIdx i)):=by
 obtain ⟨hn,hm⟩:=And.intro h.hn h.hm
 have HR:=fun W => lh9 (zgb (zfz hi) A c (m : Int) W)
 have HLM:=lh9 h.dims.rows
 have HOF : Hid (∀ (W : World) (Q : oA9) (q : Nat),Below w.heap.size w W → zaE (zaH zai) W Q N (MM.eraseIdx i) → Calls Tryz.prog 50 #[.int .i64 (m : Int),.slice Q N q] W (zbq W N m (MM.eraseIdx i))):=fun W Q q hb hr =>
  ziY (K:=K) (hT.on hb) hr ⟨hr.len,fun L hL => h.dims.cols L (List.mem_of_mem_eraseIdx hL)⟩ (by omega) hm (fun L hL => z L (List.mem_of_mem_eraseIdx hL)) hK
 have HC:=lh9 (fun W (hb : Below w.heap.size w W) => zfd (c:=c) (h.keep hb).rows (by omega))
 have HDEL : ∀ (W : World) (base g cap : Nat) (z9 : Int),z9 = (i : Int) + 1 → zbs W base g n cap MM → Hid (Calls Tryz.prog 86 #[.slice (some ⟨g,0,none⟩) n cap,.int .i64 (i : Int),.int .i64 z9] W (fun e w' => e = .returned (.slice (some ⟨g,0,none⟩) N cap) ∧ zbs w' base g N cap (MM.eraseIdx i) ∧ ∀ w0 : World,w0.heap.size ≤ g → Below w0.heap.size w0 W → Below w0.heap.size w0 w')):=fun W base g cap z9 hz9 hr => by
  obtain rfl : z9 = ((i + 1 : Nat) : Int):=by omega
  exact zks hr rfl hN hi (by omega)
 obtain ⟨bx1,bx2,bx3,bz⟩:=zbo w 28 28 #[.slice A n c,.int .i64 (m : Int)] #[.slice none 0 0,.int .i64 0]
 obtain ⟨p0,p1⟩:=bx2.c2
 have HB:=lh9 bx1
 have HKM:=lh9 bx2
 have HK:=lh9 bx3
 have HN0 : Hid (0 < n):=by show _ < _; omega
 clear h hT z bx1 bx2 bx3 bz hN
 go_enter Tryz.func47,Tryz.ntmps47
 go_wp2_with fail
 refine (HR _).out.mono ?_
 rintro e w1 ⟨rfl,hb⟩
 have HB:=lh9 (zaa HB.out hb)
 have HK:=lh9 (zac hb HK.out)
 have HKM:=lh9 (zac hb HKM.out)
 obtain ⟨p0,p1⟩:=HKM.out.c2
 clear hb
 go_wp2_with fail
 have hbd:=(Below.refl w1.heap.size w1).drew
 refine rg (csc p0 (csc p1 csn)) (fun hHeld => ?_)
 clear p0 p1
 have HB:=lh9 (zaa HB.out hbd)
 have HK:=lh9 (zac hbd HK.out)
 have HKM:=lh9 (zac hbd HKM.out)
 clear hbd
 generalize w1.drew = D at *
 refine tk 0 ?_
 refine tk 1 ?_
 refine tk 2 ?_
 refine tk 3 ?_
 refine tk 5 ?_
 refine tk 6 ?_
 refine tk 7 ?_
 refine rc 4 (fun KK hK9 => ?_)
 go_simp
 refine (HC.out _ HB.out).mono ?_
 rintro e w4 ⟨v9,vs,rfl,hon,hb⟩
 obtain ⟨g9,cap,rfl⟩:=hon.at_some HLM.out HN0.out
 have hroom:=hon.room rfl
 have hsz:=HK.out.lt
 refine hK9.out _ _ (Cs.below hHeld hb) (fun hHeld => ?_)
 clear hK9 KK
 refine rc 8 (fun KK hK9 => ?_)
 go_simp
 refine (HDEL _ _ _ _ _ (by first | rfl | exact IntWalk.i64_in _ (by omega)) hroom).out.mono ?_
 rintro e w5 ⟨rfl,hr5,hb5⟩
 have hbD:=hb5 D hroom.ge hb
 have HRS:=lh9 hr5.rows
 have HB:=lh9 (zaa HB.out hbD)
 have HK:=lh9 (zac hbD HK.out)
 have HKM:=lh9 (zac hbD HKM.out)
 obtain ⟨p0,p1⟩:=HKM.out.c2
 refine hK9.out _ _ (csc p0 (csc p1 csn)) (fun hHeld => ?_)
 clear hK9 KK hb hbD hb5 hr5 hroom hon p0 p1 hsz
 refine rc 9 (fun KK hK9 => ?_)
 go_simp
 refine (HOF.out _ _ _ HB.out HRS.out).mono ?_
 rintro e w9 ⟨A3,c3,rfl,hm3,hf3,hb⟩
 refine hK9.out _ _ (Cs.below hHeld hb) (fun hHeld => ?_)
 clear hK9 KK
 have hk3:=zac hb HK.out
 obtain ⟨sc0,sf0,sc1,sf1⟩:=st2 hk3 (.slice A3 N c3)
 obtain ⟨r0,r1⟩:=(sn2 hk3 (.slice A3 N c3) (.int .i64 (m : Int))).c2
 have HG:=lh9 (gmb2 hm3 (fun ad e => Nat.lt_of_lt_of_le HK.out.lt (hf3 ad e)) hk3 (zaa HB.out hb) (by omega))
 clear hb hk3 hm3 hf3 HB HK
 refine tk 10 ?_
 refine tk 11 ?_
 refine rc 12 (fun KK hK9 => ?_)
 go_simp
 refine hK9.out _ _ ?_ (fun hHeld => ?_)
 ·refine Cs.far hHeld (zdf _ _ _ _) ⟨?_,?_,trivial⟩ <;> (show w.heap.size ≠ w.heap.size + 1; omega)
 clear hK9 KK
 refine tk 13 ?_
 refine rdn ?_
 clear hHeld sc0 sf0 sc1 sf1
 go_wp2
 refine bodyPost_ret (v:=.tuple #[.agg #[.slice A3 N c3,.int .i64 (m : Int)],.bool true]) (by simp [results,Tryz.results47,go_sem,r0,r1]) rfl ?_
 exact HG.out
end
end Go.Proofs.YtedbgdlbgohiiaaGreatDoor
