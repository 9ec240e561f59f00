/- What this claim leans on. -/
import Derived.Test.YtghpdeciaaagnaaGreatDoorIEKer
namespace Go.Proofs.YtghpdeciaaagnaaGreatDoor
open Go Go.RowKit
set_option maxHeartbeats 16000000
set_option maxRecDepth 100000
set_option linter.unusedVariables false
set_option linter.unusedSimpArgs false
def GB2 (m:Nat)(z:Int)(w:World)(M:List (List Rat))(e:Ending)(w':World):Prop:=∃(A:oA9) (c:Nat),e=.returned (.tuple #[.agg #[.slice A 2 c,.int .i64 z],.bool true])/\zaR w' A 2 c m M/\(∀ad,A=some ad->w.heap.size<=ad.block)/\Below w.heap.size w w'
theorem zbS.of_sz {K n m:Nat}{M:List (List Rat)}(h:zax K M)(hd:zaN M n m):zbS (1+(m+1)*K) M:=⟨λrow hr=>(zlr (by rw [hd.cols row hr];exact Nat.le_refl _) (h row hr)).1,λrow hr x hx=>(zlr (by rw [hd.cols row hr];exact Nat.le_refl _) (h row hr)).2 x hx⟩
def E0:List (List Rat):=[ofL [2,4,0],ofL [1,2,1]]
def E1:List (List Rat):=[ofL [1,2,0],ofL [0,0,1]]
def E2:List (List Rat):=[ofL [1,2],ofL [3,4]]
def E3:List (List Rat):=[ofL [1,1],ofL [1,1]]
theorem d2 {m:Nat}{xs ys:List Rat}(h1:xs.length=m)(h2:ys.length=m):zaN [xs,ys] 2 m:=⟨rfl,λL hL=>by
 simp at hL
 rcases hL with rfl|rfl
 ·exact h1
 ·exact h2⟩
theorem dE0:zaN E0 2 3:=d2 rfl rfl
theorem dE1:zaN E1 2 3:=d2 rfl rfl
theorem dE2:zaN E2 2 2:=d2 rfl rfl
theorem dE3:zaN E3 2 2:=d2 rfl rfl
theorem sz2e {K:Nat}{xs ys:List Rat}(h1:zau K xs)(h2:zau K ys):zax K [xs,ys]:=λL hL=>by
 simp at hL
 rcases hL with rfl|rfl
 ·exact h1
 ·exact h2
theorem zE0:zax 1 E0:=sz2e (zbG (by decide)) (zbG (by decide))
theorem zE1:zax 1 E1:=sz2e (zbG (by decide)) (zbG (by decide))
theorem zE2:zax 1 E2:=sz2e (zbG (by decide)) (zbG (by decide))
theorem zE3:zax 1 E3:=sz2e (zbG (by decide)) (zbG (by decide))
theorem redE0:zfS 3 E0=E1/\(zbg 3 E0).ld=[0,2]:=by decide+kernel
theorem kerE0:zgs 3 (zbg 3 E0).ld (zfS 3 E0) 3=[ofL [-2,1,0]]:=by decide+kernel
theorem detE2:zcZ 2 E2=Rat.divInt (-2) 1:=by decide+kernel
theorem solE3a:solX 2 (zbg 3 (zcJ 2 2 3 E3 (ofL [1,2]))).ld (zfS 3 (zcJ 2 2 3 E3 (ofL [1,2])))=[]/\solN 2 (zbg 3 (zcJ 2 2 3 E3 (ofL [1,2]))).ld=1:=by decide+kernel
theorem solE3b:solX 2 (zbg 3 (zcJ 2 2 3 E3 (ofL [3,3]))).ld (zfS 3 (zcJ 2 2 3 E3 (ofL [3,3])))=ofL [3,0]/\solN 2 (zbg 3 (zcJ 2 2 3 E3 (ofL [3,3]))).ld=3:=by decide+kernel
section
variable {A B V Q:oA9}{c d cv q:Nat}{M:List (List Rat)}{xs:List Rat}{w:World}
theorem e_of3 (hT:zai w)(h:zaB (zaI zah) w Q 2 M)(hd:zaN M 2 3)(z:zax 1 M):Calls Tryz.prog 59 #[.int .i64 3,.slice Q 2 q] w (GB2 3 3 w M):=zjz (m:=3) hT h hd (by decide) (by decide) z (by decide)
theorem e_of2 (hT:zai w)(h:zaB (zaI zah) w Q 2 M)(hd:zaN M 2 2)(z:zax 1 M):Calls Tryz.prog 59 #[.int .i64 2,.slice Q 2 q] w (GB2 2 2 w M):=zjz (m:=2) hT h hd (by decide) (by decide) z (by decide)
theorem e_red (hT:zai w)(h:zaR w A 2 c 3 E0):Calls Tryz.prog 61 #[.agg #[.slice A 2 c,.int .i64 3]] w (λeo w'=>∃(A:oA9) (c:Nat) (B:oA9) (cB:Nat),eo=.returned (.tuple #[.agg #[.slice A 2 c,.int .i64 3],.slice B 2 cB])/\zaR w' A 2 c 3 E1/\zdk w' B 2 [0,2]/\Below w.heap.size w w'):=by
 have hq:=zjl (m:=3) (K:=5) (K0:=1) hT h zE0 (zbS.of_sz zE0 dE0) (by decide) (by decide) (by decide)
 rw [redE0.1,redE0.2] at hq
 exact hq.mono λeo w' ⟨A,c,B,k,cB,e,hk,h1,h2,_,_,hb⟩=>by subst hk;exact⟨A,c,B,cB,e,h1,h2,hb⟩
theorem e_ker (hT:zai w)(h:zaR w A 2 c 3 E0):Calls Tryz.prog 62 #[.agg #[.slice A 2 c,.int .i64 3]] w (λeo w'=>∃(A:oA9) (c:Nat),eo=.returned (.slice A 1 c)/\zaB (zaI zah) w' A 1 [ofL [-2,1,0]]/\Below w.heap.size w w'):=by
 have hq:=elim_ker (m:=3) (K:=5) (K0:=1) hT h zE0 (zbS.of_sz zE0 dE0) (by decide) (by decide) (by decide)
 rw [kerE0] at hq
 exact hq.mono λeo w' ⟨A,k,c,e,hk,h1,_,_,_,hb⟩=>by subst hk;exact⟨A,c,e,h1,hb⟩
theorem e_det (hT:zai w)(h:zaR w A 2 c 2 E2):Calls Tryz.prog 16 #[.agg #[.slice A 2 c,.int .i64 2]] w (zbD w (Rat.divInt (-2) 1) true):=by
 have hq:=zde (m:=2) (K:=4) (K0:=1) hT h rfl zE2 (zbS.of_sz zE2 dE2) (by decide) (by decide) (by decide)
 rw [detE2] at hq
 exact hq
theorem e_sola (hT:zai w)(h:zaR w A 2 c 2 E3)(hv:zaz w V 2 cv (ofL [1,2])):Calls Tryz.prog 28 #[.agg #[.slice A 2 c,.int .i64 2],.slice V 2 cv] w (zgY w [] 1):=by
 have hx:zau 1 (ofL [1,2]):=zbG (by decide)
 have hz:=zkm (n:=2) (m:=2) (p:=3) rfl dE3 zE3 rfl hx
 have hq:=zjm (m:=2) (p:=3) (K:=5) (K0:=1) rfl hT h zE3 hv hx (by decide) (zbS.of_sz hz (zgT _ _ _ _ _)) (by decide) (by decide) (by decide)
 rw [solE3a.1,solE3a.2] at hq
 exact hq
theorem e_solb (hT:zai w)(h:zaR w A 2 c 2 E3)(hv:zaz w V 2 cv (ofL [3,3])):Calls Tryz.prog 28 #[.agg #[.slice A 2 c,.int .i64 2],.slice V 2 cv] w (zgY w (ofL [3,0]) 3):=by
 have hx:zau 1 (ofL [3,3]):=zbG (by decide)
 have hz:=zkm (n:=2) (m:=2) (p:=3) rfl dE3 zE3 rfl hx
 have hq:=zjm (m:=2) (p:=3) (K:=5) (K0:=1) rfl hT h zE3 hv hx (by decide) (zbS.of_sz hz (zgT _ _ _ _ _)) (by decide) (by decide) (by decide)
 rw [solE3b.1,solE3b.2] at hq
 exact hq
theorem e_same (hT:zai w)(h:zaR w A 2 c 3 E1)(h':zaR w B 2 d 3 E1):Calls Tryz.prog 35 #[.agg #[.slice A 2 c,.int .i64 3],.agg #[.slice B 2 d,.int .i64 3]] w (λe w'=>e=.returned (.bool true)/\Below w.heap.size w w'):=zjA (m:=3) (m':=3) (K:=1) (K':=1) (t:=true) (decide_eq_true ⟨rfl,rfl⟩) hT h h' zE1 zE1 (by decide) (by decide)
end
theorem zmZ {w:World}(hT:zai w):Calls Tryz.prog 12 #[] w λe w'=>e=.returned (.bool true)/\Below w.heap.size w w':=by
 have HT:=lh9 (λw' (hb:Below w.heap.size w w')=>hT.on hb)
 have HB:=lh9 (Below.refl w.heap.size w)
 clear hT
 go_enter Tryz.func12,Tryz.ntmps12
 obtain⟨bq0,bq1,-⟩:=zav w 3 #[.int .i64 2,.int .i64 4,.int .i64 0]
 have HB:=lh9 (zab HB.out bq0)
 have HK1:=lh9 (bq1)
 clear bq0 bq1
 go_wp2_with fail
 generalize w.alloc (.cells #[.int .i64 2,.int .i64 4,.int .i64 0] 3)=W2 at*
 have HS3:Hid (zau (1) (ofL [2,4,0])):=zbG (by decide)
 (with_reducible refine(zdM (HT.out _ HB.out) (zcn [2,4,0] 3 rfl HK1.out (by decide)) (by decide)).mono ?_)
 rintro e X4 ⟨g3,rfl,hg3,ho3,hb⟩
 have HB:=lh9 (zab HB.out hb)
 have HV3:=lh9 (zaJ ho3)
 clear hb hg3 ho3
 obtain⟨bq0,bq1,-⟩:=zav X4 3 #[.int .i64 1,.int .i64 2,.int .i64 1]
 have HB:=lh9 (zab HB.out bq0)
 have HV3:=lh9 (HV3.out.keep bq0)
 have HK5:=lh9 (bq1)
 clear bq0 bq1
 go_wp2_with fail
 generalize X4.alloc (.cells #[.int .i64 1,.int .i64 2,.int .i64 1] 3)=W6 at*
 generalize X4.heap.size=q6 at*
 have HS7:Hid (zau (1) (ofL [1,2,1])):=zbG (by decide)
 (with_reducible refine(zdM (HT.out _ HB.out) (zcn [1,2,1] 3 rfl HK5.out (by decide)) (by decide)).mono ?_)
 rintro e X8 ⟨g7,rfl,hg7,ho7,hb⟩
 have HB:=lh9 (zab HB.out hb)
 have HV3:=lh9 (HV3.out.keep hb)
 have HV7:=lh9 (zaJ ho7)
 clear hb hg7 ho7
 obtain⟨bq0,bq1,-⟩:=zav X8 61 #[.slice (some ⟨g3,0,none⟩) 3 3,.slice (some ⟨g7,0,none⟩) 3 3]
 have HB:=lh9 (zab HB.out bq0)
 have HV3:=lh9 (HV3.out.keep bq0)
 have HV7:=lh9 (HV7.out.keep bq0)
 have HK9:=lh9 (bq1)
 clear bq0 bq1
 go_wp2_with fail
 generalize X8.alloc (.cells #[.slice (some ⟨g3,0,none⟩) 3 3,.slice (some ⟨g7,0,none⟩) 3 3] 61)=W10 at*
 generalize X8.heap.size=q10 at*
 have HRS:=lh9 (show zaB (zaI zah) _ _ 2 E0 from zgj (zam zaf) HK9.out HV3.out HV7.out)
 have HS11:Hid (zax (1) (E0)):=zE0
 (with_reducible refine(e_of3 (HT.out _ HB.out) HRS.out dE0 zE0).mono ?_)
 rintro e X12 ⟨A11,c11,rfl,hm11,-,hb⟩
 have HB:=lh9 (zab HB.out hb)
 have HV3:=lh9 (HV3.out.keep hb)
 have HV7:=lh9 (HV7.out.keep hb)
 have HK9:=lh9 (zaa hb HK9.out)
 have HM11:=lh9 (hm11)
 clear hb hm11
 clear HRS
 clear HK9 HV3 HV7
 obtain⟨bq0,bq1,-⟩:=zav X12 28 #[.slice A11 2 c11,.int .i64 3]
 have HB:=lh9 (zab HB.out bq0)
 have HM11:=lh9 (HM11.out.keep bq0)
 have HK13:=lh9 (bq1)
 obtain⟨p14_0,p14_1⟩:=bq1.c2
 clear bq0 bq1
 go_wp2_with fail
 clear p14_0 p14_1
 generalize X12.alloc (.cells #[.slice A11 2 c11,.int .i64 3] 28)=W15 at*
 generalize X12.heap.size=q15 at*
 (with_reducible refine(e_red (HT.out _ HB.out) HM11.out).mono ?_)
 rintro e X16 ⟨A71,c71,B71,cB71,rfl,hm71,hi71,hb⟩
 have HB:=lh9 (zab HB.out hb)
 have HM11:=lh9 (HM11.out.keep hb)
 have HK13:=lh9 (zaa hb HK13.out)
 have HM71:=lh9 (hm71)
 have HI71:=lh9 (hi71)
 clear hb
 clear hm71 hi71
 obtain⟨bq0,bq1,bq2,-⟩:=zbI X16 28 3 #[.slice A71 2 c71,.int .i64 3] #[.int .i64 1,.int .i64 2,.int .i64 0]
 have HB:=lh9 (zab HB.out bq0)
 have HM11:=lh9 (HM11.out.keep bq0)
 have HK13:=lh9 (zaa bq0 HK13.out)
 have HM71:=lh9 (HM71.out.keep bq0)
 have HI71:=lh9 (HI71.out.keep bq0)
 have HK17:=lh9 (bq1)
 have HK18:=lh9 (bq2)
 clear bq0 bq1 bq2
 go_wp2_with fail
 generalize (X16.alloc (.cells #[.slice A71 2 c71,.int .i64 3] 28)).alloc (.cells #[.int .i64 1,.int .i64 2,.int .i64 0] 3)=W19 at*
 generalize X16.heap.size=q19 at*
 have HS20:Hid (zau (1) (ofL [1,2,0])):=zbG (by decide)
 (with_reducible refine(zdM (HT.out _ HB.out) (zcn [1,2,0] 3 rfl HK18.out (by decide)) (by decide)).mono ?_)
 rintro e X21 ⟨g20,rfl,hg20,ho20,hb⟩
 have HB:=lh9 (zab HB.out hb)
 have HM11:=lh9 (HM11.out.keep hb)
 have HK13:=lh9 (zaa hb HK13.out)
 have HM71:=lh9 (HM71.out.keep hb)
 have HI71:=lh9 (HI71.out.keep hb)
 have HK17:=lh9 (zaa hb HK17.out)
 have HV20:=lh9 (zaJ ho20)
 clear hb hg20 ho20
 obtain⟨bq0,bq1,-⟩:=zav X21 3 #[.int .i64 0,.int .i64 0,.int .i64 1]
 have HB:=lh9 (zab HB.out bq0)
 have HM11:=lh9 (HM11.out.keep bq0)
 have HK13:=lh9 (zaa bq0 HK13.out)
 have HM71:=lh9 (HM71.out.keep bq0)
 have HI71:=lh9 (HI71.out.keep bq0)
 have HK17:=lh9 (zaa bq0 HK17.out)
 have HV20:=lh9 (HV20.out.keep bq0)
 have HK22:=lh9 (bq1)
 clear bq0 bq1
 go_wp2_with fail
 generalize X21.alloc (.cells #[.int .i64 0,.int .i64 0,.int .i64 1] 3)=W23 at*
 generalize X21.heap.size=q23 at*
 have HS24:Hid (zau (1) (ofL [0,0,1])):=zbG (by decide)
 (with_reducible refine(zdM (HT.out _ HB.out) (zcn [0,0,1] 3 rfl HK22.out (by decide)) (by decide)).mono ?_)
 rintro e X25 ⟨g24,rfl,hg24,ho24,hb⟩
 have HB:=lh9 (zab HB.out hb)
 have HM11:=lh9 (HM11.out.keep hb)
 have HK13:=lh9 (zaa hb HK13.out)
 have HM71:=lh9 (HM71.out.keep hb)
 have HI71:=lh9 (HI71.out.keep hb)
 have HK17:=lh9 (zaa hb HK17.out)
 have HV20:=lh9 (HV20.out.keep hb)
 have HV24:=lh9 (zaJ ho24)
 clear hb hg24 ho24
 obtain⟨bq0,bq1,-⟩:=zav X25 61 #[.slice (some ⟨g20,0,none⟩) 3 3,.slice (some ⟨g24,0,none⟩) 3 3]
 have HB:=lh9 (zab HB.out bq0)
 have HM11:=lh9 (HM11.out.keep bq0)
 have HK13:=lh9 (zaa bq0 HK13.out)
 have HM71:=lh9 (HM71.out.keep bq0)
 have HI71:=lh9 (HI71.out.keep bq0)
 have HK17:=lh9 (zaa bq0 HK17.out)
 have HV20:=lh9 (HV20.out.keep bq0)
 have HV24:=lh9 (HV24.out.keep bq0)
 have HK26:=lh9 (bq1)
 clear bq0 bq1
 go_wp2_with fail
 generalize X25.alloc (.cells #[.slice (some ⟨g20,0,none⟩) 3 3,.slice (some ⟨g24,0,none⟩) 3 3] 61)=W27 at*
 generalize X25.heap.size=q27 at*
 have HRS:=lh9 (show zaB (zaI zah) _ _ 2 E1 from zgj (zam zaf) HK26.out HV20.out HV24.out)
 have HS28:Hid (zax (1) (E1)):=zE1
 (with_reducible refine(e_of3 (HT.out _ HB.out) HRS.out dE1 zE1).mono ?_)
 rintro e X29 ⟨A28,c28,rfl,hm28,-,hb⟩
 have HB:=lh9 (zab HB.out hb)
 have HM11:=lh9 (HM11.out.keep hb)
 have HK13:=lh9 (zaa hb HK13.out)
 have HM71:=lh9 (HM71.out.keep hb)
 have HI71:=lh9 (HI71.out.keep hb)
 have HK17:=lh9 (zaa hb HK17.out)
 have HV20:=lh9 (HV20.out.keep hb)
 have HV24:=lh9 (HV24.out.keep hb)
 have HK26:=lh9 (zaa hb HK26.out)
 have HM28:=lh9 (hm28)
 clear hb hm28
 clear HRS
 clear HK26 HV20 HV24
 obtain⟨bq0,bq1,-⟩:=zav X29 28 #[.slice A28 2 c28,.int .i64 3]
 have HB:=lh9 (zab HB.out bq0)
 have HM11:=lh9 (HM11.out.keep bq0)
 have HK13:=lh9 (zaa bq0 HK13.out)
 have HM71:=lh9 (HM71.out.keep bq0)
 have HI71:=lh9 (HI71.out.keep bq0)
 have HK17:=lh9 (zaa bq0 HK17.out)
 have HM28:=lh9 (HM28.out.keep bq0)
 have HK30:=lh9 (bq1)
 clear bq0 bq1
 obtain⟨p31_0,p31_1⟩:=HK13.out.c2
 go_wp2_with fail
 clear p31_0 p31_1
 generalize X29.alloc (.cells #[.slice A28 2 c28,.int .i64 3] 28)=W32 at*
 generalize X29.heap.size=q32 at*
 (with_reducible refine(e_ker (HT.out _ HB.out) HM11.out).mono ?_)
 rintro e X33 ⟨A72,c72,rfl,hl72,hb⟩
 have HB:=lh9 (zab HB.out hb)
 have HM71:=lh9 (HM71.out.keep hb)
 have HI71:=lh9 (HI71.out.keep hb)
 have HK17:=lh9 (zaa hb HK17.out)
 have HM28:=lh9 (HM28.out.keep hb)
 have HK30:=lh9 (zaa hb HK30.out)
 have HL72:=lh9 (hl72)
 clear hb
 clear hl72
 obtain⟨bq0,bq1,-⟩:=zav X33 3 #[.int .i64 1,.int .i64 2]
 have HB:=lh9 (zab HB.out bq0)
 have HM71:=lh9 (HM71.out.keep bq0)
 have HI71:=lh9 (HI71.out.keep bq0)
 have HK17:=lh9 (zaa bq0 HK17.out)
 have HM28:=lh9 (HM28.out.keep bq0)
 have HK30:=lh9 (zaa bq0 HK30.out)
 have HL72:=lh9 (HL72.out.below (zam zaf) bq0)
 have HK34:=lh9 (bq1)
 clear bq0 bq1
 go_wp2_with fail
 generalize X33.alloc (.cells #[.int .i64 1,.int .i64 2] 3)=W35 at*
 generalize X33.heap.size=q35 at*
 have HS36:Hid (zau (1) (ofL [1,2])):=zbG (by decide)
 (with_reducible refine(zdM (HT.out _ HB.out) (zcn [1,2] 2 rfl HK34.out (by decide)) (by decide)).mono ?_)
 rintro e X37 ⟨g36,rfl,hg36,ho36,hb⟩
 have HB:=lh9 (zab HB.out hb)
 have HM71:=lh9 (HM71.out.keep hb)
 have HI71:=lh9 (HI71.out.keep hb)
 have HK17:=lh9 (zaa hb HK17.out)
 have HM28:=lh9 (HM28.out.keep hb)
 have HK30:=lh9 (zaa hb HK30.out)
 have HL72:=lh9 (HL72.out.below (zam zaf) hb)
 have HV36:=lh9 (zaJ ho36)
 clear hb hg36 ho36
 obtain⟨bq0,bq1,-⟩:=zav X37 3 #[.int .i64 3,.int .i64 4]
 have HB:=lh9 (zab HB.out bq0)
 have HM71:=lh9 (HM71.out.keep bq0)
 have HI71:=lh9 (HI71.out.keep bq0)
 have HK17:=lh9 (zaa bq0 HK17.out)
 have HM28:=lh9 (HM28.out.keep bq0)
 have HK30:=lh9 (zaa bq0 HK30.out)
 have HL72:=lh9 (HL72.out.below (zam zaf) bq0)
 have HV36:=lh9 (HV36.out.keep bq0)
 have HK38:=lh9 (bq1)
 clear bq0 bq1
 go_wp2_with fail
 generalize X37.alloc (.cells #[.int .i64 3,.int .i64 4] 3)=W39 at*
 generalize X37.heap.size=q39 at*
 have HS40:Hid (zau (1) (ofL [3,4])):=zbG (by decide)
 (with_reducible refine(zdM (HT.out _ HB.out) (zcn [3,4] 2 rfl HK38.out (by decide)) (by decide)).mono ?_)
 rintro e X41 ⟨g40,rfl,hg40,ho40,hb⟩
 have HB:=lh9 (zab HB.out hb)
 have HM71:=lh9 (HM71.out.keep hb)
 have HI71:=lh9 (HI71.out.keep hb)
 have HK17:=lh9 (zaa hb HK17.out)
 have HM28:=lh9 (HM28.out.keep hb)
 have HK30:=lh9 (zaa hb HK30.out)
 have HL72:=lh9 (HL72.out.below (zam zaf) hb)
 have HV36:=lh9 (HV36.out.keep hb)
 have HV40:=lh9 (zaJ ho40)
 clear hb hg40 ho40
 obtain⟨bq0,bq1,-⟩:=zav X41 61 #[.slice (some ⟨g36,0,none⟩) 2 2,.slice (some ⟨g40,0,none⟩) 2 2]
 have HB:=lh9 (zab HB.out bq0)
 have HM71:=lh9 (HM71.out.keep bq0)
 have HI71:=lh9 (HI71.out.keep bq0)
 have HK17:=lh9 (zaa bq0 HK17.out)
 have HM28:=lh9 (HM28.out.keep bq0)
 have HK30:=lh9 (zaa bq0 HK30.out)
 have HL72:=lh9 (HL72.out.below (zam zaf) bq0)
 have HV36:=lh9 (HV36.out.keep bq0)
 have HV40:=lh9 (HV40.out.keep bq0)
 have HK42:=lh9 (bq1)
 clear bq0 bq1
 go_wp2_with fail
 generalize X41.alloc (.cells #[.slice (some ⟨g36,0,none⟩) 2 2,.slice (some ⟨g40,0,none⟩) 2 2] 61)=W43 at*
 generalize X41.heap.size=q43 at*
 have HRS:=lh9 (show zaB (zaI zah) _ _ 2 E2 from zgj (zam zaf) HK42.out HV36.out HV40.out)
 have HS44:Hid (zax (1) (E2)):=zE2
 (with_reducible refine(e_of2 (HT.out _ HB.out) HRS.out dE2 zE2).mono ?_)
 rintro e X45 ⟨A44,c44,rfl,hm44,-,hb⟩
 have HB:=lh9 (zab HB.out hb)
 have HM71:=lh9 (HM71.out.keep hb)
 have HI71:=lh9 (HI71.out.keep hb)
 have HK17:=lh9 (zaa hb HK17.out)
 have HM28:=lh9 (HM28.out.keep hb)
 have HK30:=lh9 (zaa hb HK30.out)
 have HL72:=lh9 (HL72.out.below (zam zaf) hb)
 have HV36:=lh9 (HV36.out.keep hb)
 have HV40:=lh9 (HV40.out.keep hb)
 have HK42:=lh9 (zaa hb HK42.out)
 have HM44:=lh9 (hm44)
 clear hb hm44
 clear HRS
 clear HK42 HV36 HV40
 obtain⟨bq0,bq1,-⟩:=zav X45 28 #[.slice A44 2 c44,.int .i64 2]
 have HB:=lh9 (zab HB.out bq0)
 have HM71:=lh9 (HM71.out.keep bq0)
 have HI71:=lh9 (HI71.out.keep bq0)
 have HK17:=lh9 (zaa bq0 HK17.out)
 have HM28:=lh9 (HM28.out.keep bq0)
 have HK30:=lh9 (zaa bq0 HK30.out)
 have HL72:=lh9 (HL72.out.below (zam zaf) bq0)
 have HM44:=lh9 (HM44.out.keep bq0)
 obtain⟨p47_0,p47_1⟩:=bq1.c2
 clear bq0 bq1
 go_wp2_with fail
 clear p47_0 p47_1
 generalize X45.alloc (.cells #[.slice A44 2 c44,.int .i64 2] 28)=W48 at*
 generalize X45.heap.size=q48 at*
 have HS49:Hid (SzQ (1) (Rat.divInt (-2) 1)):=⟨by decide,by decide⟩
 (with_reducible refine(e_det (HT.out _ HB.out) HM44.out).mono ?_)
 rintro e X50 ⟨b49,A49,n49,c49,E49,k49,f49,rfl,hw49,hb⟩
 have HB:=lh9 (zab HB.out hb)
 have HM71:=lh9 (HM71.out.keep hb)
 have HI71:=lh9 (HI71.out.keep hb)
 have HK17:=lh9 (zaa hb HK17.out)
 have HM28:=lh9 (HM28.out.keep hb)
 have HK30:=lh9 (zaa hb HK30.out)
 have HL72:=lh9 (HL72.out.below (zam zaf) hb)
 have HQ49:=lh9 (hw49)
 clear hb hw49
 obtain⟨bq0,bq1,bq2,-⟩:=zbI X50 41 3 #[.bool b49,.slice A49 n49 c49,.slice E49 k49 f49] #[.int .i64 1,.int .i64 1]
 have HB:=lh9 (zab HB.out bq0)
 have HM71:=lh9 (HM71.out.keep bq0)
 have HI71:=lh9 (HI71.out.keep bq0)
 have HK17:=lh9 (zaa bq0 HK17.out)
 have HM28:=lh9 (HM28.out.keep bq0)
 have HK30:=lh9 (zaa bq0 HK30.out)
 have HL72:=lh9 (HL72.out.below (zam zaf) bq0)
 have HQ49:=lh9 (HQ49.out.below bq0)
 have HK51:=lh9 (bq1)
 have HK52:=lh9 (bq2)
 clear bq0 bq1 bq2
 go_wp2_with fail
 generalize (X50.alloc (.cells #[.bool b49,.slice A49 n49 c49,.slice E49 k49 f49] 41)).alloc (.cells #[.int .i64 1,.int .i64 1] 3)=W53 at*
 generalize X50.heap.size=q53 at*
 have HS54:Hid (zau (1) (ofL [1,1])):=zbG (by decide)
 (with_reducible refine(zdM (HT.out _ HB.out) (zcn [1,1] 2 rfl HK52.out (by decide)) (by decide)).mono ?_)
 rintro e X55 ⟨g54,rfl,hg54,ho54,hb⟩
 have HB:=lh9 (zab HB.out hb)
 have HM71:=lh9 (HM71.out.keep hb)
 have HI71:=lh9 (HI71.out.keep hb)
 have HK17:=lh9 (zaa hb HK17.out)
 have HM28:=lh9 (HM28.out.keep hb)
 have HK30:=lh9 (zaa hb HK30.out)
 have HL72:=lh9 (HL72.out.below (zam zaf) hb)
 have HQ49:=lh9 (HQ49.out.below hb)
 have HK51:=lh9 (zaa hb HK51.out)
 have HV54:=lh9 (zaJ ho54)
 clear hb hg54 ho54
 obtain⟨bq0,bq1,-⟩:=zav X55 3 #[.int .i64 1,.int .i64 1]
 have HB:=lh9 (zab HB.out bq0)
 have HM71:=lh9 (HM71.out.keep bq0)
 have HI71:=lh9 (HI71.out.keep bq0)
 have HK17:=lh9 (zaa bq0 HK17.out)
 have HM28:=lh9 (HM28.out.keep bq0)
 have HK30:=lh9 (zaa bq0 HK30.out)
 have HL72:=lh9 (HL72.out.below (zam zaf) bq0)
 have HQ49:=lh9 (HQ49.out.below bq0)
 have HK51:=lh9 (zaa bq0 HK51.out)
 have HV54:=lh9 (HV54.out.keep bq0)
 have HK56:=lh9 (bq1)
 clear bq0 bq1
 go_wp2_with fail
 generalize X55.alloc (.cells #[.int .i64 1,.int .i64 1] 3)=W57 at*
 generalize X55.heap.size=q57 at*
 have HS58:Hid (zau (1) (ofL [1,1])):=zbG (by decide)
 (with_reducible refine(zdM (HT.out _ HB.out) (zcn [1,1] 2 rfl HK56.out (by decide)) (by decide)).mono ?_)
 rintro e X59 ⟨g58,rfl,hg58,ho58,hb⟩
 have HB:=lh9 (zab HB.out hb)
 have HM71:=lh9 (HM71.out.keep hb)
 have HI71:=lh9 (HI71.out.keep hb)
 have HK17:=lh9 (zaa hb HK17.out)
 have HM28:=lh9 (HM28.out.keep hb)
 have HK30:=lh9 (zaa hb HK30.out)
 have HL72:=lh9 (HL72.out.below (zam zaf) hb)
 have HQ49:=lh9 (HQ49.out.below hb)
 have HK51:=lh9 (zaa hb HK51.out)
 have HV54:=lh9 (HV54.out.keep hb)
 have HV58:=lh9 (zaJ ho58)
 clear hb hg58 ho58
 obtain⟨bq0,bq1,-⟩:=zav X59 61 #[.slice (some ⟨g54,0,none⟩) 2 2,.slice (some ⟨g58,0,none⟩) 2 2]
 have HB:=lh9 (zab HB.out bq0)
 have HM71:=lh9 (HM71.out.keep bq0)
 have HI71:=lh9 (HI71.out.keep bq0)
 have HK17:=lh9 (zaa bq0 HK17.out)
 have HM28:=lh9 (HM28.out.keep bq0)
 have HK30:=lh9 (zaa bq0 HK30.out)
 have HL72:=lh9 (HL72.out.below (zam zaf) bq0)
 have HQ49:=lh9 (HQ49.out.below bq0)
 have HK51:=lh9 (zaa bq0 HK51.out)
 have HV54:=lh9 (HV54.out.keep bq0)
 have HV58:=lh9 (HV58.out.keep bq0)
 have HK60:=lh9 (bq1)
 clear bq0 bq1
 go_wp2_with fail
 generalize X59.alloc (.cells #[.slice (some ⟨g54,0,none⟩) 2 2,.slice (some ⟨g58,0,none⟩) 2 2] 61)=W61 at*
 generalize X59.heap.size=q61 at*
 have HRS:=lh9 (show zaB (zaI zah) _ _ 2 E3 from zgj (zam zaf) HK60.out HV54.out HV58.out)
 have HS62:Hid (zax (1) (E3)):=zE3
 (with_reducible refine(e_of2 (HT.out _ HB.out) HRS.out dE3 zE3).mono ?_)
 rintro e X63 ⟨A62,c62,rfl,hm62,-,hb⟩
 have HB:=lh9 (zab HB.out hb)
 have HM71:=lh9 (HM71.out.keep hb)
 have HI71:=lh9 (HI71.out.keep hb)
 have HK17:=lh9 (zaa hb HK17.out)
 have HM28:=lh9 (HM28.out.keep hb)
 have HK30:=lh9 (zaa hb HK30.out)
 have HL72:=lh9 (HL72.out.below (zam zaf) hb)
 have HQ49:=lh9 (HQ49.out.below hb)
 have HK51:=lh9 (zaa hb HK51.out)
 have HV54:=lh9 (HV54.out.keep hb)
 have HV58:=lh9 (HV58.out.keep hb)
 have HK60:=lh9 (zaa hb HK60.out)
 have HM62:=lh9 (hm62)
 clear hb hm62
 clear HRS
 clear HK60 HV54 HV58
 obtain⟨bq0,bq1,-⟩:=zav X63 28 #[.slice A62 2 c62,.int .i64 2]
 have HB:=lh9 (zab HB.out bq0)
 have HM71:=lh9 (HM71.out.keep bq0)
 have HI71:=lh9 (HI71.out.keep bq0)
 have HK17:=lh9 (zaa bq0 HK17.out)
 have HM28:=lh9 (HM28.out.keep bq0)
 have HK30:=lh9 (zaa bq0 HK30.out)
 have HL72:=lh9 (HL72.out.below (zam zaf) bq0)
 have HQ49:=lh9 (HQ49.out.below bq0)
 have HK51:=lh9 (zaa bq0 HK51.out)
 have HM62:=lh9 (HM62.out.keep bq0)
 have HK64:=lh9 (bq1)
 clear bq0 bq1
 go_upto_region 8 with fail
 generalize X63.alloc (.cells #[.slice A62 2 c62,.int .i64 2] 28)=W65 at*
 generalize X63.heap.size=q65 at*
 obtain⟨p66_0,p66_1⟩:=HK64.out.c2
 have hbd:=(Below.refl W65.heap.size W65).drew
 have HB:=lh9 (zab HB.out hbd)
 have HM71:=lh9 (HM71.out.keep hbd)
 have HI71:=lh9 (HI71.out.keep hbd)
 have HK17:=lh9 (zaa hbd HK17.out)
 have HM28:=lh9 (HM28.out.keep hbd)
 have HK30:=lh9 (zaa hbd HK30.out)
 have HL72:=lh9 (HL72.out.below (zam zaf) hbd)
 have HQ49:=lh9 (HQ49.out.below hbd)
 have HK51:=lh9 (zaa hbd HK51.out)
 have HM62:=lh9 (HM62.out.keep hbd)
 have HK64:=lh9 (zaa hbd HK64.out)
 refine rg (csc p66_0 (csc p66_1 csn)) (λhHeld=>?_)
 clear hbd p66_0 p66_1
 generalize W65.drew=D67 at*
 refine tk 0 ?_
 refine rc 1 (λKK hK=>?_)
 go_simp
 obtain⟨t1,t2,-⟩:=zav D67 3 #[.int .i64 1,.int .i64 2]
 refine hK.out _ _ (Cs.below hHeld t1) (λhHeld=>?_)
 clear hK KK
 have HB:=lh9 (zab HB.out t1)
 have HM71:=lh9 (HM71.out.keep t1)
 have HI71:=lh9 (HI71.out.keep t1)
 have HK17:=lh9 (zaa t1 HK17.out)
 have HM28:=lh9 (HM28.out.keep t1)
 have HK30:=lh9 (zaa t1 HK30.out)
 have HL72:=lh9 (HL72.out.below (zam zaf) t1)
 have HQ49:=lh9 (HQ49.out.below t1)
 have HK51:=lh9 (zaa t1 HK51.out)
 have HM62:=lh9 (HM62.out.keep t1)
 have HK64:=lh9 (zaa t1 HK64.out)
 have HK68:=lh9 (t2)
 clear t1 t2
 generalize D67.alloc (.cells #[.int .i64 1,.int .i64 2] 3)=W68 at*
 generalize D67.heap.size=g68 at*
 have HS69:Hid (zau (1) (ofL [1,2])):=zbG (by decide)
 refine rc 2 (λKK hK=>?_)
 go_simp
 (with_reducible refine(zdM (HT.out _ HB.out) (zcn [1,2] 2 rfl HK68.out (by decide)) (by decide)).mono ?_)
 rintro e X70 ⟨g69,rfl,hg69,ho69,hb⟩
 refine hK.out _ _ (Cs.below hHeld hb) (λhHeld=>?_)
 clear hK KK
 have HB:=lh9 (zab HB.out hb)
 have HM71:=lh9 (HM71.out.keep hb)
 have HI71:=lh9 (HI71.out.keep hb)
 have HK17:=lh9 (zaa hb HK17.out)
 have HM28:=lh9 (HM28.out.keep hb)
 have HK30:=lh9 (zaa hb HK30.out)
 have HL72:=lh9 (HL72.out.below (zam zaf) hb)
 have HQ49:=lh9 (HQ49.out.below hb)
 have HK51:=lh9 (zaa hb HK51.out)
 have HM62:=lh9 (HM62.out.keep hb)
 have HK64:=lh9 (zaa hb HK64.out)
 have HK68:=lh9 (zaa hb HK68.out)
 have HV69:=lh9 (zaJ ho69)
 clear hb hg69 ho69
 refine rc 3 (λKK hK=>?_)
 go_simp
 (with_reducible refine(e_sola (HT.out _ HB.out) HM62.out HV69.out).mono ?_)
 rintro e X71 ⟨A73,k73,c73,rfl,hv73,hb⟩
 refine hK.out _ _ (Cs.below hHeld hb) (λhHeld=>?_)
 clear hK KK
 have HB:=lh9 (zab HB.out hb)
 have HM71:=lh9 (HM71.out.keep hb)
 have HI71:=lh9 (HI71.out.keep hb)
 have HK17:=lh9 (zaa hb HK17.out)
 have HM28:=lh9 (HM28.out.keep hb)
 have HK30:=lh9 (zaa hb HK30.out)
 have HL72:=lh9 (HL72.out.below (zam zaf) hb)
 have HQ49:=lh9 (HQ49.out.below hb)
 have HK51:=lh9 (zaa hb HK51.out)
 have HM62:=lh9 (HM62.out.keep hb)
 have HK64:=lh9 (zaa hb HK64.out)
 have HK68:=lh9 (zaa hb HK68.out)
 have HV69:=lh9 (HV69.out.keep hb)
 clear hb 
 clear hv73
 refine tk 4 ?_
 refine tk 5 ?_
 refine tk 6 ?_
 refine tk 7 ?_
 refine tk 8 ?_
 refine tk 9 ?_
 refine tk 10 ?_
 refine rdn ?_
 clear hHeld
 clear HK68 HV69
 go_upto_region 9 with fail
 obtain⟨p72_0,p72_1⟩:=HK64.out.c2
 have hbd:=(Below.refl X71.heap.size X71).drew
 have HB:=lh9 (zab HB.out hbd)
 have HM71:=lh9 (HM71.out.keep hbd)
 have HI71:=lh9 (HI71.out.keep hbd)
 have HK17:=lh9 (zaa hbd HK17.out)
 have HM28:=lh9 (HM28.out.keep hbd)
 have HK30:=lh9 (zaa hbd HK30.out)
 have HL72:=lh9 (HL72.out.below (zam zaf) hbd)
 have HQ49:=lh9 (HQ49.out.below hbd)
 have HK51:=lh9 (zaa hbd HK51.out)
 have HM62:=lh9 (HM62.out.keep hbd)
 refine rg (csc p72_0 (csc p72_1 csn)) (λhHeld=>?_)
 clear hbd p72_0 p72_1
 generalize X71.drew=D73 at*
 refine tk 0 ?_
 refine rc 1 (λKK hK=>?_)
 go_simp
 obtain⟨t1,t2,-⟩:=zav D73 3 #[.int .i64 3,.int .i64 3]
 refine hK.out _ _ (Cs.below hHeld t1) (λhHeld=>?_)
 clear hK KK
 have HB:=lh9 (zab HB.out t1)
 have HM71:=lh9 (HM71.out.keep t1)
 have HI71:=lh9 (HI71.out.keep t1)
 have HK17:=lh9 (zaa t1 HK17.out)
 have HM28:=lh9 (HM28.out.keep t1)
 have HK30:=lh9 (zaa t1 HK30.out)
 have HL72:=lh9 (HL72.out.below (zam zaf) t1)
 have HQ49:=lh9 (HQ49.out.below t1)
 have HK51:=lh9 (zaa t1 HK51.out)
 have HM62:=lh9 (HM62.out.keep t1)
 have HK74:=lh9 (t2)
 clear t1 t2
 generalize D73.alloc (.cells #[.int .i64 3,.int .i64 3] 3)=W74 at*
 generalize D73.heap.size=g74 at*
 have HS75:Hid (zau (1) (ofL [3,3])):=zbG (by decide)
 refine rc 2 (λKK hK=>?_)
 go_simp
 (with_reducible refine(zdM (HT.out _ HB.out) (zcn [3,3] 2 rfl HK74.out (by decide)) (by decide)).mono ?_)
 rintro e X76 ⟨g75,rfl,hg75,ho75,hb⟩
 refine hK.out _ _ (Cs.below hHeld hb) (λhHeld=>?_)
 clear hK KK
 have HB:=lh9 (zab HB.out hb)
 have HM71:=lh9 (HM71.out.keep hb)
 have HI71:=lh9 (HI71.out.keep hb)
 have HK17:=lh9 (zaa hb HK17.out)
 have HM28:=lh9 (HM28.out.keep hb)
 have HK30:=lh9 (zaa hb HK30.out)
 have HL72:=lh9 (HL72.out.below (zam zaf) hb)
 have HQ49:=lh9 (HQ49.out.below hb)
 have HK51:=lh9 (zaa hb HK51.out)
 have HM62:=lh9 (HM62.out.keep hb)
 have HK74:=lh9 (zaa hb HK74.out)
 have HV75:=lh9 (zaJ ho75)
 clear hb hg75 ho75
 refine rc 3 (λKK hK=>?_)
 go_simp
 (with_reducible refine(e_solb (HT.out _ HB.out) HM62.out HV75.out).mono ?_)
 rintro e X77 ⟨A74,k74,c74,rfl,hv74,hb⟩
 refine hK.out _ _ (Cs.below hHeld hb) (λhHeld=>?_)
 clear hK KK
 have HB:=lh9 (zab HB.out hb)
 have HM71:=lh9 (HM71.out.keep hb)
 have HI71:=lh9 (HI71.out.keep hb)
 have HK17:=lh9 (zaa hb HK17.out)
 have HM28:=lh9 (HM28.out.keep hb)
 have HK30:=lh9 (zaa hb HK30.out)
 have HL72:=lh9 (HL72.out.below (zam zaf) hb)
 have HQ49:=lh9 (HQ49.out.below hb)
 have HK51:=lh9 (zaa hb HK51.out)
 have HK74:=lh9 (zaa hb HK74.out)
 have HV75:=lh9 (HV75.out.keep hb)
 have HV74:=lh9 (hv74)
 clear hb 
 have hk74:k74=2:=hv74.len.symm
 subst hk74
 clear hv74
 refine tk 4 ?_
 refine tk 5 ?_
 refine tk 6 ?_
 refine tk 7 ?_
 refine tk 8 ?_
 refine tk 9 ?_
 refine tk 10 ?_
 refine rdn ?_
 clear hHeld
 clear HK74 HV75
 go_upto_region 10 with fail
 obtain⟨⟨bL,oL,sL⟩,rfl,hcL⟩:=HI71.out.num 1 (by decide)
 have hcL:X77.cell? {block:=bL,off:=oL+1}=some (.int .i64 2):=hcL
 obtain⟨⟨bK,oK,sK⟩,B75,c75,rfl,-,hcK,hv75⟩:=HL72.out.get (m:=3) (zam zaf) (Below.refl _ _) (i:=0) (by decide) rfl
 have hcK:X77.cell? {block:=bK,off:=oK,spot:=sK}=some (.slice B75 3 c75):=hcK
 have hv75:zaz X77 B75 3 c75 (ofL [-2,1,0]):=hv75
 have HV75:=lh9 hv75
 clear hv75
 obtain⟨p78_0,p78_1⟩:=HK17.out.c2
 obtain⟨p79_0,p79_1⟩:=HK30.out.c2
 obtain⟨p80_0,p80_1,p80_2⟩:=HK51.out.c3
 have hbd:=(Below.refl X77.heap.size X77).drew
 have HB:=lh9 (zab HB.out hbd)
 have HM71:=lh9 (HM71.out.keep hbd)
 have HM28:=lh9 (HM28.out.keep hbd)
 have HQ49:=lh9 (HQ49.out.below hbd)
 have HV74:=lh9 (HV74.out.keep hbd)
 have HV75:=lh9 (HV75.out.keep hbd)
 refine rg (csc hcL (csc hcK (csc p78_0 (csc p78_1 (csc p79_0 (csc p79_1 (csc p80_0 (csc p80_1 (csc p80_2 csn))))))))) (λhHeld=>?_)
 clear hbd hcL hcK p78_0 p78_1 p79_0 p79_1 p80_0 p80_1 p80_2
 generalize X77.drew=D81 at*
 refine tk 0 ?_
 refine tk 1 ?_
 refine tk 2 ?_
 refine tk 3 ?_
 refine rc 4 (λKK hK=>?_)
 go_simp
 (with_reducible refine(e_same (HT.out _ HB.out) HM71.out HM28.out).mono ?_)
 rintro e X82 ⟨rfl,hb⟩
 refine hK.out _ _ (Cs.below hHeld hb) (λhHeld=>?_)
 clear hK KK
 have HB:=lh9 (zab HB.out hb)
 have HQ49:=lh9 (HQ49.out.below hb)
 have HV74:=lh9 (HV74.out.keep hb)
 have HV75:=lh9 (HV75.out.keep hb)
 clear hb 
 refine tk 5 ?_
 refine tk 6 ?_
 refine tk 7 ?_
 refine tk 8 ?_
 refine tk 9 ?_
 refine tk 10 ?_
 refine tk 11 ?_
 refine tk 12 ?_
 refine tk 13 (v:=.pointer (some {block:=bL,off:=oL+1})) ?k13 (h6:=?h13)
 case h13=>intro w hSw;dsimp only [Cs] at hSw;go_simp
 refine tk 14 ?_
 refine tk 15 ?_
 refine tk 16 ?_
 refine tk 17 ?_
 refine tk 18 ?_
 refine tk 19 ?_
 refine tk 20 ?_
 refine tk 21 ?_
 refine tk 22 ?_
 refine tk 23 ?_
 refine tk 24 (v:=.pointer (some {block:=bK,off:=oK,spot:=sK})) ?k24 (h6:=?h24)
 case h24=>intro w hSw;dsimp only [Cs] at hSw;go_simp
 refine tk 25 ?_
 refine rc 26 (λKK hK=>?_)
 go_simp
 obtain⟨t1,t2,-⟩:=zav X82 3 #[.int .i64 (-2),.int .i64 1,.int .i64 0]
 refine hK.out _ _ (Cs.below hHeld t1) (λhHeld=>?_)
 clear hK KK
 have HB:=lh9 (zab HB.out t1)
 have HQ49:=lh9 (HQ49.out.below t1)
 have HV74:=lh9 (HV74.out.keep t1)
 have HV75:=lh9 (HV75.out.keep t1)
 have HK83:=lh9 (t2)
 clear t1 t2
 generalize X82.alloc (.cells #[.int .i64 (-2),.int .i64 1,.int .i64 0] 3)=W83 at*
 generalize X82.heap.size=g83 at*
 have HS84:Hid (zau (1) (ofL [-2,1,0])):=zbG (by decide)
 refine rc 27 (λKK hK=>?_)
 go_simp
 (with_reducible refine(zdM (HT.out _ HB.out) (zcn [-2,1,0] 3 rfl HK83.out (by decide)) (by decide)).mono ?_)
 rintro e X85 ⟨g84,rfl,hg84,ho84,hb⟩
 refine hK.out _ _ (Cs.below hHeld hb) (λhHeld=>?_)
 clear hK KK
 have HB:=lh9 (zab HB.out hb)
 have HQ49:=lh9 (HQ49.out.below hb)
 have HV74:=lh9 (HV74.out.keep hb)
 have HV75:=lh9 (HV75.out.keep hb)
 have HV84:=lh9 (zaJ ho84)
 clear hb hg84 ho84
 refine rc 28 (λKK hK=>?_)
 go_simp
 (with_reducible refine(zfj (K:=1) (t:=true) (by decide+kernel) (HT.out _ HB.out) HV75.out HV84.out (zbG (by decide)) HS84.out (by decide) (by decide) (by decide) (by decide)).mono ?_)
 rintro e X86 ⟨rfl,hb⟩
 refine hK.out _ _ (Cs.below hHeld hb) (λhHeld=>?_)
 clear hK KK
 have HB:=lh9 (zab HB.out hb)
 have HQ49:=lh9 (HQ49.out.below hb)
 have HV74:=lh9 (HV74.out.keep hb)
 clear hb 
 refine tk 29 ?_
 refine tk 30 ?_
 refine tk 31 ?_
 refine tk 32 ?_
 refine tk 33 ?_
 refine tk 34 ?_
 refine rc 35 (λKK hK=>?_)
 go_simp
 (with_reducible refine(law8_is (λ_ _ h hb=>h.on hb) zbV qc10 (-2) 1 _ 1 b49 A49 n49 c49 E49 k49 f49 _ (by decide) HS49.out HQ49.out (HT.out _ HB.out) (by decide) (by decide) (by decide) (by decide) (by decide) rfl).mono ?_)
 rintro e X87 ⟨rfl,hb⟩
 refine hK.out _ _ (Cs.below hHeld hb) (λhHeld=>?_)
 clear hK KK
 have HB:=lh9 (zab HB.out hb)
 have HV74:=lh9 (HV74.out.keep hb)
 clear hb 
 refine tk 36 ?_
 refine tk 37 ?_
 refine tk 38 ?_
 refine tk 39 ?_
 refine tk 40 ?_
 refine tk 41 ?_
 refine tk 42 ?_
 refine tk 43 ?_
 refine tk 44 ?_
 refine tk 45 ?_
 refine tk 46 ?_
 refine tk 47 ?_
 refine tk 48 ?_
 refine tk 49 ?_
 refine tk 50 ?_
 refine tk 51 ?_
 refine tk 52 ?_
 refine rc 53 (λKK hK=>?_)
 go_simp
 obtain⟨t1,t2,-⟩:=zav X87 3 #[.int .i64 3,.int .i64 0]
 refine hK.out _ _ (Cs.below hHeld t1) (λhHeld=>?_)
 clear hK KK
 have HB:=lh9 (zab HB.out t1)
 have HV74:=lh9 (HV74.out.keep t1)
 have HK88:=lh9 (t2)
 clear t1 t2
 generalize X87.alloc (.cells #[.int .i64 3,.int .i64 0] 3)=W88 at*
 generalize X87.heap.size=g88 at*
 have HS89:Hid (zau (1) (ofL [3,0])):=zbG (by decide)
 refine rc 54 (λKK hK=>?_)
 go_simp
 (with_reducible refine(zdM (HT.out _ HB.out) (zcn [3,0] 2 rfl HK88.out (by decide)) (by decide)).mono ?_)
 rintro e X90 ⟨g89,rfl,hg89,ho89,hb⟩
 refine hK.out _ _ (Cs.below hHeld hb) (λhHeld=>?_)
 clear hK KK
 have HB:=lh9 (zab HB.out hb)
 have HV74:=lh9 (HV74.out.keep hb)
 have HV89:=lh9 (zaJ ho89)
 clear hb hg89 ho89
 refine rc 55 (λKK hK=>?_)
 go_simp
 (with_reducible refine(zfj (K:=1) (t:=true) (by decide+kernel) (HT.out _ HB.out) HV74.out HV89.out (zbG (by decide)) HS89.out (by decide) (by decide) (by decide) (by decide)).mono ?_)
 rintro e X91 ⟨rfl,hb⟩
 refine hK.out _ _ (Cs.below hHeld hb) (λhHeld=>?_)
 clear hK KK
 have HB:=lh9 (zab HB.out hb)
 clear hb 
 refine tk 56 ?_
 refine tk 57 ?_
 refine rdn ?_
 clear hHeld
 go_wp2
 go_ret
 exact⟨rfl,HB.out⟩
