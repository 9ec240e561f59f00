/- What this claim leans on. -/
import Derived.Test.YtlgnacmgepnamaaGreatDoorKMRows
namespace Go.Proofs.YtlgnacmgepnamaaGreatDoor
open Go Go.RowKit
set_option maxHeartbeats 16000000
set_option maxRecDepth 100000
set_option linter.unusedVariables false
set_option linter.unusedSimpArgs false
def GM2 (w:World)(M:List (List Rat))(e:Ending)(w':World):Prop:=∃(A:oA9) (c:Nat),e=.returned (.agg #[.slice A 2 c,.int .i64 2])/\zaI w' A 2 c 2 M/\(∀ad,A=some ad->w.heap.size<=ad.block)/\Below w.heap.size w w'
def GMB2 (w:World)(M:List (List Rat))(e:Ending)(w':World):Prop:=∃(A:oA9) (c:Nat),e=.returned (.tuple #[.agg #[.slice A 2 c,.int .i64 2],.bool true])/\zaI w' A 2 c 2 M/\(∀ad,A=some ad->w.heap.size<=ad.block)/\Below w.heap.size w w'
section
variable {A B V Q:oA9}{c d cv q:Nat}{M N:List (List Rat)}{xs:List Rat}{w:World}
theorem a_of (hT:zal w)(h:zaF (zaB zan) w Q 2 M)(hd:zcH M 2 2)(z:zaD 1 M):Calls Tryz.prog 45 #[.int .i64 2,.slice Q 2 q] w (GMB2 w M):=mat_of (m:=2) hT h hd (by decide) (by decide) z (by decide)
theorem a_times (hT:zal w)(h:zaI w A 2 c 2 M)(hv:zaK w V 2 cv xs)(z:zaD 1 M)(zx:zaE 1 xs):Calls Tryz.prog 35 #[.agg #[.slice A 2 c,.int .i64 2],.slice V 2 cv] w (zci w 2 (zbG M xs)):=zpf (m:=2) hT h hv z zx (by decide) (by decide) (by decide)
theorem a_by (hT:zal w)(h:zaI w A 2 c 2 M)(hv:zaK w V 2 cv xs)(z:zaD 1 M)(zx:zaE 1 xs):Calls Tryz.prog 37 #[.agg #[.slice A 2 c,.int .i64 2],.slice V 2 cv] w (zci w 2 (zbG (zbW 2 2 M) xs)):=mat_by (m:=2) hT h hv z zx (by decide) (by decide) (by decide)
theorem a_pick (hT:zal w)(h:zaI w A 2 c 2 M)(z:zaD 1 M)(hz:zer w Q 2 [1,1]):Calls Tryz.prog 47 #[.agg #[.slice A 2 c,.int .i64 2],.slice Q 2 q] w (GMB2 w (zit 2 [1,1] M)):=mat_pick (m:=2) hT h z hz (by decide) (by decide) (by decide)
theorem a_norow (h:zaI w A 2 c 2 M)(hv:zaK w V 1 cv xs):Calls Tryz.prog 48 #[.agg #[.slice A 2 c,.int .i64 2],.slice V 1 cv] w (zcC w):=zil (m:=2) (N:=3) rfl h hv (Or.inr (by decide))
theorem a_one (hT:zal w):Calls Tryz.prog 14 #[.int .i64 2] w (GMB2 w (zfT 2)):=zoh (n:=2) hT (by decide)
theorem a_mul (hT:zal w)(h:zaI w A 2 c 2 M)(h':zaI w B 2 d 2 N)(z:zaD 1 M)(z':zaD 1 N):Calls Tryz.prog 34 #[.agg #[.slice A 2 c,.int .i64 2],.agg #[.slice B 2 d,.int .i64 2]] w (GMB2 w (zgO 2 2 2 M N)):=mat_mul (k:=2) (m:=2) hT h h' z z' (by decide) (by decide) (by decide)
theorem a_turned (hT:zal w)(h:zaI w A 2 c 2 M)(z:zaD 1 M):Calls Tryz.prog 31 #[.agg #[.slice A 2 c,.int .i64 2]] w (GM2 w (zbW 2 2 M)):=znf (m:=2) hT h z (by decide)
theorem a_at01 (hT:zal w)(h:zaI w A 2 c 2 M)(z:zaD 1 M):Calls Tryz.prog 19 #[.agg #[.slice A 2 c,.int .i64 2],.int .i64 0,.int .i64 1] w (zaJ w (atM M 0 1)):=zko (m:=2) (i:=0) (j:=1) hT h z (by decide) (by decide) (by decide)
theorem a_at10 (hT:zal w)(h:zaI w A 2 c 2 M)(z:zaD 1 M):Calls Tryz.prog 19 #[.agg #[.slice A 2 c,.int .i64 2],.int .i64 1,.int .i64 0] w (zaJ w (atM M 1 0)):=zko (m:=2) (i:=1) (j:=0) hT h z (by decide) (by decide) (by decide)
theorem a_same {K:Nat}(e:M=N)(hT:zal w)(h:zaI w A 2 c 2 M)(h':zaI w B 2 d 2 N)(z:zaD K M)(z':zaD 1 N)(hK:K<=67108864):Calls Tryz.prog 41 #[.agg #[.slice A 2 c,.int .i64 2],.agg #[.slice B 2 d,.int .i64 2]] w (λe w'=>e=.returned (.bool true)/\Below w.heap.size w w'):=mat_same (m:=2) (m':=2) (t:=true) (decide_eq_true ⟨rfl,e⟩) hT h h' z z' hK (by decide)
end
theorem zhO:zcH [ofL [1,2],ofL [3,4]] 2 2:=⟨rfl,λL hL=>by
 simp at hL
 rcases hL with rfl|rfl<;>simp [ofL]⟩
theorem sz2 {xs ys:List Rat}(h1:zaE 1 xs)(h2:zaE 1 ys):zaD 1 [xs,ys]:=λL hL=>by
 simp at hL
 rcases hL with rfl|rfl
 ·exact h1
 ·exact h2
theorem zlv {w:World}(hT:zal w):Calls Tryz.prog 9 #[] w λe w'=>e=.returned (.bool true)/\Below w.heap.size w w':=by
 have HT:=lh9 (λw' (hb:Below w.heap.size w w')=>hT.on hb)
 have HB:=lh9 (Below.refl w.heap.size w)
 clear hT
 go_enter Tryz.func9,Tryz.ntmps9
 obtain⟨bq0,bq1,-⟩:=zaA w 3 #[.int .i64 1,.int .i64 2]
 have HB:=lh9 (zac HB.out bq0)
 have HK1:=lh9 (bq1)
 clear bq0 bq1
 go_wp2_with fail
 generalize w.alloc (.cells #[.int .i64 1,.int .i64 2] 3)=W2 at*
 have HS3:Hid (zaE (1) (ofL [1,2])):=zfS (by decide)
 (with_reducible refine(zfY (HT.out _ HB.out) (zdl [1,2] 2 rfl HK1.out (by decide)) (by decide)).mono ?_)
 rintro e X4 ⟨g3,rfl,hg3,ho3,hb⟩
 have HB:=lh9 (zac HB.out hb)
 have HV3:=lh9 (zbl ho3)
 clear hb hg3 ho3
 obtain⟨bq0,bq1,-⟩:=zaA X4 3 #[.int .i64 3,.int .i64 4]
 have HB:=lh9 (zac HB.out bq0)
 have HV3:=lh9 (HV3.out.keep bq0)
 have HK5:=lh9 (bq1)
 clear bq0 bq1
 go_wp2_with fail
 generalize X4.alloc (.cells #[.int .i64 3,.int .i64 4] 3)=W6 at*
 generalize X4.heap.size=q6 at*
 have HS7:Hid (zaE (1) (ofL [3,4])):=zfS (by decide)
 (with_reducible refine(zfY (HT.out _ HB.out) (zdl [3,4] 2 rfl HK5.out (by decide)) (by decide)).mono ?_)
 rintro e X8 ⟨g7,rfl,hg7,ho7,hb⟩
 have HB:=lh9 (zac HB.out hb)
 have HV3:=lh9 (HV3.out.keep hb)
 have HV7:=lh9 (zbl ho7)
 clear hb hg7 ho7
 obtain⟨bq0,bq1,-⟩:=zaA X8 51 #[.slice (some ⟨g3,0,none⟩) 2 2,.slice (some ⟨g7,0,none⟩) 2 2]
 have HB:=lh9 (zac HB.out bq0)
 have HV3:=lh9 (HV3.out.keep bq0)
 have HV7:=lh9 (HV7.out.keep bq0)
 have HK9:=lh9 (bq1)
 clear bq0 bq1
 go_wp2_with fail
 generalize X8.alloc (.cells #[.slice (some ⟨g3,0,none⟩) 2 2,.slice (some ⟨g7,0,none⟩) 2 2] 51)=W10 at*
 generalize X8.heap.size=q10 at*
 have HRS:=lh9 (zpF (zay zaq) HK9.out HV3.out HV7.out)
 have HS11:Hid (zaD (1) ([ofL [1,2],ofL [3,4]])):=sz2 HS3.out HS7.out
 (with_reducible refine(a_of (HT.out _ HB.out) HRS.out zhO (sz2 HS3.out HS7.out)).mono ?_)
 rintro e X12 ⟨A11,c11,rfl,hm11,-,hb⟩
 have HB:=lh9 (zac HB.out hb)
 have HV3:=lh9 (HV3.out.keep hb)
 have HV7:=lh9 (HV7.out.keep hb)
 have HK9:=lh9 (zae hb HK9.out)
 have HM11:=lh9 (hm11)
 clear hb hm11
 clear HRS
 clear HK9 HV3 HV7
 obtain⟨bq0,bq1,-⟩:=zaA X12 28 #[.slice A11 2 c11,.int .i64 (2:Int)]
 have HB:=lh9 (zac HB.out bq0)
 have HM11:=lh9 (HM11.out.keep bq0)
 have HK13:=lh9 (bq1)
 clear bq0 bq1
 go_wp2_with fail
 generalize X12.alloc (.cells #[.slice A11 2 c11,.int .i64 (2:Int)] 28)=W14 at*
 generalize X12.heap.size=q14 at*
 obtain⟨p15_0,p15_1⟩:=HK13.out.c2
 have hbd:=(Below.refl W14.heap.size W14).drew
 have HB:=lh9 (zac HB.out hbd)
 have HM11:=lh9 (HM11.out.keep hbd)
 have HK13:=lh9 (zae hbd HK13.out)
 refine rg (csc p15_0 (csc p15_1 csn)) (λhHeld=>?_)
 clear hbd p15_0 p15_1
 generalize W14.drew=D16 at*
 refine tk 0 ?_
 refine rc 1 (λKK hK=>?_)
 go_simp
 obtain⟨t1,t2,-⟩:=zaA D16 3 #[.int .i64 1,.int .i64 1]
 refine hK.out _ _ (Cs.below hHeld t1) (λhHeld=>?_)
 clear hK KK
 have HB:=lh9 (zac HB.out t1)
 have HM11:=lh9 (HM11.out.keep t1)
 have HK13:=lh9 (zae t1 HK13.out)
 have HK17:=lh9 (t2)
 clear t1 t2
 generalize D16.alloc (.cells #[.int .i64 1,.int .i64 1] 3)=W17 at*
 generalize D16.heap.size=g17 at*
 have HS18:Hid (zaE (1) (ofL [1,1])):=zfS (by decide)
 refine rc 2 (λKK hK=>?_)
 go_simp
 (with_reducible refine(zfY (HT.out _ HB.out) (zdl [1,1] 2 rfl HK17.out (by decide)) (by decide)).mono ?_)
 rintro e X19 ⟨g18,rfl,hg18,ho18,hb⟩
 refine hK.out _ _ (Cs.below hHeld hb) (λhHeld=>?_)
 clear hK KK
 have HB:=lh9 (zac HB.out hb)
 have HM11:=lh9 (HM11.out.keep hb)
 have HK13:=lh9 (zae hb HK13.out)
 have HK17:=lh9 (zae hb HK17.out)
 have HV18:=lh9 (zbl ho18)
 clear hb hg18 ho18
 have HS20:Hid (zaE (7) (zbG [ofL [1,2],ofL [3,4]] (ofL [1,1]))):=zaE.up (zml HS11.out HS18.out (k:=2) zhO.cols rfl) (by decide)
 refine rc 3 (λKK hK=>?_)
 go_simp
 (with_reducible refine(a_times (HT.out _ HB.out) HM11.out HV18.out HS11.out HS18.out).mono ?_)
 rintro e X21 ⟨g20,rfl,hg20,ho20,hb⟩
 refine hK.out _ _ (Cs.below hHeld hb) (λhHeld=>?_)
 clear hK KK
 have HB:=lh9 (zac HB.out hb)
 have HM11:=lh9 (HM11.out.keep hb)
 have HK13:=lh9 (zae hb HK13.out)
 have HK17:=lh9 (zae hb HK17.out)
 have HV18:=lh9 (HV18.out.keep hb)
 have HV20:=lh9 (zbl ho20)
 clear hb hg20 ho20
 refine tk 4 ?_
 refine tk 5 ?_
 refine tk 6 ?_
 refine tk 7 ?_
 refine tk 8 ?_
 refine rdn ?_
 clear hHeld
 clear HK17 HV18
 go_wp2_with fail
 obtain⟨p22_0,p22_1⟩:=HK13.out.c2
 have hbd:=(Below.refl X21.heap.size X21).drew
 have HB:=lh9 (zac HB.out hbd)
 have HM11:=lh9 (HM11.out.keep hbd)
 have HK13:=lh9 (zae hbd HK13.out)
 have HV20:=lh9 (HV20.out.keep hbd)
 refine rg (csc p22_0 (csc p22_1 csn)) (λhHeld=>?_)
 clear hbd p22_0 p22_1
 generalize X21.drew=D23 at*
 refine tk 0 ?_
 refine rc 1 (λKK hK=>?_)
 go_simp
 obtain⟨t1,t2,-⟩:=zaA D23 3 #[.int .i64 1,.int .i64 1]
 refine hK.out _ _ (Cs.below hHeld t1) (λhHeld=>?_)
 clear hK KK
 have HB:=lh9 (zac HB.out t1)
 have HM11:=lh9 (HM11.out.keep t1)
 have HK13:=lh9 (zae t1 HK13.out)
 have HV20:=lh9 (HV20.out.keep t1)
 have HK24:=lh9 (t2)
 clear t1 t2
 generalize D23.alloc (.cells #[.int .i64 1,.int .i64 1] 3)=W24 at*
 generalize D23.heap.size=g24 at*
 have HS25:Hid (zaE (1) (ofL [1,1])):=zfS (by decide)
 refine rc 2 (λKK hK=>?_)
 go_simp
 (with_reducible refine(zfY (HT.out _ HB.out) (zdl [1,1] 2 rfl HK24.out (by decide)) (by decide)).mono ?_)
 rintro e X26 ⟨g25,rfl,hg25,ho25,hb⟩
 refine hK.out _ _ (Cs.below hHeld hb) (λhHeld=>?_)
 clear hK KK
 have HB:=lh9 (zac HB.out hb)
 have HM11:=lh9 (HM11.out.keep hb)
 have HK13:=lh9 (zae hb HK13.out)
 have HV20:=lh9 (HV20.out.keep hb)
 have HK24:=lh9 (zae hb HK24.out)
 have HV25:=lh9 (zbl ho25)
 clear hb hg25 ho25
 have HS27:Hid (zaE (7) (zbG (zbW 2 2 [ofL [1,2],ofL [3,4]]) (ofL [1,1]))):=zaE.up (zml (HS11.out.turn (n:=2) (m:=2) zhO) HS25.out (k:=2) (zfz _ _ _).cols rfl) (by decide)
 refine rc 3 (λKK hK=>?_)
 go_simp
 (with_reducible refine(a_by (HT.out _ HB.out) HM11.out HV25.out HS11.out HS25.out).mono ?_)
 rintro e X28 ⟨g27,rfl,hg27,ho27,hb⟩
 refine hK.out _ _ (Cs.below hHeld hb) (λhHeld=>?_)
 clear hK KK
 have HB:=lh9 (zac HB.out hb)
 have HM11:=lh9 (HM11.out.keep hb)
 have HK13:=lh9 (zae hb HK13.out)
 have HV20:=lh9 (HV20.out.keep hb)
 have HK24:=lh9 (zae hb HK24.out)
 have HV25:=lh9 (HV25.out.keep hb)
 have HV27:=lh9 (zbl ho27)
 clear hb hg27 ho27
 refine tk 4 ?_
 refine tk 5 ?_
 refine tk 6 ?_
 refine tk 7 ?_
 refine tk 8 ?_
 refine rdn ?_
 clear hHeld
 clear HK24 HV25
 obtain⟨p29_0,p29_1⟩:=HK13.out.c2
 obtain⟨bq0,bq1,-⟩:=zaA X28 3 #[.int .i64 1,.int .i64 1]
 have HB:=lh9 (zac HB.out bq0)
 have HM11:=lh9 (HM11.out.keep bq0)
 have HK13:=lh9 (zae bq0 HK13.out)
 have HV20:=lh9 (HV20.out.keep bq0)
 have HV27:=lh9 (HV27.out.keep bq0)
 have HK30:=lh9 (bq1)
 clear bq0 bq1
 go_wp2_with fail
 clear p29_0 p29_1
 generalize X28.alloc (.cells #[.int .i64 1,.int .i64 1] 3)=W31 at*
 generalize X28.heap.size=q31 at*
 have HS32:Hid (zaD (1) (zit 2 [1,1] [ofL [1,2],ofL [3,4]])):=zaD.tab (m:=2) λr c hr hc=>HS11.out.at_ (n:=2) (m:=2) zhO hr (by match c,hc with|0,_=>decide|1,_=>decide)
 (with_reducible refine(a_pick (HT.out _ HB.out) HM11.out HS11.out (zdl [1,1] 2 rfl HK30.out (by decide))).mono ?_)
 rintro e X33 ⟨A32,c32,rfl,hm32,-,hb⟩
 have HB:=lh9 (zac HB.out hb)
 have HM11:=lh9 (HM11.out.keep hb)
 have HK13:=lh9 (zae hb HK13.out)
 have HV20:=lh9 (HV20.out.keep hb)
 have HV27:=lh9 (HV27.out.keep hb)
 have HK30:=lh9 (zae hb HK30.out)
 have HM32:=lh9 (hm32)
 clear hb hm32
 clear HK30
 obtain⟨bq0,bq1,-⟩:=zaA X33 28 #[.slice A32 2 c32,.int .i64 (2:Int)]
 have HB:=lh9 (zac HB.out bq0)
 have HM11:=lh9 (HM11.out.keep bq0)
 have HK13:=lh9 (zae bq0 HK13.out)
 have HV20:=lh9 (HV20.out.keep bq0)
 have HV27:=lh9 (HV27.out.keep bq0)
 have HM32:=lh9 (HM32.out.keep bq0)
 have HK34:=lh9 (bq1)
 clear bq0 bq1
 go_wp2_with fail
 generalize X33.alloc (.cells #[.slice A32 2 c32,.int .i64 (2:Int)] 28)=W35 at*
 generalize X33.heap.size=q35 at*
 have HS36:Hid (zaE (1) (ofL [1])):=zfS (by decide)
 obtain⟨p37_0,p37_1⟩:=HK13.out.c2
 have GG:=lh9 (λw' (h:Below W35.heap.size W35 w')=>(csc (zad h p37_0) (csc (zad h p37_1) csn)))
 refine rgB (λhHeld=>?_)
 clear p37_0 p37_1
 refine tl 0 GG.out ?_
 refine zbA (L:=#[true,true,true,true,true,true,true,true,true,true])
  (J:=fun a0 l a w' => ∃ (fl1 fl2 fl3 fl4 fl5 fl6 fl7 fl8 fl9 : Bool) (g36 ad1 ad7 : Nat),l = #[true,fl1,fl2,fl3,fl4,fl5,fl6,fl7,fl8,fl9] ∧ zcX [46,47,48,44,49,50,9,10] a0 a ∧ Hid (Below W35.heap.size W35 w') ∧
    Hid (Gd fl2 (a.tmps.getD 47 undef=.slice (some ⟨g36,0,none⟩) 1 1/\zaK w' (some ⟨g36,0,none⟩) 1 1 (ofL [1])))/\
    Hid (Gd fl3 (a.tmps.getD 48 undef=.tuple #[.agg #[.slice none 0 0,.int .i64 0],.bool false]))/\
    Hid (Gd fl4 (a.tmps.getD 44 undef=.tuple #[.agg #[.slice none 0 0,.int .i64 0],.bool false]))/\
    Hid (Gd fl5 (a.tmps.getD 49 undef=.agg #[.slice none 0 0,.int .i64 0]))/\
    Hid (Gd fl6 (a.tmps.getD 50 undef=.bool false))/\
    Hid (Gd fl9 (a.tmps.getD 10 undef=.bool false))/\
    Hid (Gd fl1 (a.tmps.getD 46 undef=.slice (some ⟨ad1,0,none⟩) 1 1/\W35.heap.size<=ad1/\Blk w' ad1 3 #[.int .i64 1]))/\
    Hid (Gd fl7 (a.tmps.getD 9 undef=.pointer (some ⟨ad7,0,none⟩)/\W35.heap.size<=ad7/\Blk w' ad7 28 (bif fl8 then #[.slice none 0 0,.int .i64 0] else #[.slice none 0 0,.int .i64 0])))/\
    Hid (Gd fl1 (Gd fl7 (ad1≠ad7)))/\
    Hid (Gd fl2 (fl1=true))/\
    Hid (Gd fl3 (fl2=true))/\
    Hid (Gd fl4 (fl3=true))/\
    Hid (Gd fl5 (fl4=true))/\
    Hid (Gd fl6 (fl4=true))/\
    Hid (Gd fl8 (fl3=true))/\
    Hid (Gd fl8 (fl5=true))/\
    Hid (Gd fl8 (fl7=true))/\
    Hid (Gd fl9 (fl6=true))/\
    Hid (Gd fl9 (fl8=true)))
  (by rfl) ?_ ?_ ?_
 ·exact⟨false,false,false,false,false,false,false,false,false,0,0,0,by kernel_rfl,zcX.refl _ _,hHeld,Gd.no,Gd.no,Gd.no,Gd.no,Gd.no,Gd.no,Gd.no,Gd.no,Gd.no,Gd.no,Gd.no,Gd.no,Gd.no,Gd.no,Gd.no,Gd.no,Gd.no,Gd.no,Gd.no⟩
 ·intro OPS Ac0 Q0 hO hAs hA
  have RB45:Ac0.tmps.getD 45 undef=.agg #[.slice A11 2 c11,.int .i64 (2:Int)]:=(hA 45 undef).trans (by kernel_rfl)
  have hsz:Ac0.tmps.size=106:=hAs.trans (by kernel_rfl)
  clear hAs hA
  refine⟨?_,?_⟩
  ·rintro l a w' ⟨fl1,fl2,fl3,fl4,fl5,fl6,fl7,fl8,fl9,g36,ad1,ad7,rfl,-⟩ hr
   obtain rfl:fl1=true:=als 1 hr hO
   obtain rfl:fl2=true:=als 2 hr hO
   obtain rfl:fl3=true:=als 3 hr hO
   obtain rfl:fl4=true:=als 4 hr hO
   obtain rfl:fl5=true:=als 5 hr hO
   obtain rfl:fl6=true:=als 6 hr hO
   obtain rfl:fl7=true:=als 7 hr hO
   obtain rfl:fl8=true:=als 8 hr hO
   obtain rfl:fl9=true:=als 9 hr hO
   rfl
  ·rintro l a w' i ⟨fl1,fl2,fl3,fl4,fl5,fl6,fl7,fl8,fl9,g36,ad1,ad7,rfl,HKp,hBi,qf2,qf3,qf4,qf5,qf6,qf9,qf1,qf7,qn1_7,qd2_1,qd3_2,qd4_3,qd5_4,qd6_4,qd8_3,qd8_5,qd8_7,qd9_6,qd9_8⟩ hne hi
   have hlt:i<10:=by have:=zdn hi;rw [hO] at this;exact this
   rcases (show i=0\/i=1\/i=2\/i=3\/i=4\/i=5\/i=6\/i=7\/i=8\/i=9 by omega) with rfl|rfl|rfl|rfl|rfl|rfl|rfl|rfl|rfl|rfl
   ·cases (zai hi:true=false)
   ·obtain rfl:fl1=false:=zai hi
    obtain rfl:fl2=false:=Gd.off qd2_1.out
    obtain rfl:fl3=false:=Gd.off qd3_2.out
    obtain rfl:fl4=false:=Gd.off qd4_3.out
    obtain rfl:fl5=false:=Gd.off qd5_4.out
    obtain rfl:fl6=false:=Gd.off qd6_4.out
    obtain rfl:fl8=false:=Gd.off qd8_3.out
    obtain rfl:fl9=false:=Gd.off qd9_6.out
    refine wog hO (λK' hK=>?_)
    go_simp
    have hb:=zbp w' (.cells #[.int .i64 1] 3)
    exact hK.out _ _ ⟨zac hBi.out hb,true,false,false,false,false,false,fl7,false,false,g36,w'.heap.size,ad7,by rfl,HKp.put (by decide) _,zac hBi.out hb,Gd.no,Gd.no,Gd.no,Gd.no,Gd.no,Gd.no,Gd.yes ⟨zaL (HKp.lt (by rw [hsz];decide)) _,hBi.out.size,Blk.new w' _ _⟩,kq qf7.out λh=>⟨h.1,zae hb h.2⟩,Gd.yes (qf7.out.mono λh=>by have:=Blk.lt h.2.2;omega),Gd.no,Gd.no,Gd.no,Gd.no,Gd.no,Gd.no,Gd.no,Gd.no,Gd.no,Gd.no⟩
   ·obtain rfl:fl2=false:=zai hi
    obtain rfl:fl1=true:=rdp 1 0 hi hO
    obtain rfl:fl3=false:=Gd.off qd3_2.out
    obtain rfl:fl4=false:=Gd.off qd4_3.out
    obtain rfl:fl5=false:=Gd.off qd5_4.out
    obtain rfl:fl6=false:=Gd.off qd6_4.out
    obtain rfl:fl8=false:=Gd.off qd8_3.out
    obtain rfl:fl9=false:=Gd.off qd9_6.out
    have rd46:=qf1.out.get.1
    have hk1:=qf1.out.get.2.2
    have HBn:=lh9 (zac HB.out hBi.out)
    refine wog hO (λK' hK=>?_)
    go_simp
    (with_reducible refine(zfY (HT.out _ HBn.out) (zdl [1] 1 rfl hk1 (by decide)) (by decide)).mono ?_)
    rintro e w2 ⟨ng36,rfl,nhg36,nho36,hb⟩
    exact hK.out _ _ ⟨zac hBi.out hb,true,true,false,false,false,false,fl7,false,false,ng36,ad1,ad7,by rfl,HKp.put (by decide) _,zac hBi.out hb,Gd.yes ⟨zaL (HKp.lt (by rw [hsz];decide)) _,(zbl nho36)⟩,Gd.no,Gd.no,Gd.no,Gd.no,Gd.no,kq qf1.out λh=>⟨h.1,zae hb h.2⟩,kq qf7.out λh=>⟨h.1,zae hb h.2⟩,qn1_7,λ_=>rfl,Gd.no,Gd.no,Gd.no,Gd.no,Gd.no,Gd.no,Gd.no,Gd.no,Gd.no⟩
   ·obtain rfl:fl3=false:=zai hi
    obtain rfl:fl2=true:=rdp 2 1 hi hO
    obtain rfl:fl1=true:=qd2_1.out.get
    obtain rfl:fl4=false:=Gd.off qd4_3.out
    obtain rfl:fl5=false:=Gd.off qd5_4.out
    obtain rfl:fl6=false:=Gd.off qd6_4.out
    obtain rfl:fl8=false:=Gd.off qd8_3.out
    obtain rfl:fl9=false:=Gd.off qd9_6.out
    have rd45:=HKp.get 45 (by decide) RB45
    have rd47:=qf2.out.get.1
    have hw2_0:=lh9 (qf2.out.get.2)
    have hk1:=qf1.out.get.2.2
    have HM11n:=lh9 (HM11.out.keep hBi.out)
    refine wog hO (λK' hK=>?_)
    go_simp
    (with_reducible refine(a_norow HM11n.out hw2_0.out).mono ?_)
    rintro e w2 ⟨rfl,hb⟩
    exact hK.out _ _ ⟨zac hBi.out hb,true,true,true,false,false,false,fl7,false,false,g36,ad1,ad7,by rfl,HKp.put (by decide) _,zac hBi.out hb,kq qf2.out λh=>zaK.keep (h) hb,Gd.yes (zaL (HKp.lt (by rw [hsz];decide)) _),Gd.no,Gd.no,Gd.no,Gd.no,kq qf1.out λh=>⟨h.1,zae hb h.2⟩,kq qf7.out λh=>⟨h.1,zae hb h.2⟩,qn1_7,λ_=>rfl,λ_=>rfl,Gd.no,Gd.no,Gd.no,Gd.no,Gd.no,Gd.no,Gd.no,Gd.no⟩
   ·obtain rfl:fl4=false:=zai hi
    obtain rfl:fl3=true:=rdp 3 0 hi hO
    obtain rfl:fl2=true:=qd3_2.out.get
    obtain rfl:fl1=true:=qd2_1.out.get
    obtain rfl:fl5=false:=Gd.off qd5_4.out
    obtain rfl:fl6=false:=Gd.off qd6_4.out
    obtain rfl:fl8=false:=Gd.off qd8_5.out
    obtain rfl:fl9=false:=Gd.off qd9_6.out
    have rd48:=qf3.out.get
    refine wog hO (λK' hK=>?_)
    refine zdf (x:=48) (Or.inl rfl) rd48 ?_
    exact hK.out _ _ ⟨hBi.out,true,true,true,true,false,false,fl7,false,false,g36,ad1,ad7,by rfl,HKp.put (by decide) _,hBi.out,kq qf2.out λh=>(h),kq0 qf3.out,Gd.yes (zaL (HKp.lt (by rw [hsz];decide)) _),Gd.no,Gd.no,Gd.no,kq qf1.out id,kq qf7.out id,qn1_7,λ_=>rfl,λ_=>rfl,λ_=>rfl,Gd.no,Gd.no,Gd.no,Gd.no,Gd.no,Gd.no,Gd.no⟩
   ·obtain rfl:fl5=false:=zai hi
    obtain rfl:fl4=true:=rdp 4 0 hi hO
    obtain rfl:fl3=true:=qd4_3.out.get
    obtain rfl:fl2=true:=qd3_2.out.get
    obtain rfl:fl1=true:=qd2_1.out.get
    obtain rfl:fl8=false:=Gd.off qd8_5.out
    obtain rfl:fl9=false:=Gd.off qd9_8.out
    have rd44:=qf4.out.get
    refine wog hO (λK' hK=>?_)
    refine zaX (x:=44) (k:=0) rfl rd44 rfl ?_
    exact hK.out _ _ ⟨hBi.out,true,true,true,true,true,fl6,fl7,false,false,g36,ad1,ad7,by rfl,HKp.put (by decide) _,hBi.out,kq qf2.out λh=>(h),kq0 qf3.out,kq0 qf4.out,Gd.yes (zaL (HKp.lt (by rw [hsz];decide)) _),kq0 qf6.out,Gd.no,kq qf1.out id,kq qf7.out id,qn1_7,λ_=>rfl,λ_=>rfl,λ_=>rfl,λ_=>rfl,λ_=>rfl,Gd.no,Gd.no,Gd.no,Gd.no,Gd.no⟩
   ·obtain rfl:fl6=false:=zai hi
    obtain rfl:fl4=true:=rdp 4 0 hi hO
    obtain rfl:fl3=true:=qd4_3.out.get
    obtain rfl:fl2=true:=qd3_2.out.get
    obtain rfl:fl1=true:=qd2_1.out.get
    obtain rfl:fl9=false:=Gd.off qd9_6.out
    have rd44:=qf4.out.get
    refine wog hO (λK' hK=>?_)
    refine zaX (x:=44) (k:=1) rfl rd44 rfl ?_
    exact hK.out _ _ ⟨hBi.out,true,true,true,true,fl5,true,fl7,fl8,false,g36,ad1,ad7,by rfl,HKp.put (by decide) _,hBi.out,kq qf2.out λh=>(h),kq0 qf3.out,kq0 qf4.out,kq0 qf5.out,Gd.yes (zaL (HKp.lt (by rw [hsz];decide)) _),Gd.no,kq qf1.out id,kq qf7.out id,qn1_7,λ_=>rfl,λ_=>rfl,λ_=>rfl,λ_=>rfl,λ_=>rfl,λ_=>rfl,qd8_5,qd8_7,Gd.no,Gd.no⟩
   ·obtain rfl:fl7=false:=zai hi
    obtain rfl:fl8=false:=Gd.off qd8_7.out
    obtain rfl:fl9=false:=Gd.off qd9_8.out
    refine wog hO (λK' hK=>?_)
    go_simp
    have hb:=zbp w' (.cells #[.slice none 0 0,.int .i64 0] 28)
    exact hK.out _ _ ⟨zac hBi.out hb,fl1,fl2,fl3,fl4,fl5,fl6,true,false,false,g36,ad1,w'.heap.size,by rfl,HKp.put (by decide) _,zac hBi.out hb,kq qf2.out λh=>zaK.keep (h) hb,kq0 qf3.out,kq0 qf4.out,kq0 qf5.out,kq0 qf6.out,Gd.no,kq qf1.out λh=>⟨h.1,zae hb h.2⟩,Gd.yes ⟨zaL (HKp.lt (by rw [hsz];decide)) _,hBi.out.size,Blk.new w' _ _⟩,qf1.out.mono λh=>Gd.yes (by have:=Blk.lt h.2.2;omega),qd2_1,qd3_2,qd4_3,qd5_4,qd6_4,Gd.no,Gd.no,Gd.no,Gd.no,Gd.no⟩
   ·obtain rfl:fl8=false:=zai hi
    obtain rfl:fl1=true:=rdp 1 4 hi hO
    obtain rfl:fl2=true:=rdp 2 5 hi hO
    obtain rfl:fl3=true:=rdp 3 2 hi hO
    obtain rfl:fl4=true:=rdp 4 7 hi hO
    obtain rfl:fl5=true:=rdp 5 1 hi hO
    obtain rfl:fl7=true:=rdp 7 0 hi hO
    obtain rfl:fl9=false:=Gd.off qd9_8.out
    have rd9:=qf7.out.get.1
    have rd49:=qf5.out.get
    obtain⟨_,hg,hk⟩:=qf7.out.get
    have hk:Blk w' ad7 28 #[.slice none 0 0,.int .i64 0]:=hk
    obtain⟨sc0,sf0,sc1,sf1⟩:=st2 hk (.slice none 0 0)
    have hj1:=sn2 hk (.slice none 0 0) (.int .i64 0)
    have hBn:=bl2 (.slice none 0 0) (.int .i64 0) hg hBi.out
    refine wog hO (λK' hK=>?_)
    go_simp
    exact hK.out _ _ ⟨hBn,true,true,true,true,true,fl6,true,true,false,g36,ad1,ad7,by rfl,HKp,hBn,qf2.out.mono λh=>⟨h.1,zaK.offz (h.2) hk _ _⟩,qf3.out.mono λh=>h,qf4.out.mono λh=>h,qf5.out.mono λh=>h,qf6.out.mono λh=>h,Gd.no,λhf9=>(λh=>⟨h.1,h.2.1,Blk.far (p:=⟨ad7,1,none⟩) (Blk.far (p:=⟨ad7,0,none⟩) (h.2.2) (qn1_7.out hf9 rfl) (.slice none 0 0)) (qn1_7.out hf9 rfl) (.int .i64 0)⟩) (qf1.out hf9),qf7.out.mono λh=>⟨h.1,h.2.1,hj1⟩,qn1_7,λ_=>rfl,λ_=>rfl,λ_=>rfl,λ_=>rfl,λ_=>rfl,λ_=>rfl,λ_=>rfl,λ_=>rfl,Gd.no,Gd.no⟩
   ·obtain rfl:fl9=false:=zai hi
    obtain rfl:fl1=true:=rdp 1 3 hi hO
    obtain rfl:fl2=true:=rdp 2 4 hi hO
    obtain rfl:fl3=true:=rdp 3 5 hi hO
    obtain rfl:fl4=true:=rdp 4 6 hi hO
    obtain rfl:fl5=true:=rdp 5 7 hi hO
    obtain rfl:fl6=true:=rdp 6 0 hi hO
    obtain rfl:fl7=true:=rdp 7 9 hi hO
    obtain rfl:fl8=true:=rdp 8 1 hi hO
    have rd50:=qf6.out.get
    refine wog hO (λK' hK=>?_)
    refine zdf (x:=50) (Or.inr rfl) rd50 ?_
    exact hK.out _ _ ⟨hBi.out,true,true,true,true,true,true,true,true,true,g36,ad1,ad7,by rfl,HKp.put (by decide) _,hBi.out,kq qf2.out λh=>(h),kq0 qf3.out,kq0 qf4.out,kq0 qf5.out,kq0 qf6.out,Gd.yes (zaL (HKp.lt (by rw [hsz];decide)) _),kq qf1.out id,kq qf7.out id,qn1_7,λ_=>rfl,λ_=>rfl,λ_=>rfl,λ_=>rfl,λ_=>rfl,λ_=>rfl,λ_=>rfl,λ_=>rfl,λ_=>rfl,λ_=>rfl⟩
 rintro a wm38 ⟨fl1,fl2,fl3,fl4,fl5,fl6,fl7,fl8,fl9,g36,ad1,ad7,hl,HKp,hBi,qf2,qf3,qf4,qf5,qf6,qf9,qf1,qf7,qn1_7,qd2_1,qd3_2,qd4_3,qd5_4,qd6_4,qd8_3,qd8_5,qd8_7,qd9_6,qd9_8⟩
 have xx1:fl1=true:=gdl 1 hl
 subst xx1
 have xx2:fl2=true:=gdl 2 hl
 subst xx2
 have xx3:fl3=true:=gdl 3 hl
 subst xx3
 have xx4:fl4=true:=gdl 4 hl
 subst xx4
 have xx5:fl5=true:=gdl 5 hl
 subst xx5
 have xx6:fl6=true:=gdl 6 hl
 subst xx6
 have xx7:fl7=true:=gdl 7 hl
 subst xx7
 have xx8:fl8=true:=gdl 8 hl
 subst xx8
 have xx9:fl9=true:=gdl 9 hl
 subst xx9
 obtain⟨rv2,hw2_0⟩:=qf2.out.get
 have rv3:=qf3.out.get
 have rv4:=qf4.out.get
 have rv5:=qf5.out.get
 have rv6:=qf6.out.get
 have rv9:=qf9.out.get
 obtain⟨rv1,hg1,hk1⟩:=qf1.out.get
 obtain⟨rv7,hg7,hk7⟩:=qf7.out.get
 obtain rfl:=HKp.eq [(46,.slice (some ⟨ad1,0,none⟩) 1 1),(47,.slice (some ⟨g36,0,none⟩) 1 1),(48,.tuple #[.agg #[.slice none 0 0,.int .i64 0],.bool false]),(44,.tuple #[.agg #[.slice none 0 0,.int .i64 0],.bool false]),(49,.agg #[.slice none 0 0,.int .i64 0]),(50,.bool false),(9,.pointer (some ⟨ad7,0,none⟩)),(10,.bool false)] rfl (by
  intro p hp
  simp only [List.mem_cons,List.not_mem_nil,or_false] at hp
  rcases hp with rfl|rfl|rfl|rfl|rfl|rfl|rfl|rfl
  ·exact rv1
  ·exact rv2
  ·exact rv3
  ·exact rv4
  ·exact rv5
  ·exact rv6
  ·exact rv7
  ·exact rv9)
 have hBv:=hBi.out
 clear hl hBi HKp qf2 qf3 qf4 qf5 qf6 qf9 qf1 qf7 qn1_7 qd2_1 qd3_2 qd4_3 qd5_4 qd6_4 qd8_3 qd8_5 qd8_7 qd9_6 qd9_8 rv1 rv2 rv3 rv4 rv5 rv6 rv7 rv9
 have hk1:Blk wm38 ad1 3 #[.int .i64 1]:=hk1
 have hk7:Blk wm38 ad7 28 #[.slice none 0 0,.int .i64 0]:=hk7
 rw [show due #[true,true,true,true,true,true,true,true,true,true]=0 from rfl]
 simp only [zcO,List.foldl,Act.put,List.setIfInBounds_toArray,List.set_cons_zero,List.set_cons_succ]
 refine wpAnyH_done (by kernel_rfl) ?_ _
 refine NoPanic.normal ?_
 have HB:=lh9 (zac HB.out hBv)
 have HM11:=lh9 (HM11.out.keep hBv)
 have HK13:=lh9 (zae hBv HK13.out)
 have HV20:=lh9 (HV20.out.keep hBv)
 have HV27:=lh9 (HV27.out.keep hBv)
 have HM32:=lh9 (HM32.out.keep hBv)
 have HK34:=lh9 (zae hBv HK34.out)
 obtain⟨adx39,hga⟩:∃x,x=ad7:=⟨_,rfl⟩
 subst hga
 clear hBv GG hk1 hg1 hk7 hg7 hw2_0
 go_wp2_with fail
 have HS40:Hid (zaD (1) (zfT 2)):=zaD.tab λr c _ _=>znl r c
 (with_reducible refine(a_one (HT.out _ HB.out)).mono ?_)
 rintro e X41 ⟨A40,c40,rfl,hm40,-,hb⟩
 have HB:=lh9 (zac HB.out hb)
 have HM11:=lh9 (HM11.out.keep hb)
 have HK13:=lh9 (zae hb HK13.out)
 have HV20:=lh9 (HV20.out.keep hb)
 have HV27:=lh9 (HV27.out.keep hb)
 have HM32:=lh9 (HM32.out.keep hb)
 have HK34:=lh9 (zae hb HK34.out)
 have HM40:=lh9 (hm40)
 clear hb hm40
 obtain⟨bq0,bq1,-⟩:=zaA X41 28 #[.slice A40 2 c40,.int .i64 (2:Int)]
 have HB:=lh9 (zac HB.out bq0)
 have HM11:=lh9 (HM11.out.keep bq0)
 have HK13:=lh9 (zae bq0 HK13.out)
 have HV20:=lh9 (HV20.out.keep bq0)
 have HV27:=lh9 (HV27.out.keep bq0)
 have HM32:=lh9 (HM32.out.keep bq0)
 have HK34:=lh9 (zae bq0 HK34.out)
 have HM40:=lh9 (HM40.out.keep bq0)
 obtain⟨p43_0,p43_1⟩:=bq1.c2
 clear bq0 bq1
 obtain⟨p44_0,p44_1⟩:=HK13.out.c2
 go_wp2_with fail
 clear p43_0 p43_1 p44_0 p44_1
 generalize X41.alloc (.cells #[.slice A40 2 c40,.int .i64 (2:Int)] 28)=W45 at*
 generalize X41.heap.size=q45 at*
 have HS46:Hid (zaD (7) (zgO 2 2 2 [ofL [1,2],ofL [3,4]] (zfT 2))):=zaD.up (zaD.mul HS11.out HS40.out zhO (zde _ _ _)) (by decide)
 (with_reducible refine(a_mul (HT.out _ HB.out) HM11.out HM40.out HS11.out HS40.out).mono ?_)
 rintro e X47 ⟨A46,c46,rfl,hm46,-,hb⟩
 have HB:=lh9 (zac HB.out hb)
 have HM11:=lh9 (HM11.out.keep hb)
 have HK13:=lh9 (zae hb HK13.out)
 have HV20:=lh9 (HV20.out.keep hb)
 have HV27:=lh9 (HV27.out.keep hb)
 have HM32:=lh9 (HM32.out.keep hb)
 have HK34:=lh9 (zae hb HK34.out)
 have HM40:=lh9 (HM40.out.keep hb)
 have HM46:=lh9 (hm46)
 clear hb hm46
 clear HM40
 obtain⟨bq0,bq1,bq2,-⟩:=zbe X47 28 3 #[.slice A46 2 c46,.int .i64 (2:Int)] #[.int .i64 3,.int .i64 7]
 have HB:=lh9 (zac HB.out bq0)
 have HM11:=lh9 (HM11.out.keep bq0)
 have HK13:=lh9 (zae bq0 HK13.out)
 have HV20:=lh9 (HV20.out.keep bq0)
 have HV27:=lh9 (HV27.out.keep bq0)
 have HM32:=lh9 (HM32.out.keep bq0)
 have HK34:=lh9 (zae bq0 HK34.out)
 have HM46:=lh9 (HM46.out.keep bq0)
 have HK48:=lh9 (bq1)
 have HK49:=lh9 (bq2)
 clear bq0 bq1 bq2
 go_wp2_with fail
 generalize (X47.alloc (.cells #[.slice A46 2 c46,.int .i64 (2:Int)] 28)).alloc (.cells #[.int .i64 3,.int .i64 7] 3)=W50 at*
 generalize X47.heap.size=q50 at*
 have HS51:Hid (zaE (1) (ofL [3,7])):=zfS (by decide)
 (with_reducible refine(zfY (HT.out _ HB.out) (zdl [3,7] 2 rfl HK49.out (by decide)) (by decide)).mono ?_)
 rintro e X52 ⟨g51,rfl,hg51,ho51,hb⟩
 have HB:=lh9 (zac HB.out hb)
 have HM11:=lh9 (HM11.out.keep hb)
 have HK13:=lh9 (zae hb HK13.out)
 have HV20:=lh9 (HV20.out.keep hb)
 have HV27:=lh9 (HV27.out.keep hb)
 have HM32:=lh9 (HM32.out.keep hb)
 have HK34:=lh9 (zae hb HK34.out)
 have HM46:=lh9 (HM46.out.keep hb)
 have HK48:=lh9 (zae hb HK48.out)
 have HK49:=lh9 (zae hb HK49.out)
 have HV51:=lh9 (zbl ho51)
 clear hb hg51 ho51
 go_wp2_with fail
 (with_reducible refine(zeB (t:=true) (by decide+kernel) (HT.out _ HB.out) HV20.out HV51.out HS20.out HS51.out (by decide) (by decide) (by decide) (by decide)).mono ?_)
 rintro e X53 ⟨rfl,hb⟩
 have HB:=lh9 (zac HB.out hb)
 have HM11:=lh9 (HM11.out.keep hb)
 have HK13:=lh9 (zae hb HK13.out)
 have HV20:=lh9 (HV20.out.keep hb)
 have HV27:=lh9 (HV27.out.keep hb)
 have HM32:=lh9 (HM32.out.keep hb)
 have HK34:=lh9 (zae hb HK34.out)
 have HM46:=lh9 (HM46.out.keep hb)
 have HK48:=lh9 (zae hb HK48.out)
 have HK49:=lh9 (zae hb HK49.out)
 have HV51:=lh9 (HV51.out.keep hb)
 clear hb 
 clear HK49 HV51 HV20
 obtain⟨bq0,bq1,-⟩:=zaA X53 3 #[.int .i64 4,.int .i64 6]
 have HB:=lh9 (zac HB.out bq0)
 have HM11:=lh9 (HM11.out.keep bq0)
 have HK13:=lh9 (zae bq0 HK13.out)
 have HV27:=lh9 (HV27.out.keep bq0)
 have HM32:=lh9 (HM32.out.keep bq0)
 have HK34:=lh9 (zae bq0 HK34.out)
 have HM46:=lh9 (HM46.out.keep bq0)
 have HK48:=lh9 (zae bq0 HK48.out)
 have HK54:=lh9 (bq1)
 clear bq0 bq1
 go_wp2_with fail
 generalize X53.alloc (.cells #[.int .i64 4,.int .i64 6] 3)=W55 at*
 generalize X53.heap.size=q55 at*
 have HS56:Hid (zaE (1) (ofL [4,6])):=zfS (by decide)
 (with_reducible refine(zfY (HT.out _ HB.out) (zdl [4,6] 2 rfl HK54.out (by decide)) (by decide)).mono ?_)
 rintro e X57 ⟨g56,rfl,hg56,ho56,hb⟩
 have HB:=lh9 (zac HB.out hb)
 have HM11:=lh9 (HM11.out.keep hb)
 have HK13:=lh9 (zae hb HK13.out)
 have HV27:=lh9 (HV27.out.keep hb)
 have HM32:=lh9 (HM32.out.keep hb)
 have HK34:=lh9 (zae hb HK34.out)
 have HM46:=lh9 (HM46.out.keep hb)
 have HK48:=lh9 (zae hb HK48.out)
 have HK54:=lh9 (zae hb HK54.out)
 have HV56:=lh9 (zbl ho56)
 clear hb hg56 ho56
 go_wp2_with fail
 (with_reducible refine(zeB (t:=true) (by decide+kernel) (HT.out _ HB.out) HV27.out HV56.out HS27.out HS56.out (by decide) (by decide) (by decide) (by decide)).mono ?_)
 rintro e X58 ⟨rfl,hb⟩
 have HB:=lh9 (zac HB.out hb)
 have HM11:=lh9 (HM11.out.keep hb)
 have HK13:=lh9 (zae hb HK13.out)
 have HV27:=lh9 (HV27.out.keep hb)
 have HM32:=lh9 (HM32.out.keep hb)
 have HK34:=lh9 (zae hb HK34.out)
 have HM46:=lh9 (HM46.out.keep hb)
 have HK48:=lh9 (zae hb HK48.out)
 have HK54:=lh9 (zae hb HK54.out)
 have HV56:=lh9 (HV56.out.keep hb)
 clear hb 
 clear HK54 HV56 HV27
 have E1:Hid (atM (zbW 2 2 [ofL [1,2],ofL [3,4]]) 0 1=Rat.divInt 3 1):=by show _=_;decide+kernel
 have E2:Hid (atM (zit 2 [1,1] [ofL [1,2],ofL [3,4]]) 1 0=Rat.divInt 4 1):=by show _=_;decide+kernel
 have E3:Hid (zgO 2 2 2 [ofL [1,2],ofL [3,4]] (zfT 2)=[ofL [1,2],ofL [3,4]]):=mul_oneM zhO
 obtain⟨p59_0,p59_1⟩:=HK13.out.c2
 have HS60:Hid (zaD (1) (zbW 2 2 [ofL [1,2],ofL [3,4]])):=HS11.out.turn zhO
 go_wp2_with fail
 clear p59_0 p59_1
 (with_reducible refine(a_turned (HT.out _ HB.out) HM11.out HS11.out).mono ?_)
 rintro e X61 ⟨A60,c60,rfl,hm60,-,hb⟩
 have HB:=lh9 (zac HB.out hb)
 have HM11:=lh9 (HM11.out.keep hb)
 have HK13:=lh9 (zae hb HK13.out)
 have HM32:=lh9 (HM32.out.keep hb)
 have HK34:=lh9 (zae hb HK34.out)
 have HM46:=lh9 (HM46.out.keep hb)
 have HK48:=lh9 (zae hb HK48.out)
 have HM60:=lh9 (hm60)
 clear hb hm60
 have HS62:Hid (SzQ (1) (atM (zbW 2 2 [ofL [1,2],ofL [3,4]]) 0 1)):=HS60.out.at_ (zfz _ _ _) (by decide) (by decide)
 go_wp2_with fail
 (with_reducible refine(a_at01 (HT.out _ HB.out) HM60.out HS60.out).mono ?_)
 rintro e X63 ⟨b62,A62,n62,c62,E62,k62,f62,rfl,hw62,hb⟩
 have HB:=lh9 (zac HB.out hb)
 have HM11:=lh9 (HM11.out.keep hb)
 have HK13:=lh9 (zae hb HK13.out)
 have HM32:=lh9 (HM32.out.keep hb)
 have HK34:=lh9 (zae hb HK34.out)
 have HM46:=lh9 (HM46.out.keep hb)
 have HK48:=lh9 (zae hb HK48.out)
 have HM60:=lh9 (HM60.out.keep hb)
 have HQ62:=lh9 (hw62)
 clear hb hw62
 go_wp2_with fail
 (with_reducible refine(zkn (λ_ _ h hb=>h.on hb) zbJ qc10 3 1 _ 1 b62 A62 n62 c62 E62 k62 f62 _ (by decide) HS62.out HQ62.out (HT.out _ HB.out) (by decide) (by decide) (by decide) (by decide) (by decide) E1.out).mono ?_)
 rintro e X64 ⟨rfl,hb⟩
 have HB:=lh9 (zac HB.out hb)
 have HM11:=lh9 (HM11.out.keep hb)
 have HK13:=lh9 (zae hb HK13.out)
 have HM32:=lh9 (HM32.out.keep hb)
 have HK34:=lh9 (zae hb HK34.out)
 have HM46:=lh9 (HM46.out.keep hb)
 have HK48:=lh9 (zae hb HK48.out)
 have HM60:=lh9 (HM60.out.keep hb)
 have HQ62:=lh9 (HQ62.out.below hb)
 clear hb 
 clear HM60 HQ62
 obtain⟨p65_0,p65_1⟩:=HK34.out.c2
 have HS66:Hid (SzQ (1) (atM (zit 2 [1,1] [ofL [1,2],ofL [3,4]]) 1 0)):=HS32.out.at_ (zde _ _ _) (by decide) (by decide)
 go_wp2_with fail
 clear p65_0 p65_1
 (with_reducible refine(a_at10 (HT.out _ HB.out) HM32.out HS32.out).mono ?_)
 rintro e X67 ⟨b66,A66,n66,c66,E66,k66,f66,rfl,hw66,hb⟩
 have HB:=lh9 (zac HB.out hb)
 have HM11:=lh9 (HM11.out.keep hb)
 have HK13:=lh9 (zae hb HK13.out)
 have HM46:=lh9 (HM46.out.keep hb)
 have HK48:=lh9 (zae hb HK48.out)
 have HQ66:=lh9 (hw66)
 clear hb hw66
 go_wp2_with fail
 (with_reducible refine(zkn (λ_ _ h hb=>h.on hb) zbJ qc10 4 1 _ 1 b66 A66 n66 c66 E66 k66 f66 _ (by decide) HS66.out HQ66.out (HT.out _ HB.out) (by decide) (by decide) (by decide) (by decide) (by decide) E2.out).mono ?_)
 rintro e X68 ⟨rfl,hb⟩
 have HB:=lh9 (zac HB.out hb)
 have HM11:=lh9 (HM11.out.keep hb)
 have HK13:=lh9 (zae hb HK13.out)
 have HM46:=lh9 (HM46.out.keep hb)
 have HK48:=lh9 (zae hb HK48.out)
 have HQ66:=lh9 (HQ66.out.below hb)
 clear hb 
 clear HQ66
 obtain⟨p69_0,p69_1⟩:=HK48.out.c2
 obtain⟨p70_0,p70_1⟩:=HK13.out.c2
 go_wp2_with fail
 clear p69_0 p69_1 p70_0 p70_1
 (with_reducible refine(a_same E3.out (HT.out _ HB.out) HM46.out HM11.out HS46.out HS11.out (by decide)).mono ?_)
 rintro e X71 ⟨rfl,hb⟩
 have HB:=lh9 (zac HB.out hb)
 clear hb 
 go_wp2
 go_ret
 exact⟨rfl,HB.out⟩
