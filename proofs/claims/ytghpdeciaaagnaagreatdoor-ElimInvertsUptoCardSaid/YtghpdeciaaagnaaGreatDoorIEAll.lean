/- What this claim leans on. -/
import Derived.Test.YtghpdeciaaagnaaGreatDoorIMLook
namespace Go.Proofs.YtghpdeciaaagnaaGreatDoor
open Go Go.RowKit
set_option maxHeartbeats 16000000
set_option maxRecDepth 100000
set_option linter.unusedVariables false
set_option linter.unusedSimpArgs false
def zpn (w:World)(n:Nat)(e:ESt)(rd:Rat)(eo:Ending)(w':World):Prop:=∃g,eo=.returned (.pointer (some ⟨g,0,none⟩))/\w.heap.size<=g/\(∃A cA B k cB z0 z1 z2 u0 u1 u2,ElS w' g e rd A n cA B k cB z0 z1 z2 u0 u1 u2)/\Below w.heap.size w w'
theorem tab_lt {w:World}(h:zai w):0<w.heap.size:=World.block_lt_of_cell? w ⟨0,0,none⟩ (h 0 (by decide))
theorem ElS.ownA {w:World}{g:Nat}{st:ESt}{rd:Rat}{A:oA9}{n cA:Nat}{B:oA9}{k cB:Nat}{x0 x1 x2 y0 y1 y2:Value}(h:ElS w g st rd A n cA B k cB x0 x1 x2 y0 y1 y2):∀q,(Value.slice A n cA).ownBlock=some q->g<=q:=λq hq=>by
 obtain⟨-,-,-,-,-,h1⟩:=h.cap
 cases hA:A with
 |none=>rw [hA] at hq;simp [Value.ownBlock] at hq
 |some ad=>
   rw [hA] at hq
   simp [Value.ownBlock] at hq
   have:=h1 ad hA
   omega
theorem zhP {w:World}{K K0 n m q cols:Nat}{Q:oA9}{M:List (List Rat)}(hT:zai w)(h:zaB (zaI zah) w Q n M)(hd:zaN M n m)(z:zax K0 M)(hW:zbS K M)(hn:n<=64)(hm:m<=128)(hc:cols<=m)(hK:260*K+269<=33554432:=by omega)(hK0:K+K0<=33554432:=by omega)(hKp:0<K:=by omega):
  Calls Tryz.prog 64 #[.int .i64 (cols:Int),.slice Q n q] w (zpn w n (zeD cols (zbe M)) (zbo M)):=by
 have HL:=lh9 h
 have HT:=lh9 (λw' (hb:Below w.heap.size w w')=>hT.on hb)
 have HTL:=lh9 (tab_lt hT)
 have hl:=hd.rows
 have HLN:Hid (M.take n=M):=List.take_of_length_le (by omega)
 have HLE:Hid (∀i,i<n->(M.getD i []).length=m):=λi hi=>hd.row hi
 have HZ:Hid (∀i,i<n->zau K0 (M.getD i [])):=λi hi=>z.row (by omega)
 have HWQ:Hid (∀i,i<n->LI K (zaD (M.getD i []))):=λi hi=>hW.q _ (List.mem_of_getElem? (zbE (by omega)))
 have HRS:Hid (∀i,i<=n->SzQ (1+64*K) (zbo (M.take i))):=λi hi=>((zgg hW i (by omega)).up (Nat.add_le_add_left (Nat.mul_le_mul_right _ (by omega)) _)).szq (by omega)
 have HSU:Hid (∀i,i<n->zbe (M.take (i+1))=zbe (M.take i)++[zaS (zaD (M.getD i [])) (M.getD i [])]/\zbo (M.take (i+1))=zbo (M.take i)*zaD (M.getD i [])):=λi hi=>⟨znF (by omega),zfQ (by omega)⟩
 have HOK:Hid (∀c,c<=m->EOk n m c (atM (zbe M)) (zeD c (zbe M))):=λc hc=>ziH (zfX hd) hc
 have HA:Hid (∀i,i<n->∀j,j<m->LI K (atM (zbe M) i j)):=hW.at_ hd
 have i0:(0:Int)<=(n:Int):=by omega
 have hB0:=Below.refl w.heap.size w
 unfold zpn
 clear hT h hd z hW hl
 go_enter Tryz.func64,Tryz.ntmps64
 go_wp2_with fail
 (with_reducible refine(zcR 1 _ (HT.out _ hB0) (by decide) (by decide)).mono ?_)
 rintro eo w1 ⟨b1,A1,n1,c1,E1,k1,f1,rfl,hw1,hb1⟩
 rw [zjs] at hw1
 have HB1:=lh9 hb1
 have HW1:=lh9 hw1
 clear hb1 hw1 hB0
 go_wp2_with fail
 (with_reducible refine(zcR 1 _ (HT.out _ HB1.out) (by decide) (by decide)).mono ?_)
 rintro eo w2 ⟨b2,A2,n2,c2,E2,k2,f2,rfl,hw2,hb2⟩
 rw [zjs] at hw2
 have hes:=ElS.new w2 (HW1.out.below hb2) hw2
 have hB:=zab HB1.out hb2
 have hg0:=hB.size
 have hB:=zab hB (zav w2 105 #[.slice none 0 0,.slice none 0 0,.bool b1,.slice A1 n1 c1,.slice E1 k1 f1,.bool b2,.slice A2 n2 c2,.slice E2 k2 f2]).1
 clear hw2 hb2 HW1 HB1
 go_wp2_with fail
 generalize w2.alloc (.cells #[.slice none 0 0,.slice none 0 0,.bool b1,.slice A1 n1 c1,.slice E1 k1 f1,.bool b2,.slice A2 n2 c2,.slice E2 k2 f2] 105)=W3 at*
 generalize w2.heap.size=g at*
 have hgt:0<g:=by have:=HTL.out;omega
 go_loopg [16] (n+1) (λgg ix wr=>∃(i:Nat) (A:oA9) (cA:Nat) (x0 x1 x2 y0 y1 y2:Value),i<=n/\n<gg+i/\ix=.int .i64 i/\ElS wr g ⟨zbe (M.take i),[],1⟩ (zbo (M.take i)) A i cA none 0 0 x0 x1 x2 y0 y1 y2/\Below w.heap.size w wr)
 case atStart=>exact⟨0,_,_,_,_,_,_,_,_,Nat.zero_le _,by omega,rfl,hes,hB⟩
 case round=>
  clear hes hB
  obtain⟨i,A,cA,x0,x1,x2,y0,y1,y2,hin,hg,rfl,hes,hB⟩:=hrel
  by_cases hlt:i<n
  ·obtain⟨ad,Bi,di,rfl,-,hc0,hvi⟩:=HL.out.get (zam zaf) hB hlt (HLE.out i hlt)
   have hd1:decide ((i:Int)<(n:Int))=true:=decide_eq_true (by omega)
   have i1:(0:Int)<=(i:Int):=by omega
   have i2:(i:Int)<(n:Int):=by omega
   obtain⟨e1,e2⟩:=HSU.out i hlt
   have HE1:=lh9 e1
   have HE2:=lh9 e2
   have HZI:=lh9 (HZ.out i hlt)
   have HWI:=lh9 (HWQ.out i hlt)
   have HRI:=lh9 (HRS.out i hin)
   have HLI:=lh9 (HLE.out i hlt)
   have HV:=lh9 (λw' (hb:Below wr.heap.size wr w')=>zaz.keep hvi hb)
   have HES:=lh9 hes
   have HB:=lh9 hB
   generalize M.getD i []=row at*
   clear hes hB hvi e1 e2
   go_wp2_with fail
   clear hc0
   (with_reducible refine(elim_den (HT.out _ HB.out) (HV.out _ (Below.refl _ _)) HZI.out HWI.out (by omega) (by omega) hKp).mono ?_)
   rintro eo w5 ⟨b5,A5,n5,c5,E5,k5,f5,rfl,hw5,hb5⟩
   obtain⟨bx1,bx2,-⟩:=zav w5 41 #[.bool b5,.slice A5 n5 c5,.slice E5 k5 f5]
   have hbx:=zab hb5 bx1
   have HT8:=lh9 bx2
   have HX8:=lh9 (hw5.below bx1)
   have HV:=lh9 (λw' (hb:Below (w5.alloc (.cells #[.bool b5,.slice A5 n5 c5,.slice E5 k5 f5] 41)).heap.size (w5.alloc (.cells #[.bool b5,.slice A5 n5 c5,.slice E5 k5 f5] 41)) w')=>HV.out w' (zab hbx hb))
   have HES:=lh9 (HES.out.below hbx)
   have HB:=lh9 (zab HB.out hbx)
   clear hw5 hb5 bx1 bx2 hbx
   go_upto_region 6 with fail
   generalize w5.alloc (.cells #[.bool b5,.slice A5 n5 c5,.slice E5 k5 f5] 41)=W6 at*
   generalize w5.heap.size=q8 at*
   obtain⟨p0,p1,p2⟩:=HT8.out.c3
   have HBx:=lh9 ((Below.refl W6.heap.size W6).drew)
   have HNQ:Hid (q8≠g):=λe=>by subst e;exact absurd (zdc HT8.out HES.out.blk) (by decide)
   have HLG:=lh9 HES.out.lt
   refine rg (csc p0 (csc p1 (csc p2 csn))) (λhHeld=>?_)
   clear p0 p1 p2
   generalize W6.drew=D at*
   refine tk 0 ?_
   refine tk 1 ?_
   refine tk 2 ?_
   refine tk 3 ?_
   refine tk 5 ?_
   refine tk 6 ?_
   refine rcb 4 7 (λKK hK9=>?_) (λKK hK9=>?_)
   ·obtain⟨q0,-⟩:=(HES.out.below HBx.out).cells
    go_simp
    refine hK9.out _ _ hHeld (λhHeld=>?_)
    clear hK9 KK q0
    refine rc 7 (λKK hK9=>?_)
    go_simp
    (with_reducible refine(zbK (HT.out _ (zab HB.out HBx.out)) (HX8.out.below HBx.out) (HV.out _ HBx.out) (HWI.out.szq hKp) HZI.out).mono ?_)
    rintro eo w6 ⟨g7,rfl,hg7,ho7,hb⟩
    refine hK9.out _ _ (Cs.below hHeld hb) (λhHeld=>?_)
    have HV7:Hid (VZ g w6 (some ⟨g7,0,none⟩) m m (zaS (zaD row) row)):=⟨zaJ ho7,λad e=>by injection e with e;subst e;have:=HBx.out.size;have:=HLG.out;show g<g7;omega⟩
    have HBx:=lh9 (zab HBx.out hb)
    clear hK9 KK hb hg7 ho7
    refine rc 8 (λKK hK9=>?_)
    go_simp
    obtain⟨t1,t2,-⟩:=zav w6 61 #[.slice (some ⟨g7,0,none⟩) m m]
    refine hK9.out _ _ (Cs.below hHeld t1) (λhHeld=>?_)
    have HCELL:=lh9 (zck w6 (.slice (some ⟨g7,0,none⟩) m m) 61)
    have HV7:=lh9 ((zcB g).below HV7.out t1)
    have HBx:=lh9 (zab HBx.out t1)
    clear hK9 KK t1 t2
    generalize w6.alloc (.cells #[.slice (some ⟨g7,0,none⟩) m m] 61)=D9 at*
    generalize w6.heap.size=q9 at*
    have hes:=HES.out.below HBx.out
    obtain⟨vs,hrows⟩:=hes.rows
    have hown:=hrows.own
    rw [hes.hn] at hown
    have HOWN:=lh9 hown
    have HROW:=lh9 hrows
    have HSL:=lh9 hrows.sl
    have HES:=lh9 hes
    have HOA:=lh9 hes.ownA
    have HONE:Hid (∀u ∈ [Value.slice (some ⟨g7,0,none⟩) m m],u.oneCell'=true):=by intro u hu;simp at hu;subst hu;rfl
    have HNN:Hid (∀u ∈ [Value.slice (some ⟨g7,0,none⟩) m m],zcr u):=by intro u hu;simp at hu;exact⟨_,_,_,hu⟩
    have HZS:Hid (∀u ∈(Value.slice none 0 0).cells.toList,zcr u):=by intro u hu;simp [Value.cells] at hu;exact⟨_,_,_,hu⟩
    have HX9:=lh9 (HX8.out.below HBx.out)
    have HT9:=lh9 (zaa HBx.out HT8.out)
    have HB9:=lh9 (zab HB.out HBx.out)
    have HLG9:=lh9 hes.lt
    clear hes hrows hown
    obtain⟨i9,hi9,hz9,hz10,hz11⟩:=info_parts zel
    refine rc 9 (λKK hK9=>?_)
    refine zfm _ (.tmp 26) (.tmp 30) 26 rfl g 61 i9 (.slice none 0 0) 1 24 Tryz.underlying26 hi9 hz9 hz10 hz11 rfl (by decide) (.slice A i cA) i vs rfl HOWN.out ⟨q9,0,none⟩ 1 1 [.slice (some ⟨g7,0,none⟩) m m] rfl rfl HCELL.out HONE.out (by unfold maxLen;omega) (by omega) (Nat.le_of_lt HLG9.out) HSL.out HZS.out HNN.out ?_
    intro v' w8 hown' hgrow hat hsl'
    have hk8:=(HES.out.grownA hgrow).1
    have HT10:Hid (Blk w8 q8 41 #[.bool b5,.slice A5 n5 c5,.slice E5 k5 f5]):=zcw HT9.out hgrow (λe=>by obtain⟨_,cs,h1,_⟩:=HES.out.neA e;exact absurd (zdc h1 HT9.out) (by decide))
    have HX10:Hid (zah w8 (zaD row) b5 A5 n5 c5 E5 k5 f5):=by
     cases hv:(Value.slice A i cA).ownBlock with
     |none=>rw [hv] at hgrow;exact HX9.out.below (zbw hgrow)
     |some q=>
       rw [hv] at hgrow
       obtain⟨-,cs,h1,h2⟩:=HES.out.neA hv
       exact zcO h1 (zfT h2) (zbl.of_grown hgrow) HX9.out
    have HB10:=lh9 (HB9.out.grown hgrow HB9.out.size (λr hr=>Nat.le_trans hg0 (HOA.out r hr)))
    obtain⟨A8,c8,rfl,hes9⟩:=HES.out.growRow HROW.out hgrow hown' hsl' HV7.out (zbz HLI.out)
    have HES9:Hid (ElS (w8.setCell ⟨g,0,none⟩ (.slice A8 (i+1) c8)) g ⟨zbe (M.take (i+1)),[],1⟩ (zbo (M.take i)) A8 (i+1) c8 none 0 0 x0 x1 x2 y0 y1 y2):=by rw [HE1.out];exact hes9
    have HT11:=lh9 (Blk.far (p:=⟨g,0,none⟩) HT10.out (by have:=HNQ.out;show q8≠g;omega) (.slice A8 (i+1) c8))
    have HX11:=lh9 (zcO hk8 HES.out.nok (zbl.of_far ((zbj.refl g w8).set_ 0 (.slice A8 (i+1) c8))) HX10.out)
    have HB11:=lh9 (HB10.out.setCell (p:=⟨g,0,none⟩) hg0 (.slice A8 (i+1) c8))
    have HK8:=lh9 hk8
    clear hes9 hk8 hown' hgrow hat hsl' HOWN HROW HSL HONE HNN HZS HCELL HV7
    obtain⟨p0,p1,p2⟩:=HT10.out.c3
    refine hK9.out _ _ (csc p0 (csc p1 (csc p2 csn))) (λhHeld=>?_)
    clear hK9 KK p0 p1 p2
    refine tk 10 ?_
    refine tk 11 ?_
    have sc0:w8.cell? ⟨g,0,none⟩=some (.slice A i cA):=HK8.out.cell 0
    have sf0:=HK8.out.frozen 0
    obtain⟨p0,p1,p2⟩:=HT11.out.c3
    refine rc 12 (λKK hK9=>?_)
    go_simp
    refine hK9.out _ _ (csc p0 (csc p1 (csc p2 csn))) (λhHeld=>?_)
    clear hK9 KK sc0 sf0 p0 p1 p2
    refine rdn ?_
    clear hHeld HES HT8 HX8 HT9 HX9 HT10 HX10 HB HB9 HB10 HBx HV HOA HK8
    generalize w8.setCell ⟨g,0,none⟩ (.slice A8 (i+1) c8)=D10 at*
    go_upto_region 7 with fail
    have hbd:=(Below.refl D10.heap.size D10).drew
    obtain⟨p0,p1,p2⟩:=HT11.out.c3
    refine rg (csc p0 (csc p1 (csc p2 csn))) (λhHeld=>?_)
    have HES:=lh9 (HES9.out.below hbd)
    have HT8:=lh9 (zaa hbd HT11.out)
    have HX8:=lh9 (HX11.out.below hbd)
    have HB:=lh9 (zab HB11.out hbd)
    clear p0 p1 p2 hbd HES9 HT11 HX11 HB11
    generalize D10.drew=D11 at*
    refine tk 0 ?_
    refine tk 1 ?_
    refine tk 2 ?_
    refine tk 3 ?_
    refine tk 5 ?_
    obtain⟨b6,A6,n6,c6,E6,k6,f6,rfl,rfl,rfl,hr6⟩:=HES.out.rsd
    have HR6:=lh9 hr6
    clear hr6
    refine rc 4 (λKK hK9=>?_)
    obtain⟨-,-,-,-,-,s5,s6,s7⟩:=HES.out.cells
    go_simp
    refine hK9.out _ _ hHeld (λhHeld=>?_)
    clear hK9 KK s5 s6 s7
    refine rc 6 (λKK hK9=>?_)
    go_simp
    (with_reducible refine(zeH (HT.out _ HB.out) HR6.out HX8.out HRI.out (HWI.out.szq hKp)).mono ?_)
    rintro eo w12 ⟨b7,A7,n7,c7,E7,k7,f7,rfl,hw7,hb⟩
    refine hK9.out _ _ (Cs.below hHeld hb) (λhHeld=>?_)
    have HES:=lh9 (HES.out.below hb)
    have HT8:=lh9 (zaa hb HT8.out)
    have HB:=lh9 (zab HB.out hb)
    rw [<-HE2.out] at hw7
    have HR7:=lh9 (RV.of hw7)
    clear hK9 KK hb hw7 HR6 HX8
    refine tk 7 ?_
    refine tk 8 ?_
    have hk0:=HES.out.blk
    have sc0:w12.cell? ⟨g,5,none⟩=some (.bool b6):=hk0.cell 5
    have sf0:=hk0.frozen 5
    have sc1:(w12.setCell ⟨g,5,none⟩ (.bool b7)).cell? ⟨g,6,none⟩=some (.slice A6 n6 c6):=(hk0.set_ 5 (.bool b7)).cell 6
    have sf1:=(hk0.set_ 5 (.bool b7)).frozen 6
    have sc2:((w12.setCell ⟨g,5,none⟩ (.bool b7)).setCell ⟨g,6,none⟩ (.slice A7 n7 c7)).cell? ⟨g,7,none⟩=some (.slice E6 k6 f6):=((hk0.set_ 5 (.bool b7)).set_ 6 (.slice A7 n7 c7)).cell 7
    have sf2:=((hk0.set_ 5 (.bool b7)).set_ 6 (.slice A7 n7 c7)).frozen 7
    have HES2:=lh9 (HES.out.newRd HR7.out)
    have HBF:=lh9 (((HB.out.setCell (p:=⟨g,5,none⟩) hg0 (.bool b7)).setCell (p:=⟨g,6,none⟩) hg0 (.slice A7 n7 c7)).setCell (p:=⟨g,7,none⟩) hg0 (.slice E7 k7 f7))
    have hfar:=(((zbj.refl g w12).set_ 5 (.bool b7)).set_ 6 (.slice A7 n7 c7)).set_ 7 (.slice E7 k7 f7)
    refine rc 9 (λKK hK9=>?_)
    go_simp
    refine hK9.out _ _ (Cs.far hHeld hfar ⟨(by have:=HNQ.out;show q8≠g;omega),(by have:=HNQ.out;show q8≠g;omega),(by have:=HNQ.out;show q8≠g;omega),trivial⟩) (λhHeld=>?_)
    clear hK9 KK sc0 sf0 sc1 sf1 sc2 sf2 hk0 hfar
    refine rdn ?_
    clear hHeld HES HT8 HB
    go_wp2
    go_roundg (n - i)
    case measure=>omega
    case rel=>exact⟨i+1,A8,c8,x0,x1,x2,_,_,_,by omega,by omega,by go_num,HES2.out,HBF.out⟩
   ·go_simp
    (with_reducible refine(zbK (HT.out _ (zab HB.out HBx.out)) (HX8.out.below HBx.out) (HV.out _ HBx.out) (HWI.out.szq hKp) HZI.out).mono ?_)
    rintro eo w6 ⟨g7,rfl,hg7,ho7,hb⟩
    refine hK9.out _ _ (Cs.below hHeld hb) (λhHeld=>?_)
    have HV7:Hid (VZ g w6 (some ⟨g7,0,none⟩) m m (zaS (zaD row) row)):=⟨zaJ ho7,λad e=>by injection e with e;subst e;have:=HBx.out.size;have:=HLG.out;show g<g7;omega⟩
    have HBx:=lh9 (zab HBx.out hb)
    clear hK9 KK hb hg7 ho7
    refine rcb 4 8 (λKK hK9=>?_) (λKK hK9=>?_)
    ·obtain⟨q0,-⟩:=(HES.out.below HBx.out).cells
     go_simp
     refine hK9.out _ _ hHeld (λhHeld=>?_)
     clear hK9 KK q0
     refine rc 8 (λKK hK9=>?_)
     go_simp
     obtain⟨t1,t2,-⟩:=zav w6 61 #[.slice (some ⟨g7,0,none⟩) m m]
     refine hK9.out _ _ (Cs.below hHeld t1) (λhHeld=>?_)
     have HCELL:=lh9 (zck w6 (.slice (some ⟨g7,0,none⟩) m m) 61)
     have HV7:=lh9 ((zcB g).below HV7.out t1)
     have HBx:=lh9 (zab HBx.out t1)
     clear hK9 KK t1 t2
     generalize w6.alloc (.cells #[.slice (some ⟨g7,0,none⟩) m m] 61)=D9 at*
     generalize w6.heap.size=q9 at*
     have hes:=HES.out.below HBx.out
     obtain⟨vs,hrows⟩:=hes.rows
     have hown:=hrows.own
     rw [hes.hn] at hown
     have HOWN:=lh9 hown
     have HROW:=lh9 hrows
     have HSL:=lh9 hrows.sl
     have HES:=lh9 hes
     have HOA:=lh9 hes.ownA
     have HONE:Hid (∀u ∈ [Value.slice (some ⟨g7,0,none⟩) m m],u.oneCell'=true):=by intro u hu;simp at hu;subst hu;rfl
     have HNN:Hid (∀u ∈ [Value.slice (some ⟨g7,0,none⟩) m m],zcr u):=by intro u hu;simp at hu;exact⟨_,_,_,hu⟩
     have HZS:Hid (∀u ∈(Value.slice none 0 0).cells.toList,zcr u):=by intro u hu;simp [Value.cells] at hu;exact⟨_,_,_,hu⟩
     have HX9:=lh9 (HX8.out.below HBx.out)
     have HT9:=lh9 (zaa HBx.out HT8.out)
     have HB9:=lh9 (zab HB.out HBx.out)
     have HLG9:=lh9 hes.lt
     clear hes hrows hown
     obtain⟨i9,hi9,hz9,hz10,hz11⟩:=info_parts zel
     refine rc 9 (λKK hK9=>?_)
     refine zfm _ (.tmp 26) (.tmp 30) 26 rfl g 61 i9 (.slice none 0 0) 1 24 Tryz.underlying26 hi9 hz9 hz10 hz11 rfl (by decide) (.slice A i cA) i vs rfl HOWN.out ⟨q9,0,none⟩ 1 1 [.slice (some ⟨g7,0,none⟩) m m] rfl rfl HCELL.out HONE.out (by unfold maxLen;omega) (by omega) (Nat.le_of_lt HLG9.out) HSL.out HZS.out HNN.out ?_
     intro v' w8 hown' hgrow hat hsl'
     have hk8:=(HES.out.grownA hgrow).1
     have HT10:Hid (Blk w8 q8 41 #[.bool b5,.slice A5 n5 c5,.slice E5 k5 f5]):=zcw HT9.out hgrow (λe=>by obtain⟨_,cs,h1,_⟩:=HES.out.neA e;exact absurd (zdc h1 HT9.out) (by decide))
     have HX10:Hid (zah w8 (zaD row) b5 A5 n5 c5 E5 k5 f5):=by
      cases hv:(Value.slice A i cA).ownBlock with
      |none=>rw [hv] at hgrow;exact HX9.out.below (zbw hgrow)
      |some q=>
        rw [hv] at hgrow
        obtain⟨-,cs,h1,h2⟩:=HES.out.neA hv
        exact zcO h1 (zfT h2) (zbl.of_grown hgrow) HX9.out
     have HB10:=lh9 (HB9.out.grown hgrow HB9.out.size (λr hr=>Nat.le_trans hg0 (HOA.out r hr)))
     obtain⟨A8,c8,rfl,hes9⟩:=HES.out.growRow HROW.out hgrow hown' hsl' HV7.out (zbz HLI.out)
     have HES9:Hid (ElS (w8.setCell ⟨g,0,none⟩ (.slice A8 (i+1) c8)) g ⟨zbe (M.take (i+1)),[],1⟩ (zbo (M.take i)) A8 (i+1) c8 none 0 0 x0 x1 x2 y0 y1 y2):=by rw [HE1.out];exact hes9
     have HT11:=lh9 (Blk.far (p:=⟨g,0,none⟩) HT10.out (by have:=HNQ.out;show q8≠g;omega) (.slice A8 (i+1) c8))
     have HX11:=lh9 (zcO hk8 HES.out.nok (zbl.of_far ((zbj.refl g w8).set_ 0 (.slice A8 (i+1) c8))) HX10.out)
     have HB11:=lh9 (HB10.out.setCell (p:=⟨g,0,none⟩) hg0 (.slice A8 (i+1) c8))
     have HK8:=lh9 hk8
     clear hes9 hk8 hown' hgrow hat hsl' HOWN HROW HSL HONE HNN HZS HCELL HV7
     obtain⟨p0,p1,p2⟩:=HT10.out.c3
     refine hK9.out _ _ (csc p0 (csc p1 (csc p2 csn))) (λhHeld=>?_)
     clear hK9 KK p0 p1 p2
     refine tk 10 ?_
     refine tk 11 ?_
     have sc0:w8.cell? ⟨g,0,none⟩=some (.slice A i cA):=HK8.out.cell 0
     have sf0:=HK8.out.frozen 0
     obtain⟨p0,p1,p2⟩:=HT11.out.c3
     refine rc 12 (λKK hK9=>?_)
     go_simp
     refine hK9.out _ _ (csc p0 (csc p1 (csc p2 csn))) (λhHeld=>?_)
     clear hK9 KK sc0 sf0 p0 p1 p2
     refine rdn ?_
     clear hHeld HES HT8 HX8 HT9 HX9 HT10 HX10 HB HB9 HB10 HBx HV HOA HK8
     generalize w8.setCell ⟨g,0,none⟩ (.slice A8 (i+1) c8)=D10 at*
     go_upto_region 7 with fail
     have hbd:=(Below.refl D10.heap.size D10).drew
     obtain⟨p0,p1,p2⟩:=HT11.out.c3
     refine rg (csc p0 (csc p1 (csc p2 csn))) (λhHeld=>?_)
     have HES:=lh9 (HES9.out.below hbd)
     have HT8:=lh9 (zaa hbd HT11.out)
     have HX8:=lh9 (HX11.out.below hbd)
     have HB:=lh9 (zab HB11.out hbd)
     clear p0 p1 p2 hbd HES9 HT11 HX11 HB11
     generalize D10.drew=D11 at*
     refine tk 0 ?_
     refine tk 1 ?_
     refine tk 2 ?_
     refine tk 3 ?_
     refine tk 5 ?_
     obtain⟨b6,A6,n6,c6,E6,k6,f6,rfl,rfl,rfl,hr6⟩:=HES.out.rsd
     have HR6:=lh9 hr6
     clear hr6
     refine rc 4 (λKK hK9=>?_)
     obtain⟨-,-,-,-,-,s5,s6,s7⟩:=HES.out.cells
     go_simp
     refine hK9.out _ _ hHeld (λhHeld=>?_)
     clear hK9 KK s5 s6 s7
     refine rc 6 (λKK hK9=>?_)
     go_simp
     (with_reducible refine(zeH (HT.out _ HB.out) HR6.out HX8.out HRI.out (HWI.out.szq hKp)).mono ?_)
     rintro eo w12 ⟨b7,A7,n7,c7,E7,k7,f7,rfl,hw7,hb⟩
     refine hK9.out _ _ (Cs.below hHeld hb) (λhHeld=>?_)
     have HES:=lh9 (HES.out.below hb)
     have HT8:=lh9 (zaa hb HT8.out)
     have HB:=lh9 (zab HB.out hb)
     rw [<-HE2.out] at hw7
     have HR7:=lh9 (RV.of hw7)
     clear hK9 KK hb hw7 HR6 HX8
     refine tk 7 ?_
     refine tk 8 ?_
     have hk0:=HES.out.blk
     have sc0:w12.cell? ⟨g,5,none⟩=some (.bool b6):=hk0.cell 5
     have sf0:=hk0.frozen 5
     have sc1:(w12.setCell ⟨g,5,none⟩ (.bool b7)).cell? ⟨g,6,none⟩=some (.slice A6 n6 c6):=(hk0.set_ 5 (.bool b7)).cell 6
     have sf1:=(hk0.set_ 5 (.bool b7)).frozen 6
     have sc2:((w12.setCell ⟨g,5,none⟩ (.bool b7)).setCell ⟨g,6,none⟩ (.slice A7 n7 c7)).cell? ⟨g,7,none⟩=some (.slice E6 k6 f6):=((hk0.set_ 5 (.bool b7)).set_ 6 (.slice A7 n7 c7)).cell 7
     have sf2:=((hk0.set_ 5 (.bool b7)).set_ 6 (.slice A7 n7 c7)).frozen 7
     have HES2:=lh9 (HES.out.newRd HR7.out)
     have HBF:=lh9 (((HB.out.setCell (p:=⟨g,5,none⟩) hg0 (.bool b7)).setCell (p:=⟨g,6,none⟩) hg0 (.slice A7 n7 c7)).setCell (p:=⟨g,7,none⟩) hg0 (.slice E7 k7 f7))
     have hfar:=(((zbj.refl g w12).set_ 5 (.bool b7)).set_ 6 (.slice A7 n7 c7)).set_ 7 (.slice E7 k7 f7)
     refine rc 9 (λKK hK9=>?_)
     go_simp
     refine hK9.out _ _ (Cs.far hHeld hfar ⟨(by have:=HNQ.out;show q8≠g;omega),(by have:=HNQ.out;show q8≠g;omega),(by have:=HNQ.out;show q8≠g;omega),trivial⟩) (λhHeld=>?_)
     clear hK9 KK sc0 sf0 sc1 sf1 sc2 sf2 hk0 hfar
     refine rdn ?_
     clear hHeld HES HT8 HB
     go_wp2
     go_roundg (n - i)
     case measure=>omega
     case rel=>exact⟨i+1,A8,c8,x0,x1,x2,_,_,_,by omega,by omega,by go_num,HES2.out,HBF.out⟩
    ·go_simp
     obtain⟨t1,t2,-⟩:=zav w6 61 #[.slice (some ⟨g7,0,none⟩) m m]
     refine hK9.out _ _ (Cs.below hHeld t1) (λhHeld=>?_)
     have HCELL:=lh9 (zck w6 (.slice (some ⟨g7,0,none⟩) m m) 61)
     have HV7:=lh9 ((zcB g).below HV7.out t1)
     have HBx:=lh9 (zab HBx.out t1)
     clear hK9 KK t1 t2
     generalize w6.alloc (.cells #[.slice (some ⟨g7,0,none⟩) m m] 61)=D9 at*
     generalize w6.heap.size=q9 at*
     refine rc 4 (λKK hK9=>?_)
     obtain⟨q0,-⟩:=(HES.out.below HBx.out).cells
     go_simp
     refine hK9.out _ _ hHeld (λhHeld=>?_)
     clear hK9 KK q0
     have hes:=HES.out.below HBx.out
     obtain⟨vs,hrows⟩:=hes.rows
     have hown:=hrows.own
     rw [hes.hn] at hown
     have HOWN:=lh9 hown
     have HROW:=lh9 hrows
     have HSL:=lh9 hrows.sl
     have HES:=lh9 hes
     have HOA:=lh9 hes.ownA
     have HONE:Hid (∀u ∈ [Value.slice (some ⟨g7,0,none⟩) m m],u.oneCell'=true):=by intro u hu;simp at hu;subst hu;rfl
     have HNN:Hid (∀u ∈ [Value.slice (some ⟨g7,0,none⟩) m m],zcr u):=by intro u hu;simp at hu;exact⟨_,_,_,hu⟩
     have HZS:Hid (∀u ∈(Value.slice none 0 0).cells.toList,zcr u):=by intro u hu;simp [Value.cells] at hu;exact⟨_,_,_,hu⟩
     have HX9:=lh9 (HX8.out.below HBx.out)
     have HT9:=lh9 (zaa HBx.out HT8.out)
     have HB9:=lh9 (zab HB.out HBx.out)
     have HLG9:=lh9 hes.lt
     clear hes hrows hown
     obtain⟨i9,hi9,hz9,hz10,hz11⟩:=info_parts zel
     refine rc 9 (λKK hK9=>?_)
     refine zfm _ (.tmp 26) (.tmp 30) 26 rfl g 61 i9 (.slice none 0 0) 1 24 Tryz.underlying26 hi9 hz9 hz10 hz11 rfl (by decide) (.slice A i cA) i vs rfl HOWN.out ⟨q9,0,none⟩ 1 1 [.slice (some ⟨g7,0,none⟩) m m] rfl rfl HCELL.out HONE.out (by unfold maxLen;omega) (by omega) (Nat.le_of_lt HLG9.out) HSL.out HZS.out HNN.out ?_
     intro v' w8 hown' hgrow hat hsl'
     have hk8:=(HES.out.grownA hgrow).1
     have HT10:Hid (Blk w8 q8 41 #[.bool b5,.slice A5 n5 c5,.slice E5 k5 f5]):=zcw HT9.out hgrow (λe=>by obtain⟨_,cs,h1,_⟩:=HES.out.neA e;exact absurd (zdc h1 HT9.out) (by decide))
     have HX10:Hid (zah w8 (zaD row) b5 A5 n5 c5 E5 k5 f5):=by
      cases hv:(Value.slice A i cA).ownBlock with
      |none=>rw [hv] at hgrow;exact HX9.out.below (zbw hgrow)
      |some q=>
        rw [hv] at hgrow
        obtain⟨-,cs,h1,h2⟩:=HES.out.neA hv
        exact zcO h1 (zfT h2) (zbl.of_grown hgrow) HX9.out
     have HB10:=lh9 (HB9.out.grown hgrow HB9.out.size (λr hr=>Nat.le_trans hg0 (HOA.out r hr)))
     obtain⟨A8,c8,rfl,hes9⟩:=HES.out.growRow HROW.out hgrow hown' hsl' HV7.out (zbz HLI.out)
     have HES9:Hid (ElS (w8.setCell ⟨g,0,none⟩ (.slice A8 (i+1) c8)) g ⟨zbe (M.take (i+1)),[],1⟩ (zbo (M.take i)) A8 (i+1) c8 none 0 0 x0 x1 x2 y0 y1 y2):=by rw [HE1.out];exact hes9
     have HT11:=lh9 (Blk.far (p:=⟨g,0,none⟩) HT10.out (by have:=HNQ.out;show q8≠g;omega) (.slice A8 (i+1) c8))
     have HX11:=lh9 (zcO hk8 HES.out.nok (zbl.of_far ((zbj.refl g w8).set_ 0 (.slice A8 (i+1) c8))) HX10.out)
     have HB11:=lh9 (HB10.out.setCell (p:=⟨g,0,none⟩) hg0 (.slice A8 (i+1) c8))
     have HK8:=lh9 hk8
     clear hes9 hk8 hown' hgrow hat hsl' HOWN HROW HSL HONE HNN HZS HCELL HV7
     obtain⟨p0,p1,p2⟩:=HT10.out.c3
     refine hK9.out _ _ (csc p0 (csc p1 (csc p2 csn))) (λhHeld=>?_)
     clear hK9 KK p0 p1 p2
     refine tk 10 ?_
     refine tk 11 ?_
     have sc0:w8.cell? ⟨g,0,none⟩=some (.slice A i cA):=HK8.out.cell 0
     have sf0:=HK8.out.frozen 0
     obtain⟨p0,p1,p2⟩:=HT11.out.c3
     refine rc 12 (λKK hK9=>?_)
     go_simp
     refine hK9.out _ _ (csc p0 (csc p1 (csc p2 csn))) (λhHeld=>?_)
     clear hK9 KK sc0 sf0 p0 p1 p2
     refine rdn ?_
     clear hHeld HES HT8 HX8 HT9 HX9 HT10 HX10 HB HB9 HB10 HBx HV HOA HK8
     generalize w8.setCell ⟨g,0,none⟩ (.slice A8 (i+1) c8)=D10 at*
     go_upto_region 7 with fail
     have hbd:=(Below.refl D10.heap.size D10).drew
     obtain⟨p0,p1,p2⟩:=HT11.out.c3
     refine rg (csc p0 (csc p1 (csc p2 csn))) (λhHeld=>?_)
     have HES:=lh9 (HES9.out.below hbd)
     have HT8:=lh9 (zaa hbd HT11.out)
     have HX8:=lh9 (HX11.out.below hbd)
     have HB:=lh9 (zab HB11.out hbd)
     clear p0 p1 p2 hbd HES9 HT11 HX11 HB11
     generalize D10.drew=D11 at*
     refine tk 0 ?_
     refine tk 1 ?_
     refine tk 2 ?_
     refine tk 3 ?_
     refine tk 5 ?_
     obtain⟨b6,A6,n6,c6,E6,k6,f6,rfl,rfl,rfl,hr6⟩:=HES.out.rsd
     have HR6:=lh9 hr6
     clear hr6
     refine rc 4 (λKK hK9=>?_)
     obtain⟨-,-,-,-,-,s5,s6,s7⟩:=HES.out.cells
     go_simp
     refine hK9.out _ _ hHeld (λhHeld=>?_)
     clear hK9 KK s5 s6 s7
     refine rc 6 (λKK hK9=>?_)
     go_simp
     (with_reducible refine(zeH (HT.out _ HB.out) HR6.out HX8.out HRI.out (HWI.out.szq hKp)).mono ?_)
     rintro eo w12 ⟨b7,A7,n7,c7,E7,k7,f7,rfl,hw7,hb⟩
     refine hK9.out _ _ (Cs.below hHeld hb) (λhHeld=>?_)
     have HES:=lh9 (HES.out.below hb)
     have HT8:=lh9 (zaa hb HT8.out)
     have HB:=lh9 (zab HB.out hb)
     rw [<-HE2.out] at hw7
     have HR7:=lh9 (RV.of hw7)
     clear hK9 KK hb hw7 HR6 HX8
     refine tk 7 ?_
     refine tk 8 ?_
     have hk0:=HES.out.blk
     have sc0:w12.cell? ⟨g,5,none⟩=some (.bool b6):=hk0.cell 5
     have sf0:=hk0.frozen 5
     have sc1:(w12.setCell ⟨g,5,none⟩ (.bool b7)).cell? ⟨g,6,none⟩=some (.slice A6 n6 c6):=(hk0.set_ 5 (.bool b7)).cell 6
     have sf1:=(hk0.set_ 5 (.bool b7)).frozen 6
     have sc2:((w12.setCell ⟨g,5,none⟩ (.bool b7)).setCell ⟨g,6,none⟩ (.slice A7 n7 c7)).cell? ⟨g,7,none⟩=some (.slice E6 k6 f6):=((hk0.set_ 5 (.bool b7)).set_ 6 (.slice A7 n7 c7)).cell 7
     have sf2:=((hk0.set_ 5 (.bool b7)).set_ 6 (.slice A7 n7 c7)).frozen 7
     have HES2:=lh9 (HES.out.newRd HR7.out)
     have HBF:=lh9 (((HB.out.setCell (p:=⟨g,5,none⟩) hg0 (.bool b7)).setCell (p:=⟨g,6,none⟩) hg0 (.slice A7 n7 c7)).setCell (p:=⟨g,7,none⟩) hg0 (.slice E7 k7 f7))
     have hfar:=(((zbj.refl g w12).set_ 5 (.bool b7)).set_ 6 (.slice A7 n7 c7)).set_ 7 (.slice E7 k7 f7)
     refine rc 9 (λKK hK9=>?_)
     go_simp
     refine hK9.out _ _ (Cs.far hHeld hfar ⟨(by have:=HNQ.out;show q8≠g;omega),(by have:=HNQ.out;show q8≠g;omega),(by have:=HNQ.out;show q8≠g;omega),trivial⟩) (λhHeld=>?_)
     clear hK9 KK sc0 sf0 sc1 sf1 sc2 sf2 hk0 hfar
     refine rdn ?_
     clear hHeld HES HT8 HB
     go_wp2
     go_roundg (n - i)
     case measure=>omega
     case rel=>exact⟨i+1,A8,c8,x0,x1,x2,_,_,_,by omega,by omega,by go_num,HES2.out,HBF.out⟩
  ·have hk9:i=n:=by omega
   subst hk9
   have hd1:decide ((i:Int)<(i:Int))=false:=by simp
   rw [HLN.out] at hes
   have e0:zeD 0 (zbe M)=⟨zbe M,[],1⟩:=rfl
   rw [<-e0] at hes
   clear e0 HL HRS HSU HWQ HZ HLE
   have i3:(0:Int)<=(cols:Int):=by omega
   go_wp2_with fail
   go_loopg [45] (cols+1) (λgg ix wr=>∃(c:Nat) (A:oA9) (cA:Nat) (B:oA9) (k cB:Nat) (x0 x1 x2 y0 y1 y2:Value),c<=cols/\cols<gg+c/\ix=.int .i64 c/\ElS wr g (zeD c (zbe M)) (zbo M) A i cA B k cB x0 x1 x2 y0 y1 y2/\Below w.heap.size w wr)
   case atStart=>exact⟨0,_,_,_,_,_,_,_,_,_,_,_,Nat.zero_le _,by omega,rfl,hes,hB⟩
   case round=>
    clear hes hB
    obtain⟨c,A,cA,B,k,cB,x0,x1,x2,y0,y1,y2,hcc,hg,rfl,hes,hB⟩:=hrel
    by_cases hlt:c<cols
    ·have hd3:decide ((c:Int)<(cols:Int))=true:=decide_eq_true (by omega)
     have HES:=lh9 hes
     have HB:=lh9 hB
     have HOKC:=lh9 (HOK.out c (by omega))
     clear hes hB
     go_wp2_with fail
     (with_reducible refine(zqq (HT.out _ HB.out) HES.out HOKC.out HA.out (by omega) hn hm hgt hK).mono ?_)
     rintro eo w9 ⟨rfl,⟨A',cA',B',k',cB',z0,z1,z2,u0,u1,u2,hes⟩,hb⟩
     have HES:=lh9 hes
     have HB:=lh9 (HB.out.trans (hb.mono hg0))
     clear hes hb HOKC
     go_wp2
     go_roundg (cols - c)
     case measure=>omega
     case rel=>exact⟨c+1,A',cA',B',k',cB',z0,z1,z2,u0,u1,u2,by omega,by omega,by go_num,by rw [zjk];exact HES.out,HB.out⟩
    ·have hk9:c=cols:=by omega
     subst hk9
     have hd3:decide ((c:Int)<(c:Int))=false:=by simp
     have HES:=lh9 hes
     have HB:=lh9 hB
     clear hes hB
     go_wp2
     go_ret
     exact⟨g,rfl,hg0,⟨_,_,_,_,_,_,_,_,_,_,_,HES.out⟩,HB.out⟩
