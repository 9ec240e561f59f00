/- What this claim leans on. -/
import Derived.Test.YtlgnacmgepnamaaGreatDoorKMArgs
namespace Go.Proofs.YtlgnacmgepnamaaGreatDoor
open Go Go.RowKit
set_option maxHeartbeats 16000000
set_option maxRecDepth 100000
set_option linter.unusedVariables false
set_option linter.unusedSimpArgs false
theorem map_get {k:Nat}{G:List (List (Int×Int))}(h:k<G.length):(G.map zcj)[k]?=some (zcj (G.getD k [])):=by
 rw [List.getElem?_map,List.getD_eq_getElem?_getD,List.getElem?_eq_getElem h];rfl
theorem zpb {z:Nat}{A:oA9}{n c:Nat}{R:zhJ}{w:World}(hz:z<=255)(h:zaV w A n c R):
  Calls Tryz.prog 11 #[.agg #[.int .u8 (z:Int),.slice A n c]] w (zhs w (min n 6) (z%7) (zfC (z%7) R (min n 6))):=by
 obtain⟨i9,hi9,hz9,hz10,hz11⟩:=info_parts zlm
 have HD:=lh9 (zfO (z%7) R (min n 6))
 have HI:Hid (∀k,k<min n 6->(zco (z%7) R (min n 6)).getD k []=zdI (z%7) (R k).2.2.2):=λk hk=>by
  unfold zco
  rw [List.getD_eq_getElem?_getD,List.getElem?_map,List.getElem?_range hk];rfl
 have HROWS:=lh9 (λW (hb:Below w.heap.size w W)=>zie hz (show zaV W A n c R from⟨h.fits,h.small,λr hr=>by
  obtain⟨ad,e,h1,h2,h3⟩:=h.row r hr
  exact⟨ad,e,Nat.lt_of_lt_of_le h1 hb.size,zad hb h2,h3.below hb⟩⟩))
 obtain⟨m,hm⟩:∃m,z%7=m:=⟨_,rfl⟩
 obtain⟨N,hN⟩:∃N,min n 6=N:=⟨_,rfl⟩
 have hm6:m<=6:=by omega
 have hN6:N<=6:=by omega
 rw [hm,hN] at HD HI HROWS⊢
 have HLG:Hid ((zco m R N).length=N):=zfq _ _ _
 obtain⟨G,hG⟩:∃G,zco m R N=G:=⟨_,rfl⟩
 have hGM:zfC m R N=G.map zcj:=by unfold zfC;rw [hG]
 rw [hG] at HI HROWS HLG
 rw [hGM] at HD⊢
 have HLR:Hid (∀k,k<N->(G.getD k []).length=m):=λk hk=>by rw [HI.out k hk,zcr]
 have HS:Hid (∀k,k<N->(G.map zcj).take (k+1)=(G.map zcj).take k++[zcj (G.getD k [])]):=λk hk=>zfx (map_get (by rw [HLG.out];exact hk))
 obtain⟨T,hT⟩:∃T,G.map zcj=T:=⟨_,rfl⟩
 rw [hT] at HD HS⊢
 have HL:Hid (T.length=N):=HD.out.rows
 obtain⟨bx1,bx2,bx3,bz⟩:=zbe w 24 32 #[.int .u8 (z:Int),.slice A n c] #[.slice none 0 0,.int .i64 0]
 obtain⟨g0,g1⟩:=bx2.c2
 have HB:=lh9 bx1
 have HKR:=lh9 bx3
 clear h hz hm hN hG hGM hT bx1 bx2 bx3 bz HI
 unfold zhs
 go_enter Tryz.func11,Tryz.ntmps11
 go_wp2_with fail
 (with_reducible refine(HROWS.out _ HB.out).mono ?_)
 rintro e w1 ⟨Q,q,rfl,hrs,hb⟩
 have HB0:=lh9 (zac HB.out hb)
 have HKR1:=lh9 (zae hb HKR.out)
 have HRS:=lh9 hrs
 have HBK:=lh9 HKR1.out.lt
 clear hb hrs HB HKR g0 g1 HROWS
 go_wp2_with fail
 obtain⟨cx1,cx2,-⟩:=zaA w1 32 #[.slice none 0 0,.int .i64 (m:Int)]
 generalize w1.alloc (.cells #[.slice none 0 0,.int .i64 (m:Int)] 32)=W3 at*
 have hB:=cx1
 have hP:=cx2
 obtain⟨gp,hgpe⟩:∃g,w1.heap.size=g:=⟨_,rfl⟩
 have hgp:w1.heap.size<=gp:=by omega
 obtain⟨mm,hmm⟩:∃z:Int,(m:Int)=z:=⟨_,rfl⟩
 rw [hgpe] at hP
 first
  |rw [hgpe]
  |skip
 rw [hmm] at hP
 have HMM:=lh9 hmm
 have hlt0:w.heap.size+1<gp:=by have:=HBK.out;omega
 clear cx1 cx2 hgpe hmm
 go_loopg [6] (N+1) (λg ix wr=>∃(k:Nat) (v:Value) (vs:List Value),k<=N/\N<g+k/\ix=.int .i64 k/\zbc (zaB zca) wr (gp+1) 55 v (T.take k) vs/\Blk wr gp 32 #[v,.int .i64 mm]/\Below w1.heap.size w1 wr)
 case atStart=>exact⟨0,_,_,Nat.zero_le _,by omega,rfl,zbc.nil _ _ _,hP,hB⟩
 case round=>
  clear hB hP
  obtain⟨k,v,vs,hkn,hg,rfl,hon,hP,hB⟩:=hrel
  have hlq:(T.take k).length=k:=by rw [List.length_take,HL.out];omega
  by_cases hlt:k<N
  ·obtain⟨Av,cv,rfl,-⟩:=hon.shape hlq
   obtain⟨ad,Bk,dk,rfl,-,hck,hak⟩:=HRS.out.get zdk (Below.refl _ _) hlt (HLR.out k hlt)
   have HCK:=lh9 hck
   have HAK:=lh9 hak
   have HLK:=lh9 (HLR.out k hlt)
   have hd1:decide ((k:Int)<(N:Int))=true:=decide_eq_true (by omega)
   have hd1':decide (k<N)=true:=decide_eq_true hlt
   have i1:(0:Int)<=(k:Int):=by omega
   have i2:(k:Int)<(N:Int):=by omega
   have HSK:=lh9 (HS.out k hlt)
   obtain⟨Lk,hLk⟩:∃L,G.getD k []=L:=⟨_,rfl⟩
   rw [hLk] at HAK HLK HSK
   have HRL:=lh9 hlq
   have p0:=zad hB HCK.out
   have hbd:=(Below.refl wr.heap.size wr).drew
   have HON:=lh9 (hon.below (zay zau) hbd)
   have HP:=lh9 (zae hbd hP)
   have HB:=lh9 (zac hB hbd)
   clear hon hP hB hbd hlq hck hak hLk
   go_upto_region 6 with fail
   refine rg (csc p0 csn) (λhHeld=>?_)
   clear p0
   generalize wr.drew=D at*
   refine tk 0 ?_
   refine tk 2 ?_
   refine tk 3 ?_
   refine tk 4 ?_
   refine tk 5 ?_
   refine rcb 1 6 (λKK hK=>?_) (λKK hK=>?_)
   ·obtain⟨q0,q1⟩:=HP.out.c2
    go_simp
    clear q0 q1
    refine hK.out _ _ hHeld (λhHeld=>?_)
    clear hK KK
    refine rc 6 (λKK hK=>?_)
    go_simp
    (with_reducible refine(zjq (HAK.out.below HB.out)).mono ?_)
    rintro e w5 ⟨A5,c5,rfl,hr5,hb⟩
    refine hK.out _ _ (Cs.below hHeld hb) (λhHeld=>?_)
    clear hK KK
    have HON:=lh9 (HON.out.below (zay zau) hb)
    have HP:=lh9 (zae hb HP.out)
    have HB:=lh9 (zac HB.out hb)
    have HR:=lh9 hr5
    clear hb hr5
    refine rc 7 (λKK hK=>?_)
    go_simp
    obtain⟨t1,t2,-⟩:=zaA w5 55 #[.slice A5 m c5]
    refine hK.out _ _ (Cs.below hHeld t1) (λhHeld=>?_)
    clear hK KK
    have HON:=lh9 (HON.out.below (zay zau) t1)
    have HP:=lh9 (zae t1 HP.out)
    have HB:=lh9 (zac HB.out t1)
    have HR:=lh9 (zaB.below zau HR.out t1)
    have HBZ:=lh9 HB.out.size
    clear t1 t2
    have hown:=HON.out.own
    rw [HRL.out] at hown
    have HOWN:=lh9 hown
    have HSL:=lh9 HON.out.sl
    have HCELL:=lh9 (zbb w5 (.slice A5 m c5) 55)
    have HBS:=lh9 HP.out.lt
    have HOB:=lh9 (λr (h:(Value.slice Av k cv).ownBlock=some r)=>HON.out.own.lt r h)
    have HZS:Hid (∀u ∈(Value.slice none 0 0).cells.toList,zbC u):=by intro u hu;simp [Value.cells] at hu;exact⟨_,_,_,hu⟩
    have HNN:Hid (∀u ∈ [Value.slice A5 m c5],zbC u):=by intro u hu;simp at hu;exact⟨_,_,_,hu⟩
    have HONE:Hid (∀u ∈ [Value.slice A5 m c5],u.oneCell'=true):=by intro u hu;simp at hu;subst hu;rfl
    clear hown
    refine rc 8 (λKK hK=>?_)
    refine zcS _ (.tmp 21) (.tmp 27) 30 rfl (gp+1) 55 i9 (.slice none 0 0) 1 24 Tryz.underlying30 hi9 hz9 hz10 hz11 rfl (by decide) (.slice Av k cv) k vs rfl HOWN.out ⟨w5.heap.size,0,none⟩ 1 1 [.slice A5 m c5] rfl rfl HCELL.out HONE.out (by unfold maxLen;omega) (by omega) HBS.out HSL.out HZS.out HNN.out ?_
    intro v' w8 hown' hgrow hat hsl'
    have hon8:=zbc.grow (n:=k+1) (L:=zcj Lk) (zay zau) HON.out HR.out (by rw [zcP];exact HLK.out) hown' (by rw [HRL.out]) hgrow hsl'
    rw [<-HSK.out] at hon8
    obtain⟨A8,c8,rfl,-⟩:=hon8.shape (n:=k+1) (by rw [List.length_take,HL.out];omega)
    have HP8:Hid (Blk w8 gp 32 #[.slice Av k cv,.int .i64 mm]):=zbt HP.out hgrow (λe=>by have:=(HOB.out _ e).1;omega)
    have HB8:=lh9 (HB.out.grown hgrow HBZ.out (λr hr=>by have:=(HOB.out r hr).1;omega))
    have HON9:=lh9 (hon8.slot (g:=gp) (i:=0) (u:=(.slice A8 (k+1) c8)) (Nat.lt_succ_self gp) (λh3=>zfe h3 HP8.out (zcf _ _ _ _) (HP8.out.cell 0) (.slice A8 (k+1) c8)))
    have HP9:Hid (Blk (w8.setCell ⟨gp,0,none⟩ (.slice A8 (k+1) c8)) gp 32 #[.slice A8 (k+1) c8,.int .i64 mm]):=HP8.out.set_ 0 (.slice A8 (k+1) c8)
    have HB9:=lh9 (bl1 (.slice A8 (k+1) c8) hgp HB8.out)
    clear hon8 hown' hgrow hat hsl' HON HR HOWN HSL HCELL HOB HZS HNN HONE
    have p0:=zad HB8.out HCK.out
    refine hK.out _ _ (csc p0 csn) (λhHeld=>?_)
    clear hK KK p0
    obtain⟨sc0,sc1⟩:=HP8.out.c2
    have sf0:=HP8.out.frozen 0
    have p0:=zad HB9.out HCK.out
    refine tk 9 ?_
    refine rc 10 (λKK hK=>?_)
    go_simp
    refine hK.out _ _ (csc p0 csn) (λhHeld=>?_)
    clear hK KK
    refine rdn ?_
    clear hHeld p0 sc0 sc1 sf0 HP8 HB8 HP HB HBS HBZ
    go_wp2
    go_roundg (N - k)
    case measure=>omega
    case rel=>exact⟨k+1,_,_,by omega,by omega,by go_num,HON9.out,HP9.out,HB9.out⟩
   ·go_simp
    (with_reducible refine(zjq (HAK.out.below HB.out)).mono ?_)
    rintro e w5 ⟨A5,c5,rfl,hr5,hb⟩
    refine hK.out _ _ (Cs.below hHeld hb) (λhHeld=>?_)
    clear hK KK
    have HON:=lh9 (HON.out.below (zay zau) hb)
    have HP:=lh9 (zae hb HP.out)
    have HB:=lh9 (zac HB.out hb)
    have HR:=lh9 hr5
    clear hb hr5
    refine rcb 1 7 (λKK hK=>?_) (λKK hK=>?_)
    ·obtain⟨q0,q1⟩:=HP.out.c2
     go_simp
     clear q0 q1
     refine hK.out _ _ hHeld (λhHeld=>?_)
     clear hK KK
     refine rc 7 (λKK hK=>?_)
     go_simp
     obtain⟨t1,t2,-⟩:=zaA w5 55 #[.slice A5 m c5]
     refine hK.out _ _ (Cs.below hHeld t1) (λhHeld=>?_)
     clear hK KK
     have HON:=lh9 (HON.out.below (zay zau) t1)
     have HP:=lh9 (zae t1 HP.out)
     have HB:=lh9 (zac HB.out t1)
     have HR:=lh9 (zaB.below zau HR.out t1)
     have HBZ:=lh9 HB.out.size
     clear t1 t2
     have hown:=HON.out.own
     rw [HRL.out] at hown
     have HOWN:=lh9 hown
     have HSL:=lh9 HON.out.sl
     have HCELL:=lh9 (zbb w5 (.slice A5 m c5) 55)
     have HBS:=lh9 HP.out.lt
     have HOB:=lh9 (λr (h:(Value.slice Av k cv).ownBlock=some r)=>HON.out.own.lt r h)
     have HZS:Hid (∀u ∈(Value.slice none 0 0).cells.toList,zbC u):=by intro u hu;simp [Value.cells] at hu;exact⟨_,_,_,hu⟩
     have HNN:Hid (∀u ∈ [Value.slice A5 m c5],zbC u):=by intro u hu;simp at hu;exact⟨_,_,_,hu⟩
     have HONE:Hid (∀u ∈ [Value.slice A5 m c5],u.oneCell'=true):=by intro u hu;simp at hu;subst hu;rfl
     clear hown
     refine rc 8 (λKK hK=>?_)
     refine zcS _ (.tmp 21) (.tmp 27) 30 rfl (gp+1) 55 i9 (.slice none 0 0) 1 24 Tryz.underlying30 hi9 hz9 hz10 hz11 rfl (by decide) (.slice Av k cv) k vs rfl HOWN.out ⟨w5.heap.size,0,none⟩ 1 1 [.slice A5 m c5] rfl rfl HCELL.out HONE.out (by unfold maxLen;omega) (by omega) HBS.out HSL.out HZS.out HNN.out ?_
     intro v' w8 hown' hgrow hat hsl'
     have hon8:=zbc.grow (n:=k+1) (L:=zcj Lk) (zay zau) HON.out HR.out (by rw [zcP];exact HLK.out) hown' (by rw [HRL.out]) hgrow hsl'
     rw [<-HSK.out] at hon8
     obtain⟨A8,c8,rfl,-⟩:=hon8.shape (n:=k+1) (by rw [List.length_take,HL.out];omega)
     have HP8:Hid (Blk w8 gp 32 #[.slice Av k cv,.int .i64 mm]):=zbt HP.out hgrow (λe=>by have:=(HOB.out _ e).1;omega)
     have HB8:=lh9 (HB.out.grown hgrow HBZ.out (λr hr=>by have:=(HOB.out r hr).1;omega))
     have HON9:=lh9 (hon8.slot (g:=gp) (i:=0) (u:=(.slice A8 (k+1) c8)) (Nat.lt_succ_self gp) (λh3=>zfe h3 HP8.out (zcf _ _ _ _) (HP8.out.cell 0) (.slice A8 (k+1) c8)))
     have HP9:Hid (Blk (w8.setCell ⟨gp,0,none⟩ (.slice A8 (k+1) c8)) gp 32 #[.slice A8 (k+1) c8,.int .i64 mm]):=HP8.out.set_ 0 (.slice A8 (k+1) c8)
     have HB9:=lh9 (bl1 (.slice A8 (k+1) c8) hgp HB8.out)
     clear hon8 hown' hgrow hat hsl' HON HR HOWN HSL HCELL HOB HZS HNN HONE
     have p0:=zad HB8.out HCK.out
     refine hK.out _ _ (csc p0 csn) (λhHeld=>?_)
     clear hK KK p0
     obtain⟨sc0,sc1⟩:=HP8.out.c2
     have sf0:=HP8.out.frozen 0
     have p0:=zad HB9.out HCK.out
     refine tk 9 ?_
     refine rc 10 (λKK hK=>?_)
     go_simp
     refine hK.out _ _ (csc p0 csn) (λhHeld=>?_)
     clear hK KK
     refine rdn ?_
     clear hHeld p0 sc0 sc1 sf0 HP8 HB8 HP HB HBS HBZ
     go_wp2
     go_roundg (N - k)
     case measure=>omega
     case rel=>exact⟨k+1,_,_,by omega,by omega,by go_num,HON9.out,HP9.out,HB9.out⟩
    ·go_simp
     obtain⟨t1,t2,-⟩:=zaA w5 55 #[.slice A5 m c5]
     refine hK.out _ _ (Cs.below hHeld t1) (λhHeld=>?_)
     clear hK KK
     have HON:=lh9 (HON.out.below (zay zau) t1)
     have HP:=lh9 (zae t1 HP.out)
     have HB:=lh9 (zac HB.out t1)
     have HR:=lh9 (zaB.below zau HR.out t1)
     have HBZ:=lh9 HB.out.size
     clear t1 t2
     refine rc 1 (λKK hK=>?_)
     obtain⟨q0,q1⟩:=HP.out.c2
     go_simp
     clear q0 q1
     refine hK.out _ _ hHeld (λhHeld=>?_)
     clear hK KK
     have hown:=HON.out.own
     rw [HRL.out] at hown
     have HOWN:=lh9 hown
     have HSL:=lh9 HON.out.sl
     have HCELL:=lh9 (zbb w5 (.slice A5 m c5) 55)
     have HBS:=lh9 HP.out.lt
     have HOB:=lh9 (λr (h:(Value.slice Av k cv).ownBlock=some r)=>HON.out.own.lt r h)
     have HZS:Hid (∀u ∈(Value.slice none 0 0).cells.toList,zbC u):=by intro u hu;simp [Value.cells] at hu;exact⟨_,_,_,hu⟩
     have HNN:Hid (∀u ∈ [Value.slice A5 m c5],zbC u):=by intro u hu;simp at hu;exact⟨_,_,_,hu⟩
     have HONE:Hid (∀u ∈ [Value.slice A5 m c5],u.oneCell'=true):=by intro u hu;simp at hu;subst hu;rfl
     clear hown
     refine rc 8 (λKK hK=>?_)
     refine zcS _ (.tmp 21) (.tmp 27) 30 rfl (gp+1) 55 i9 (.slice none 0 0) 1 24 Tryz.underlying30 hi9 hz9 hz10 hz11 rfl (by decide) (.slice Av k cv) k vs rfl HOWN.out ⟨w5.heap.size,0,none⟩ 1 1 [.slice A5 m c5] rfl rfl HCELL.out HONE.out (by unfold maxLen;omega) (by omega) HBS.out HSL.out HZS.out HNN.out ?_
     intro v' w8 hown' hgrow hat hsl'
     have hon8:=zbc.grow (n:=k+1) (L:=zcj Lk) (zay zau) HON.out HR.out (by rw [zcP];exact HLK.out) hown' (by rw [HRL.out]) hgrow hsl'
     rw [<-HSK.out] at hon8
     obtain⟨A8,c8,rfl,-⟩:=hon8.shape (n:=k+1) (by rw [List.length_take,HL.out];omega)
     have HP8:Hid (Blk w8 gp 32 #[.slice Av k cv,.int .i64 mm]):=zbt HP.out hgrow (λe=>by have:=(HOB.out _ e).1;omega)
     have HB8:=lh9 (HB.out.grown hgrow HBZ.out (λr hr=>by have:=(HOB.out r hr).1;omega))
     have HON9:=lh9 (hon8.slot (g:=gp) (i:=0) (u:=(.slice A8 (k+1) c8)) (Nat.lt_succ_self gp) (λh3=>zfe h3 HP8.out (zcf _ _ _ _) (HP8.out.cell 0) (.slice A8 (k+1) c8)))
     have HP9:Hid (Blk (w8.setCell ⟨gp,0,none⟩ (.slice A8 (k+1) c8)) gp 32 #[.slice A8 (k+1) c8,.int .i64 mm]):=HP8.out.set_ 0 (.slice A8 (k+1) c8)
     have HB9:=lh9 (bl1 (.slice A8 (k+1) c8) hgp HB8.out)
     clear hon8 hown' hgrow hat hsl' HON HR HOWN HSL HCELL HOB HZS HNN HONE
     have p0:=zad HB8.out HCK.out
     refine hK.out _ _ (csc p0 csn) (λhHeld=>?_)
     clear hK KK p0
     obtain⟨sc0,sc1⟩:=HP8.out.c2
     have sf0:=HP8.out.frozen 0
     have p0:=zad HB9.out HCK.out
     refine tk 9 ?_
     refine rc 10 (λKK hK=>?_)
     go_simp
     refine hK.out _ _ (csc p0 csn) (λhHeld=>?_)
     clear hK KK
     refine rdn ?_
     clear hHeld p0 sc0 sc1 sf0 HP8 HB8 HP HB HBS HBZ
     go_wp2
     go_roundg (N - k)
     case measure=>omega
     case rel=>exact⟨k+1,_,_,by omega,by omega,by go_num,HON9.out,HP9.out,HB9.out⟩
  ·have hk:k=N:=by omega
   subst hk
   have hd1:decide ((k:Int)<(k:Int))=false:=by simp
   have hd1':decide (k<k)=false:=by simp
   rw [List.take_of_length_le (by rw [HL.out];exact Nat.le_refl _)] at hon
   obtain⟨A7,c7,rfl,hm7⟩:=hon.refm HD.out (by omega) (show m<=64 by omega)
   obtain⟨q0,q1⟩:=hP.c2
   have hk9:=zae hB HKR1.out
   obtain⟨sc0,sf0,sc1,sf1⟩:=st2 hk9 (.slice A7 k c7)
   obtain⟨r0,r1⟩:=(sn2 hk9 (.slice A7 k c7) (.int .i64 (m:Int))).c2
   have HG:=lh9 (grm2 hm7 hk9 (zac HB0.out hB) (by omega))
   unfold zhs at HG
   obtain rfl:=HMM.out
   clear hon hm7 hk9 hB hP hlq
   go_wp2
   refine bodyPost_ret (v:=.agg #[.slice A7 k c7,.int .i64 (m:Int)]) (by simp [results,Tryz.results11,go_sem,r0,r1]) rfl ?_
   exact HG.out
