/- What this claim leans on. -/
import Derived.Test.YtlgnacmgepnamaaGreatDoorKMLook
import Derived.Test.YtlgnacmgepnamaaGreatDoorKMPick
import Derived.ArgAppend
namespace Go.Proofs.YtlgnacmgepnamaaGreatDoor
open Go Go.RowKit
set_option maxHeartbeats 16000000
set_option maxRecDepth 100000
set_option linter.unusedVariables false
set_option linter.unusedSimpArgs false
theorem zaF.vals {R:RP Rat}{w:World}{ad:Addr}{n:Nat}{Ls:List (List Rat)}(h:zaF R w (some ad) n Ls):∃vs:List Value,vs.length=n/\(∀u ∈ vs,zbC u)/\(∀j u,vs[j]?=some u->w.cell? (ad.add j)=some u)/\∀(i:Nat) (L:List Rat),Ls[i]?=some L->∃(B:oA9) (d:Nat),vs[i]?=some (Value.slice B L.length d)/\R w B L.length d L:=by
 have hl:=h.len
 have each:∀i,i<n->∃u,w.cell? (ad.add i)=some u/\zbC u:=λi hi=>by
  obtain⟨ad',B,d,e,_,h2,_⟩:=h.num i _ (zdh (d:=[]) (by omega))
  injection e with e
  subst e
  exact⟨_,h2,_,_,_,rfl⟩
 refine⟨(List.range n).map λi=>(w.cell? (ad.add i)).getD undef,by simp,λu hu=>?_,λj u hu=>?_,λi L hi=>?_⟩
 ·obtain⟨i,hi,rfl⟩:=List.mem_map.1 hu
  obtain⟨u,h1,h2⟩:=each i (List.mem_range.1 hi)
  rw [h1];exact h2
 ·have hj:j<n:=by
   have:=(List.getElem?_eq_some_iff.1 hu).1
   simpa using this
  obtain⟨u',h1,h2⟩:=each j hj
  rw [List.getElem?_map,List.getElem?_range hj] at hu
  injection hu with hu
  dsimp only at hu
  rw [h1] at hu⊢
  rw [<-hu];rfl
 ·have hlt:=(List.getElem?_eq_some_iff.1 hi).1
  obtain⟨ad',B,d,e,_,h2,h3⟩:=h.num i L hi
  injection e with e
  subst e
  refine⟨B,d,?_,h3⟩
  rw [List.getElem?_map,List.getElem?_range (by omega)]
  show some ((w.cell? (ad.add i)).getD undef)=_
  rw [h2];rfl
structure zeO (w:World)(base g n cap:Nat)(Ls:List (List Rat)):Prop where
 ge:base<=g
 len:Ls.length=n
 fits:n<=cap
 most:cap<=9223372036854775807
 blk:∃cs:Array Value,Blk w g 51 cs/\(∀u ∈ cs.toList,zbC u)/\cs.size=cap
 num:∀i L,Ls[i]?=some L->∃(B:oA9) (d:Nat),w.cell? ⟨g,i,none⟩=some (.slice B L.length d)/\zaK w B L.length d L
theorem zeO.below {w w':World}{base g n cap:Nat}{Ls:List (List Rat)}(h:zeO w base g n cap Ls)(hb:Below w.heap.size w w'):zeO w' base g n cap Ls:=by
 refine⟨h.ge,h.len,h.fits,h.most,?_,λi L hi=>?_⟩
 ·obtain⟨cs,hk,h1,h2⟩:=h.blk
  exact⟨cs,zae hb hk,h1,h2⟩
 ·obtain⟨B,d,h1,h2⟩:=h.num i L hi
  exact⟨B,d,zad hb h1,zaK.keep h2 hb⟩
theorem zeO.rows {w:World}{base g n cap:Nat}{Ls:List (List Rat)}(h:zeO w base g n cap Ls):zaF (zaB zan) w (some ⟨g,0,none⟩) n Ls:=
 ⟨h.len,λi L hi=>by
  obtain⟨cs,hk,_⟩:=h.blk
  obtain⟨B,d,h1,h2⟩:=h.num i L hi
  exact⟨_,B,d,rfl,hk.lt,by rw [zaM];exact h1,h2⟩⟩
def zhD (w:World)(Ls:List (List Rat))(e:Ending)(w':World):Prop:=∃(v:Value) (vs:List Value),e=.returned v/\zbc (zaB zan) w' w.heap.size 51 v Ls vs/\Below w.heap.size w w'
theorem znF {A:oA9}{n c:Nat}{Ls:List (List Rat)}{w:World}(h:zaF (zaB zan) w A n Ls)(hn:n<=1048576):
  Calls Tryz.prog 90 #[.slice A n c] w (zhD w Ls):=by
 obtain⟨i0,hi0,hz0,hz1,hz2⟩:=info_parts zgp
 have q:∀(w:World) (a:oA9) (n c n' c':Nat),(binOp .eql 26 (.slice a n c) (.slice none n' c')).run Tryz.prog w=.ok (.bool a.isNone) w:=λw a n c n' c'=>Lib.run_eql_slice_nil w _ _ a n c n' c' Tryz.underlying26
 rcases A with _|ad
 ·have hl:=h.len
  have hn0:Ls=[]:=by
   rcases Nat.eq_zero_or_pos n with h0|h0
   ·exact List.eq_nil_of_length_eq_zero (by omega)
   ·obtain⟨ad,B,d,e,_⟩:=h.num 0 _ (zdh (d:=[]) (by omega))
    cases e
  subst hn0
  clear h hl
  go_enter Tryz.func90,Tryz.ntmps90
  go_wp2
  go_ret
  exact⟨_,[],rfl,zbc.nil _ _ _,Below.refl _ _⟩
 ·obtain⟨vs,h1,h2,h3,h4⟩:=h.vals
  have hl:=h.len
  obtain⟨t1,t2,-⟩:=zaA w 51 #[]
  have H3:Hid (∀j u,vs[j]?=some u->(w.alloc (.cells #[] 51)).cell? (ad.add j)=some u):=λj u hu=>zad t1 (h3 j u hu)
  have H4:Hid (∀(i:Nat) (L:List Rat),Ls[i]?=some L->∃(B:oA9) (d:Nat),vs[i]?=some (Value.slice B L.length d)/\zaK (w.alloc (.cells #[] 51)) B L.length d L):=λi L hi=>by
   obtain⟨B,d,h5,h6⟩:=h4 i L hi
   exact⟨B,d,h5,zaK.keep h6 t1⟩
  have HL:=lh9 hl
  have HV:=lh9 h1
  have HSL:=lh9 h2
  have HONE:Hid (∀u ∈ vs,u.oneCell'=true):=λu hu=>by obtain⟨A,n,c,e⟩:=h2 u hu;rw [e];rfl
  have HZS:Hid (∀u ∈(Value.slice none 0 0).cells.toList,zbC u):=by intro u hu;simp [Value.cells] at hu;exact⟨_,_,_,hu⟩
  have HRS:Hid (zbD (w.alloc (.cells #[] 51)) (.slice (some ⟨w.heap.size,0,none⟩) 0 0)):=λg hg=>by
   simp [Value.ownBlock] at hg
   subst hg
   exact⟨#[],_,t2,λu hu=>by simp at hu⟩
  have HB:=lh9 t1
  clear h h1 h2 h3 h4 hl t1 t2
  go_enter Tryz.func90,Tryz.ntmps90
  go_wp2_with (at_builtin;go_loud (refine zbH _ rfl (.tmp 5) (.tmp 6) 26 rfl w.heap.size 51 i0 (.slice none 0 0) 1 24 Tryz.underlying26 hi0 hz0 hz1 hz2 rfl (by decide) (.slice (some ⟨w.heap.size,0,none⟩) 0 0) 0 [] rfl (World.ownsRow_made w #[] 0 (Nat.le_refl _) (Nat.zero_le _) rfl) ad n c vs rfl (by have:=HV.out;omega) H3.out HONE.out (by unfold maxLen;omega) (by omega) HB.out.size HRS.out HZS.out HSL.out ?_;intro v' w1 hown' hgrow hat hsl'))
  have G:Hid (zhD w Ls (.returned v') w1):=by
   refine⟨v',vs,rfl,⟨by rw [HL.out];simpa using hown',hsl',λi L hi=>?_⟩,HB.out.grown hgrow HB.out.size (λg hg=>by simp [Value.ownBlock] at hg;omega)⟩
   obtain⟨B,d,h5,h6⟩:=H4.out i L hi
   exact⟨B,d,h5,(zay zaq).grown h6 hgrow HRS.out⟩
  clear hown' hgrow hat hsl'
  go_wp2
  go_ret
  exact G.out
theorem zkG {w:World}{g n:Nat}{t:TypeId}(hk:Blk w g t (madeCells zdq n)):zaR (zaB zan) w t g n (List.replicate n []):=by
 refine⟨by simp,⟨_,hk,zmv _,size_madeCells _ _⟩,λi x hi=>?_⟩
 have hlt:i<n:=by
  have:=(List.getElem?_eq_some_iff.1 hi).1
  simpa using this
 obtain rfl:[]=x:=by
  rw [List.getElem?_replicate,if_pos hlt] at hi
  injection hi
 refine⟨none,0,?_,zaB.nil _⟩
 rw [hk.cell,zbr _ _ _ hlt,show zdq.size=1 from rfl,Nat.mod_one]
 rfl
theorem zmY (n:Nat)(hn:n<=1099511627776)(W:World):(Instr.makeSlice 26 (.int .i64 (n:Int)) (.int .i64 (n:Int))).run Tryz.prog W=.ok (.slice (some ⟨W.heap.size,0,none⟩) n n) (W.alloc (.cells (madeCells zdq n) 51)):=by
 obtain⟨i0,hi0,hz0,hz1,hz2⟩:=info_parts zgp
 have h:=zaP (P:=Tryz.prog) _ _ i0 _ Tryz.underlying26 hi0 hz0 .i64 .i64 n n (Nat.le_refl _) (by rw [hz2];omega) (by omega) W
 rw [hz1,Nat.mul_one] at h
 exact h
section
variable {A B:oA9}{n c k k' d m K K':Nat}{MA MB:List (List Rat)}{w:World}
theorem mulM_get {r:Nat}(hr:r<n):(zgO n k m MA MB)[r]?=some (zbG (zbW k m MB) (MA.getD r [])):=by
 rw [znM]
 exact ziG _ hr
theorem mat_mul (hT:zal w)(hA:zaI w A n c k MA)(hB:zaI w B k d m MB)(z:zaD K MA)(z':zaD K' MB)(hK:K<=67108864:=by omega)(hK':K'<=67108864:=by omega)(hS:1+k*(K'+K+1)<=67108864:=by omega):
  Calls Tryz.prog 34 #[.agg #[.slice A n c,.int .i64 (k:Int)],.agg #[.slice B k d,.int .i64 (m:Int)]] w (zcW w n m (zgO n k m MA MB)):=by
 obtain⟨hn,hk⟩:=And.intro hA.hn hA.hm
 have hm:=hB.hm
 have e0:((k:Int) !=(k:Int))=false:=by simp
 have HR:=λW=>lh9 (zcM B k d (m:Int) W)
 have HRA:=λW=>lh9 (zcM A n c (k:Int) W)
 have HMA:=lh9 hA
 have HCOL:=lh9 (λW (hb:Below w.heap.size w W)=>zhb (hB.keep hb))
 have HDOT:=lh9 (λW (Q V:oA9) (q e:Nat) (r:Nat) (hr9:r<n) (hb:Below w.heap.size w W) (hr:zaF (zaB zan) W Q m (zbW k m MB)) (hv:zaK W V k e (MA.getD r []))=>zij (q:=q) (hT.on hb) hr (zfz k m MB).cols hv (z'.turn hB.dims) (z.row (i:=r) (by rw [hA.dims.rows];exact hr9)) hm hk hK' hK hS)
 have HLM:Hid ((zgO n k m MA MB).length=n):=zgE _ _ _
 have HGM:Hid (∀r,r<n->(zgO n k m MA MB)[r]?=some (zbG (zbW k m MB) (MA.getD r []))):=λr hr=>mulM_get hr
 have HLR:Hid (∀v,(zbG (zbW k m MB) v).length=m):=λv=>by rw [ziI];exact zgE _ _ _
 have HDM:=lh9 (zjw n k m MA MB)
 obtain⟨M,hM⟩:∃M,zgO n k m MA MB=M:=⟨_,rfl⟩
 rw [hM] at HLM HGM HDM⊢
 have hmk:=zmY n (by omega)
 obtain⟨bx1,bx2,bx3,bx4,bz⟩:=zbq w 28 28 28 #[.slice A n c,.int .i64 (k:Int)] #[.slice B k d,.int .i64 (m:Int)] #[.slice none 0 0,.int .i64 0]
 obtain⟨p0,p1⟩:=bx2.c2
 obtain⟨q0,q1⟩:=bx3.c2
 have HB:=lh9 bx1
 have HK:=lh9 bx4
 have HKA:=lh9 bx2
 have HKB:=lh9 bx3
 have i0:(0:Int)<=(n:Int):=by omega
 clear hT hA hB z z' hM bx1 bx2 bx3 bx4 bz hS hK hK'
 go_enter Tryz.func34,Tryz.ntmps34
 go_wp2_with fail
 generalize ((w.alloc (.cells #[.slice A n c,.int .i64 (k:Int)] 28)).alloc (.cells #[.slice B k d,.int .i64 (m:Int)] 28)).alloc (.cells #[.slice none 0 0,.int .i64 0] 28)=W1 at*
 have hbd:=(Below.refl W1.heap.size W1).drew
 refine rg (csc p1 (csc q0 (csc q1 csn))) (λhHeld=>?_)
 clear p0 p1 q0 q1
 have HB:=lh9 (zac HB.out hbd)
 have HK:=lh9 (zae hbd HK.out)
 have HKA:=lh9 (zae hbd HKA.out)
 have HKB:=lh9 (zae hbd HKB.out)
 clear hbd
 generalize W1.drew=D at*
 refine tk 0 ?_
 refine tk 1 ?_
 refine tk 2 ?_
 refine rc 3 (λKK hK9=>?_)
 go_simp
 refine(HR _).out.mono ?_
 rintro e w2 ⟨rfl,hb⟩
 refine hK9.out _ _ (Cs.below hHeld hb) (λhHeld=>?_)
 clear hK9 KK
 have HB2:=lh9 (zac HB.out hb)
 have HK2:=lh9 (zae hb HK.out)
 have HKA2:=lh9 (zae hb HKA.out)
 have HKB2:=lh9 (zae hb HKB.out)
 clear hb HB HK HKA HKB
 refine tk 4 ?_
 refine rdn ?_
 clear hHeld
 go_upto_region 3 with fail
 go_cut [6,16,17,18,19,20,21] (λs6 s16 s17 s18 s19 s20 s21 wx=>∃g1 g2:Nat,s6=.pointer (some ⟨g2,0,none⟩)/\g1≠g2/\w2.heap.size<=g1/\w2.heap.size<=g2/\Blk wx g1 51 (madeCells zdq n)/\Blk wx g2 28 #[.slice (some ⟨g1,0,none⟩) n n,.int .i64 (m:Int)]/\Below w2.heap.size w2 wx)
 case first=>
  obtain⟨p0,p1⟩:=HKA2.out.c2
  obtain⟨q0,q1⟩:=HKB2.out.c2
  have hl1:=HKA2.out.lt
  have hl2:=HKB2.out.lt
  have hbd:=(Below.refl w2.heap.size w2).drew
  refine rg (csc p0 (csc p1 (csc q1 csn))) (λhHeld=>?_)
  clear p0 p1 q0 q1 HKA2 HKB2 HK2 HB2 HMA HCOL HDOT
  generalize w2.drew=D2 at*
  refine tk 0 ?_
  refine tk 3 ?_
  refine tk 4 ?_
  refine rcb 1 6 (λKK hK9=>?_) (λKK hK9=>?_)
  ·go_simp
   refine(HRA _).out.mono ?_
   rintro e w4 ⟨rfl,hb⟩
   refine hK9.out _ _ (Cs.below hHeld hb) (λhHeld=>?_)
   clear hK9 KK
   have hbd:=zac hbd hb
   clear hb
   refine rcb 2 6 (λKK hK9=>?_) (λKK hK9=>?_)
   ·go_simp
    obtain⟨t1,t2,t3⟩:=zaA w4 51 (madeCells zdq n)
    refine hK9.out _ _ (Cs.below hHeld t1) (λhHeld=>?_)
    clear hK9 KK
    have hg1:w2.heap.size<=w4.heap.size:=hbd.size
    have hbd:=zac hbd t1
    generalize w4.alloc (.cells (madeCells zdq n) 51)=W5 at*
    generalize w4.heap.size=g1 at*
    refine tk 5 ?_
    refine rc 6 (λKK hK9=>?_)
    go_simp
    obtain⟨u1,u2,u3⟩:=zaA W5 28 #[.slice none 0 0,.int .i64 0]
    refine hK9.out _ _ (Cs.below hHeld u1) (λhHeld=>?_)
    clear hK9 KK
    have hg2:w2.heap.size<=W5.heap.size:=hbd.size
    have hne:g1≠W5.heap.size:=by omega
    have hbd:=zac hbd u1
    have t4:=zae u1 t2
    generalize W5.alloc (.cells #[.slice none 0 0,.int .i64 0] 28)=W6 at*
    generalize W5.heap.size=g2 at*
    obtain⟨sc0,sf0,sc1,sf1⟩:=st2 u2 (.slice (some ⟨g1,0,none⟩) n n)
    refine rc 7 (λKK hK9=>?_)
    go_simp
    refine hK9.out _ _ (Cs.far hHeld (zez _ _ _ _) ⟨by show w.heap.size≠g2;omega,by show w.heap.size≠g2;omega,by show w.heap.size+1≠g2;omega,trivial⟩) (λhHeld=>?_)
    clear hK9 KK
    refine rdn ?_
    clear hHeld sc0 sf0 sc1 sf1
    go_wp2
    go_meet
    exact⟨g1,g2,rfl,hne,hg1,hg2,Blk.far (p:=⟨g2,1,none⟩) (Blk.far (p:=⟨g2,0,none⟩) t4 hne _) hne _,sn2 u2 _ _,bl2 _ _ hg2 hbd⟩
   ·go_simp
    obtain⟨u1,u2,u3⟩:=zaA w4 28 #[.slice none 0 0,.int .i64 0]
    refine hK9.out _ _ (Cs.below hHeld u1) (λhHeld=>?_)
    clear hK9 KK
    have hg2:w2.heap.size<=w4.heap.size:=hbd.size
    have hbd:=zac hbd u1
    generalize w4.alloc (.cells #[.slice none 0 0,.int .i64 0] 28)=W5 at*
    generalize w4.heap.size=g2 at*
    refine rc 2 (λKK hK9=>?_)
    go_simp
    obtain⟨t1,t2,t3⟩:=zaA W5 51 (madeCells zdq n)
    refine hK9.out _ _ (Cs.below hHeld t1) (λhHeld=>?_)
    clear hK9 KK
    have hg1:w2.heap.size<=W5.heap.size:=hbd.size
    have hne:W5.heap.size≠g2:=by omega
    have hbd:=zac hbd t1
    have u4:=zae t1 u2
    generalize W5.alloc (.cells (madeCells zdq n) 51)=W6 at*
    generalize W5.heap.size=g1 at*
    refine tk 5 ?_
    obtain⟨sc0,sf0,sc1,sf1⟩:=st2 u4 (.slice (some ⟨g1,0,none⟩) n n)
    refine rc 7 (λKK hK9=>?_)
    go_simp
    refine hK9.out _ _ (Cs.far hHeld (zez _ _ _ _) ⟨by show w.heap.size≠g2;omega,by show w.heap.size≠g2;omega,by show w.heap.size+1≠g2;omega,trivial⟩) (λhHeld=>?_)
    clear hK9 KK
    refine rdn ?_
    clear hHeld sc0 sf0 sc1 sf1
    go_wp2
    go_meet
    exact⟨g1,g2,rfl,hne,hg1,hg2,Blk.far (p:=⟨g2,1,none⟩) (Blk.far (p:=⟨g2,0,none⟩) t2 hne _) hne _,sn2 u4 _ _,bl2 _ _ hg2 hbd⟩
  ·go_simp
   obtain⟨u1,u2,u3⟩:=zaA D2 28 #[.slice none 0 0,.int .i64 0]
   refine hK9.out _ _ (Cs.below hHeld u1) (λhHeld=>?_)
   clear hK9 KK
   have hg2:w2.heap.size<=D2.heap.size:=hbd.size
   have hbd:=zac hbd u1
   generalize D2.alloc (.cells #[.slice none 0 0,.int .i64 0] 28)=W4 at*
   generalize D2.heap.size=g2 at*
   refine rc 1 (λKK hK9=>?_)
   go_simp
   refine(HRA _).out.mono ?_
   rintro e W5 ⟨rfl,hb⟩
   refine hK9.out _ _ (Cs.below hHeld hb) (λhHeld=>?_)
   clear hK9 KK
   have hbd:=zac hbd hb
   have u2:=zae hb u2
   have u3:=Nat.le_trans u3 hb.size
   clear hb
   refine rc 2 (λKK hK9=>?_)
   go_simp
   obtain⟨t1,t2,t3⟩:=zaA W5 51 (madeCells zdq n)
   refine hK9.out _ _ (Cs.below hHeld t1) (λhHeld=>?_)
   clear hK9 KK
   have hg1:w2.heap.size<=W5.heap.size:=hbd.size
   have hne:W5.heap.size≠g2:=by omega
   have hbd:=zac hbd t1
   have u4:=zae t1 u2
   generalize W5.alloc (.cells (madeCells zdq n) 51)=W6 at*
   generalize W5.heap.size=g1 at*
   refine tk 5 ?_
   obtain⟨sc0,sf0,sc1,sf1⟩:=st2 u4 (.slice (some ⟨g1,0,none⟩) n n)
   refine rc 7 (λKK hK9=>?_)
   go_simp
   refine hK9.out _ _ (Cs.far hHeld (zez _ _ _ _) ⟨by show w.heap.size≠g2;omega,by show w.heap.size≠g2;omega,by show w.heap.size+1≠g2;omega,trivial⟩) (λhHeld=>?_)
   clear hK9 KK
   refine rdn ?_
   clear hHeld sc0 sf0 sc1 sf1
   go_wp2
   go_meet
   exact⟨g1,g2,rfl,hne,hg1,hg2,Blk.far (p:=⟨g2,1,none⟩) (Blk.far (p:=⟨g2,0,none⟩) t2 hne _) hne _,sn2 u4 _ _,bl2 _ _ hg2 hbd⟩
 case rest=>
  obtain⟨g1,g2,rfl,hne,hg1,hg2,hk1,hk2,hb⟩:=hcut
  have hsz:=HK2.out.lt
  have hl7:=hk1.lt
  have hwr:w.heap.size<=w2.heap.size:=HB2.out.size
  have HB3:=lh9 (zac HB2.out hb)
  have HK3:=lh9 (zae hb HK2.out)
  have HKA3:=lh9 (zae hb HKA2.out)
  obtain⟨p0,p1⟩:=HKA3.out.c2
  obtain⟨q0,q1⟩:=(zae hb HKB2.out).c2
  have HR1:=lh9 hk1
  have HM2:=lh9 hk2
  clear hb hk1 hk2 HB2 HK2 HKA2 HKB2 HR HRA
  go_wp2_with fail
  refine(HCOL.out _ HB3.out).mono ?_
  rintro e w5 ⟨g5,rfl,hg5,ho5,hb⟩
  have HCR:=lh9 ho5.rows
  have hrow:zaR (zaB zan) w5 51 g1 n (zbV [] M n 0):=by rw [zby];exact zkG (zae hb HR1.out)
  have hB:=zac HB3.out hb
  have hk0:=zae hb HK3.out
  have hk2:=zae hb HM2.out
  have hBw:=Below.refl w5.heap.size w5
  obtain⟨p0,p1⟩:=(zae hb HKA3.out).c2
  have hl5:=hrow.lt
  have hl6:=hk2.lt
  clear hb ho5 q0 q1 HB3 HK3 HKA3 HR1 HM2
  go_wp2_with fail
  clear p0 p1
  go_loopg [27] (n+1) (λg ix wr=>∃(r:Nat),r<=n/\n<g+r/\ix=.int .i64 r/\zaR (zaB zan) wr 51 g1 n (zbV [] M n r)/\zaF (zaB zan) wr (some ⟨g5,0,none⟩) m (zbW k m MB)/\Below w.heap.size w wr/\Blk wr (w.heap.size+1+1) 28 #[.slice none 0 0,.int .i64 0]/\Blk wr g2 28 #[.slice (some ⟨g1,0,none⟩) n n,.int .i64 (m:Int)])
  case atStart=>exact⟨0,Nat.zero_le _,by omega,rfl,hrow,HCR.out,hB,hk0,hk2⟩
  case round=>
   clear hrow hB hk0 hk2 hBw HCR
   obtain⟨r,hrn,hg,rfl,hrow,hcr,hB,hk0,hk2⟩:=hrel
   by_cases hlt:r<n
   ·obtain⟨ad,Bq,dq,rfl,-,hc,hv⟩:=HMA.out.row hB hlt
    have hd1:decide ((r:Int)<(n:Int))=true:=decide_eq_true (by omega)
    have i2:(0:Int)<=(r:Int):=by omega
    have i3:(r:Int)<(n:Int):=by omega
    obtain⟨p0,p1⟩:=hk2.c2
    have hbd:=(Below.refl wr.heap.size wr).drew
    have HROW:=lh9 (hrow.below (zay zaq) hbd)
    have HCR:=lh9 (hcr.below (zay zaq) hbd)
    have HV:=lh9 (zaK.keep hv hbd)
    have HB1:=lh9 (zac hB hbd)
    have HK0:=lh9 (zae hbd hk0)
    have HK2:=lh9 (zae hbd hk2)
    have HGR:=lh9 (HGM.out r hlt)
    clear hrow hcr hv hB hk0 hk2 hbd
    go_wp2_with fail
    refine rg (csc p0 csn) (λhHeld=>?_)
    clear p0 p1 hc
    generalize wr.drew=D2 at*
    refine tk 0 ?_
    refine tk 1 ?_
    refine tk 2 ?_
    refine tk 3 ?_
    refine tk 4 ?_
    refine rc 5 (λKK hK9=>?_)
    go_simp
    (with_reducible refine(HDOT.out _ _ _ _ _ r hlt HB1.out HCR.out HV.out).mono ?_)
    rintro e w7 ⟨g7,rfl,hg7,ho7,hb⟩
    refine hK9.out _ _ (Cs.below hHeld hb) (λhHeld=>?_)
    clear hK9 KK
    have hr5:=HROW.out.below (zay zaq) hb
    have hr6:=zaR.set_ (zay zaq) hr5 hlt (zbl ho7) (HLR.out _)
    rw [zbN [] M n r HLM.out hlt _ HGR.out] at hr6
    obtain⟨q0,sc0,sf0⟩:=hr5.ready hlt
    have hoff:zcx g1 w7 (w7.setCell ⟨g1,r,none⟩ (.slice (some ⟨g7,0,none⟩) m m)):=zcx.of_far ((zcV.refl g1 w7).set_ r _)
    have hcr7:=HCR.out.below (zay zaq) hb
    have hsl:∃cs,Blk w7 g1 51 cs/\∀u ∈ cs.toList,zbC u:=by obtain⟨cs,h1,h2,_⟩:=hr5.blk;exact⟨cs,h1,h2⟩
    have HR6:=lh9 hr6
    have HCR6:Hid (zaF (zaB zan) (w7.setCell ⟨g1,r,none⟩ (.slice (some ⟨g7,0,none⟩) m m)) (some ⟨g5,0,none⟩) m (zbW k m MB)):=by
     obtain⟨cs,h1,h2⟩:=hsl
     exact hcr7.off (λad e=>by injection e with e;subst e;show g5≠g1;omega) hoff (λh3=>zmg zaq h3 h1 h2 hoff)
    have HB6:=lh9 (zag (p:=⟨g1,r,none⟩) (.slice (some ⟨g7,0,none⟩) m m) (show w.heap.size<=g1 by omega) (zac HB1.out hb))
    have HK06:=lh9 (Blk.far (p:=⟨g1,r,none⟩) (zae hb HK0.out) (by show w.heap.size+1+1≠g1;omega) (.slice (some ⟨g7,0,none⟩) m m))
    have HK26:=lh9 (Blk.far (p:=⟨g1,r,none⟩) (zae hb HK2.out) (by show g2≠g1;omega) (.slice (some ⟨g7,0,none⟩) m m))
    clear hb hr5 hr6 ho7 HROW HCR HB1 HK0 HK2 HV hcr7 hsl hoff
    refine tk 6 ?_
    refine rc 7 (λKK hK9=>?_)
    go_simp
    refine hK9.out _ _ ?_ (λhHeld=>?_)
    ·refine Cs.far hHeld ((zcV.refl g1 _).set_ r _) ⟨?_,trivial⟩
     show g2≠g1
     omega
    clear hK9 KK
    refine rdn ?_
    clear hHeld sc0 sf0
    go_wp2
    go_roundg (n - r)
    case measure=>omega
    case rel=>exact⟨r+1,by omega,by omega,by go_num,HR6.out,HCR6.out,HB6.out,HK06.out,HK26.out⟩
   ·have hr:r=n:=by omega
    subst hr
    have hd1:decide ((r:Int)<(r:Int))=false:=by simp
    have HM:=lh9 (zgu (zbM [] M r HLM.out▸hrow) HDM.out hn hm)
    obtain⟨p0,p1⟩:=hk2.c2
    obtain⟨sc0,sf0,sc1,sf1⟩:=st2 hk0 (.slice (some ⟨g1,0,none⟩) r r)
    obtain⟨r0,r1⟩:=(sn2 hk0 (.slice (some ⟨g1,0,none⟩) r r) (.int .i64 (m:Int))).c2
    have HG:=lh9 (gmb2 HM.out (λad e=>by injection e with e;subst e;show w.heap.size+1+1<g1;omega) hk0 hB (by omega))
    clear hrow hcr hB hk0 hk2
    go_wp2
    refine bodyPost_ret (v:=.tuple #[.agg #[.slice (some ⟨g1,0,none⟩) r r,.int .i64 (m:Int)],.bool true]) (by simp [results,Tryz.results34,go_sem,r0,r1]) rfl ?_
    exact HG.out
end
set_option linter.unusedSectionVars false
def CondR (ok:Bool)(w:World)(A:oA9)(n c:Nat)(z:Int)(N m:Nat)(M:List (List Rat)):Prop:=ok=true->N=n/\(m:Int)=z/\zcJ w A N c m M
theorem CondR.keep {ok:Bool}{w w':World}{A:oA9}{n c:Nat}{z:Int}{N m:Nat}{M:List (List Rat)}(h:CondR ok w A n c z N m M)(hb:Below w.heap.size w w'):CondR ok w' A n c z N m M:=λe=>⟨(h e).1,(h e).2.1,(h e).2.2.keep hb⟩
def CondO (ok:Bool)(w0 w:World)(A:oA9)(n c N:Nat)(xs:List Rat):Prop:=(ok=true->∃g,A=some ⟨g,0,none⟩/\N=n/\N=c/\w0.heap.size<=g/\zbZ w g N xs)/\(ok=false->n=0)
theorem CondO.keep {ok:Bool}{w0 w w':World}{A:oA9}{n c N:Nat}{xs:List Rat}(h:CondO ok w0 w A n c N xs)(hb:Below w.heap.size w w'):CondO ok w0 w' A n c N xs:=⟨λe=>by
 obtain⟨g,h1,h2,h3,h4,h5⟩:=h.1 e
 exact⟨g,h1,h2,h3,h4,h5.keep hb⟩,h.2⟩
def zfl (ok:Bool)(w:World)(N m:Nat)(M:List (List Rat))(e:Ending)(w':World):Prop:=∃(A:oA9) (n c:Nat) (z:Int),e=.returned (.tuple #[.agg #[.slice A n c,.int .i64 z],.bool ok])/\CondM ok w' A n c z N m M/\(ok=false->A=none/\n=0/\c=0/\z=0)/\Below w.heap.size w w'
def zhF (ok:Bool)(w:World)(N m:Nat)(M:List (List Rat))(e:Ending)(w':World):Prop:=∃(A:oA9) (n c:Nat) (z:Int),e=.returned (.tuple #[.agg #[.slice A n c,.int .i64 z],.bool ok])/\CondR ok w' A n c z N m M/\(ok=false->A=none/\n=0/\c=0/\z=0)/\Below w.heap.size w w'
def zht (ok:Bool)(w:World)(N:Nat)(xs:List Rat)(e:Ending)(w':World):Prop:=∃(A:oA9) (n c:Nat),e=.returned (.tuple #[.slice A n c,.bool ok])/\CondO ok w w' A n c N xs/\Below w.heap.size w w'
theorem zob {w:World}{N m:Nat}{M:List (List Rat)}{e:Ending}{w':World}(h:zcW w N m M e w'):zfl true w N m M e w':=by
 obtain⟨A,c,h1,h2,h3,h4⟩:=h
 exact⟨A,N,c,m,h1,λ_=>⟨rfl,rfl,h2⟩,λe=>(by cases e),h4⟩
theorem gmo_no {w:World}{N m:Nat}{M:List (List Rat)}{e:Ending}{w':World}(h:zcC w e w'):zfl false w N m M e w':=by
 obtain⟨h1,h2⟩:=h
 exact⟨_,_,_,_,h1,λe=>(by cases e),λ_=>⟨rfl,rfl,rfl,rfl⟩,h2⟩
theorem gro_yes {w:World}{N m:Nat}{M:List (List Rat)}{e:Ending}{w':World}(h:zeK w N m M e w'):zhF true w N m M e w':=by
 obtain⟨A,c,h1,h2,h4⟩:=h
 exact⟨A,N,c,m,h1,λ_=>⟨rfl,rfl,h2⟩,λe=>(by cases e),h4⟩
theorem gro_no {w:World}{N m:Nat}{M:List (List Rat)}{e:Ending}{w':World}(h:zhE w e w'):zhF false w N m M e w':=by
 obtain⟨h1,h2⟩:=h
 exact⟨_,_,_,_,h1,λe=>(by cases e),λ_=>⟨rfl,rfl,rfl,rfl⟩,h2⟩
theorem zoc {w:World}{N:Nat}{xs:List Rat}{e:Ending}{w':World}(h:zci w N xs e w'):zht true w N xs e w':=by
 obtain⟨g,h1,h2,h3,h4⟩:=h
 exact⟨_,_,_,h1,⟨λ_=>⟨g,rfl,rfl,rfl,h2,h3⟩,λe=>by cases e⟩,h4⟩
theorem gvo_no {w:World}{N:Nat}{xs:List Rat}{e:Ending}{w':World}(h:zge w e w'):zht false w N xs e w':=by
 obtain⟨h1,h2⟩:=h
 exact⟨_,_,_,h1,⟨λe=>(by cases e),λ_=>rfl⟩,h2⟩
theorem zfs {r s:Int}(h:zcy r s=true):r=(r.toNat:Int)/\s=(s.toNat:Int)/\r.toNat<=64/\s.toNat<=64:=by
 have:=mayB_yes h
 omega
theorem zlH {r s:Int}{ok:Bool}{w:World}{N m:Nat}(hN:r.toNat=N)(hm:s.toNat=m)(h:zcy r s=ok)(hT:zal w):Calls Tryz.prog 12 #[.int .i64 r,.int .i64 s] w (zfl ok w N m (zcn N m λ_ _=>0)):=by
 subst hN hm
 cases ok
 ·exact(znc h).mono λ_ _ h=>gmo_no h
 ·obtain⟨h1,h2,h3,h4⟩:=zfs h
  have:=mat_new (w:=w) hT h3 h4
  rw [<-h1,<-h2] at this
  exact this.mono λ_ _ h=>zob h
theorem zkE {r s:Int}{ok:Bool}{w:World}{N m:Nat}(hN:r.toNat=N)(hm:s.toNat=m)(h:zcy r s=ok):Calls Tryz.prog 13 #[.int .i64 r,.int .i64 s] w (zhF ok w N m (zcn N m λ_ _=>0)):=by
 subst hN hm
 cases ok
 ·exact(zmc h w).mono λ_ _ h=>gro_no h
 ·obtain⟨h1,h2,h3,h4⟩:=zfs h
  have:=refm_new (w:=w) h3 h4
  rw [<-h1,<-h2] at this
  exact this.mono λ_ _ h=>gro_yes h
theorem zlI {r:Int}{ok:Bool}{w:World}{N:Nat}(hN:r.toNat=N)(h:zcy r r=ok)(hT:zal w):Calls Tryz.prog 14 #[.int .i64 r] w (zfl ok w N N (zfT N)):=by
 subst hN
 cases ok
 ·exact(znd h).mono λ_ _ h=>gmo_no h
 ·obtain⟨h1,h2,h3,h4⟩:=zfs h
  have:=zoh (w:=w) hT h3
  rw [<-h1] at this
  exact this.mono λ_ _ h=>zob h
section
variable {A:oA9}{n c m K:Nat}{M:List (List Rat)}{r:Int}{ok:Bool}{w:World}
theorem zdz (h:inB r n=true):r=(r.toNat:Int)/\r.toNat<n:=by
 obtain⟨k,rfl,hk⟩:=zod h
 exact⟨by simp,by simpa using hk⟩
theorem zlJ (e:inB r n=ok)(hT:zal w)(h:zaI w A n c m M)(z:zaD K M)(hK:K+2<=67108864:=by omega):Calls Tryz.prog 20 #[.agg #[.slice A n c,.int .i64 (m:Int)],.int .i64 r] w (zht ok w m (M.getD r.toNat [])):=by
 cases ok
 ·exact(zne e).mono λ_ _ h=>gvo_no h
 ·obtain⟨h1,h2⟩:=zdz e
  have:=zoi hT h z h2 hK
  rw [<-h1] at this
  exact this.mono λ_ _ h=>zoc h
theorem zlF (e:inB r m=ok)(hT:zal w)(h:zaI w A n c m M)(z:zaD K M)(hK:K+2<=67108864:=by omega):Calls Tryz.prog 21 #[.agg #[.slice A n c,.int .i64 (m:Int)],.int .i64 r] w (zht ok w n (zdD n M r.toNat)):=by
 cases ok
 ·exact(zmZ e).mono λ_ _ h=>gvo_no h
 ·obtain⟨h1,h2⟩:=zdz e
  have:=mat_col hT h z h2 hK
  rw [<-h1] at this
  exact this.mono λ_ _ h=>zoc h
end
theorem zoe {r:Int}{n:Nat}{b:Bool}(h:inB r n=b):(decide (0<=r)=true/\decide (r>=0)=true/\decide (r<(n:Int))=b)\/(decide (0<=r)=false/\decide (r>=0)=false/\false=b):=by
 unfold inB at h
 by_cases h0:0<=r
 ·rw [decide_eq_true h0,Bool.true_and] at h
  exact .inl ⟨decide_eq_true h0,decide_eq_true h0,h⟩
 ·rw [decide_eq_false h0,Bool.false_and] at h
  exact .inr ⟨decide_eq_false h0,decide_eq_false h0,h⟩
theorem one_diag {N k:Nat}(h:k<N):atM (zfT N) k k=Rat.divInt 1 1:=by
 unfold zfT
 rw [zkJ h h,if_pos rfl]
 decide+kernel
