/- What this claim leans on. -/
import Derived.Test.YtghpdeciaaagnaaGreatDoorIMMul
namespace Go.Proofs.YtghpdeciaaagnaaGreatDoor
open Go Go.RowKit
set_option maxHeartbeats 16000000
set_option maxRecDepth 100000
set_option linter.unusedVariables false
set_option linter.unusedSimpArgs false
theorem zoC {r c:Int}{b:Bool}(h:ziz r c=b)(w:World):Calls Tryz.prog 93 #[.int .i64 r,.int .i64 c] w (λe w'=>e=.returned (.bool b)/\w=w'):=h▸mat_may r c w
theorem mat_mf (fn:Fn)(first cap:Array Value)(w:World):(Instr.makeFunc fn first cap).run Tryz.prog w=.ok (.func fn first cap) w:=rfl
theorem sz_one:SzQ 1 (1:Rat):=⟨by decide,by decide⟩
theorem one_sz (r c:Nat):SzQ 1 (if r=c then(1:Rat) else 0):=by split<;>first|exact sz_one|exact SzQ.zero
theorem mat_one {n:Nat}{w:World}(hT:zai w)(hn:n<=64):Calls Tryz.prog 33 #[.int .i64 (n:Int)] w (zcU w n n (oneM n)):=by
 have H:=λW=>lh9 (zoC (zjC hn hn) W)
 obtain⟨bx1,bx2,bz⟩:=zav w 28 #[.slice none 0 0,.int .i64 0]
 have HM:Hid (Calls _ _ _ _ (zcm _ n n (oneM n))):=zhm (K:=1) (λr c=>if r=c then 1 else 0) 95 #[] n n _ (hT.on bx1) ⟨en_one1,λr c _ _ w' hb=>cl_one ((hT.on bx1).on hb) r c⟩ (λr c _ _=>one_sz r c) hn hn
 have HK:=lh9 bx2
 have HB:=lh9 bx1
 clear bx1 bx2 bz hT
 go_enter Tryz.func33,Tryz.ntmps33
 go_wp2_with fail
 refine(H _).out.mono ?_
 rintro e w1 ⟨rfl,rfl⟩
 go_wp2_with fail
 refine HM.out.mono ?_
 rintro e w3 ⟨A3,c3,rfl,hm3,hf3,hb⟩
 have hk3:=zaa hb HK.out
 obtain⟨sc0,sf0,sc1,sf1⟩:=st2 hk3 (.slice A3 n c3)
 obtain⟨r0,r1⟩:=(sn2 hk3 (.slice A3 n c3) (.int .i64 (n:Int))).c2
 have HG:=lh9 (gmb2 hm3 (λad e=>Nat.lt_of_lt_of_le HK.out.lt (hf3 ad e)) hk3 (zab HB.out hb) (by omega))
 clear hb hk3 hm3 hf3 HK HB
 go_wp2
 refine bodyPost_ret (v:=.tuple #[.agg #[.slice A3 n c3,.int .i64 (n:Int)],.bool true]) (by simp [results,Tryz.results33,go_sem,r0,r1]) rfl ?_
 exact HG.out
section
variable {A:oA9}{n c m K:Nat}{MM:List (List Rat)}{w:World}
theorem zjB (hT:zai w)(h:zaR w A n c m MM)(z:zax K MM)(hK:K+2<=67108864:=by omega):Calls Tryz.prog 36 #[.agg #[.slice A n c,.int .i64 (m:Int)]] w (zcm w m n (zcW n m MM)):=by
 obtain⟨hn,hm⟩:=And.intro h.hn h.hm
 have HR:=λW=>lh9 (zbd A n c (m:Int) W)
 obtain⟨bx1,bx2,bx3,bz⟩:=zbI w 28 28 #[.slice A n c,.int .i64 (m:Int)] #[.slice none 0 0,.int .i64 0]
 have HM:∀W,Below w.heap.size w W->Blk W w.heap.size 28 #[.slice A n c,.int .i64 (m:Int)]->Hid (Calls Tryz.prog 94 #[.int .i64 (m:Int),.int .i64 (n:Int),.func (.func 99) #[] #[.pointer (some ⟨w.heap.size,0,none⟩)]] W (zcm W m n (zcW n m MM))):=λW hW hk=>by
  have hh:=h.keep hW
  exact zhm (K:=K) (λr c=>atM MM c r) 99 #[.pointer (some ⟨w.heap.size,0,none⟩)] m n W (hT.on hW) ⟨zoh,λr c hr hc w' hb=>zqa (hh.keep hb) (zaa hb hk) hc hr⟩ (λr c hr hc=>z.at_ h.dims hc hr) hm hn hK
 have HKM:=lh9 bx2
 have HK:=lh9 bx3
 have HB:=lh9 bx1
 obtain⟨p0,p1⟩:=bx2.c2
 clear bx1 bx2 bx3 bz hT h z
 go_enter Tryz.func36,Tryz.ntmps36
 go_wp2_with fail
 generalize (w.alloc (.cells #[.slice A n c,.int .i64 (m:Int)] 28)).alloc (.cells #[.slice none 0 0,.int .i64 0] 28)=W1 at*
 have hbd:=(Below.refl W1.heap.size W1).drew
 refine rg (csc p0 (csc p1 csn)) (λhHeld=>?_)
 clear p0 p1
 have HB:=lh9 (zab HB.out hbd)
 have HK:=lh9 (zaa hbd HK.out)
 have HKM:=lh9 (zaa hbd HKM.out)
 clear hbd
 generalize W1.drew=D at*
 refine tk 0 ?_
 refine tk 1 ?_
 refine tk 2 ?_
 refine tk 4 ?_
 refine rc 3 (λKK hK9=>?_)
 go_simp
 refine(HR _).out.mono ?_
 rintro e w2 ⟨rfl,hb⟩
 refine hK9.out _ _ (Cs.below hHeld hb) (λhHeld=>?_)
 clear hK9 KK
 have HB:=lh9 (zab HB.out hb)
 have HK:=lh9 (zaa hb HK.out)
 have HKM:=lh9 (zaa hb HKM.out)
 clear hb
 refine rc 5 (λKK hK9=>?_)
 go_simp
 refine(HM _ HB.out HKM.out).out.mono ?_
 rintro e w3 ⟨A3,c3,rfl,hm3,hf3,hb⟩
 refine hK9.out _ _ (Cs.below hHeld hb) (λhHeld=>?_)
 clear hK9 KK
 have hk3:=zaa hb HK.out
 obtain⟨sc0,sf0,sc1,sf1⟩:=st2 hk3 (.slice A3 m c3)
 obtain⟨r0,r1⟩:=(sn2 hk3 (.slice A3 m c3) (.int .i64 (n:Int))).c2
 have HG:=lh9 (gm2 hm3 (λad e=>Nat.lt_of_lt_of_le HK.out.lt (hf3 ad e)) hk3 (zab HB.out hb) (by omega))
 clear hb hk3 hm3 hf3 HK HB HKM HM
 refine rc 6 (λKK hK9=>?_)
 go_simp
 refine hK9.out _ _ ?_ (λhHeld=>?_)
 ·refine Cs.far hHeld (zgM _ _ _ _) ⟨?_,?_,trivial⟩<;>(show w.heap.size≠w.heap.size+1;omega)
 clear hK9 KK
 refine rdn ?_
 clear hHeld sc0 sf0 sc1 sf1
 go_wp2
 refine bodyPost_ret (v:=.agg #[.slice A3 m c3,.int .i64 (n:Int)]) (by simp [results,Tryz.results36,go_sem,r0,r1]) rfl ?_
 exact HG.out
end
def badB (M:List (List Rat))(z:Int):Bool:=M.any λL=> !decide (((L.length:Nat):Int)=z)
theorem any_succ {α:Type}(p:α->Bool)(xs:List α)(d:α)(k:Nat)(h:k<xs.length):(xs.take (k+1)).any p=((xs.take k).any p||p (xs.getD k d)):=by
 rw [List.take_succ_eq_append_getElem h,List.any_append,List.getD_eq_getElem?_getD,List.getElem?_eq_getElem h]
 simp
theorem any_at {α:Type}(p:α->Bool)(xs:List α)(d:α)(k:Nat)(h:k<xs.length)(hp:p (xs.getD k d)=true):xs.any p=true:=by
 refine List.any_eq_true.2 ⟨xs.getD k d,?_,hp⟩
 rw [List.getD_eq_getElem?_getD,List.getElem?_eq_getElem h]
 exact List.getElem_mem h
theorem dims_bad {M:List (List Rat)}{n m:Nat}(h:zaN M n m):badB M (m:Int)=false:=by
 unfold badB
 refine List.any_eq_false.2 λL hL=>?_
 have:=h.cols L hL
 simp
 omega
theorem zlL {gc q n:Nat}{Q:oA9}{M:List (List Rat)}{z:Int}{w:World}(h:zaB (zaI zah) w Q n M)(hk:Blk w gc 3 #[.int .i64 z])(hn:n<=1048576):
  Calls Tryz.prog 167 #[.slice Q n q,.func (.func 128) #[] #[.pointer (some ⟨gc,0,none⟩)]] w (λe w'=>∃k:Int,e=.returned (.int .i64 k)/\decide (k>=0)=badB M z/\Below w.heap.size w w'):=by
 have hl:=h.len
 have HL:=lh9 hl
 have HR:=lh9 h
 have HK:=lh9 (λw' (hb:Below w.heap.size w w')=>zaa hb hk)
 have hEn:=en_of1
 have hB:=Below.refl w.heap.size w
 have HS:Hid (∀k,k<n->(M.take (k+1)).any (λL:List Rat=> !decide (((L.length:Nat):Int)=z))=((M.take k).any (λL:List Rat=> !decide (((L.length:Nat):Int)=z))||(λL:List Rat=> !decide (((L.length:Nat):Int)=z)) (M.getD k []))):=λk hk=>any_succ (λL:List Rat=> !decide (((L.length:Nat):Int)=z)) M [] k (by omega)
 have HA:Hid (∀k,k<n->(λL:List Rat=> !decide (((L.length:Nat):Int)=z)) (M.getD k [])=true->M.any (λL:List Rat=> !decide (((L.length:Nat):Int)=z))=true):=λk hk=>any_at (λL:List Rat=> !decide (((L.length:Nat):Int)=z)) M [] k (by omega)
 have i0:(0:Int)<=(n:Int):=by omega
 clear h hk hl
 unfold badB
 go_enter Tryz.func167,Tryz.ntmps167
 go_wp2_with fail
 go_loopg [8] (n+1) (λg ix wr=>∃(k:Nat),k<=n/\n<g+k/\ix=.int .i64 k/\Hid ((M.take k).any (λL:List Rat=> !decide (((L.length:Nat):Int)=z))=false)/\Below w.heap.size w wr)
 case atStart=>exact⟨0,Nat.zero_le _,by omega,rfl,rfl,hB⟩
 case round=>
  clear hB
  obtain⟨k,hkn,hg,rfl,hz0,hB⟩:=hrel
  by_cases hlt:k<n
  ·have hd1:decide ((k:Int)<(n:Int))=true:=decide_eq_true (by omega)
   have i1:(0:Int)<=(k:Int):=by omega
   have i2:(k:Int)<(n:Int):=by omega
   have HSK:=lh9 (HS.out k hlt)
   have HAK:=lh9 (HA.out k hlt)
   obtain⟨ad,B,d,rfl,-,hc,-⟩:=HR.out.get (zam zaf) hB hlt rfl
   obtain⟨L,hL⟩:∃L,M.getD k []=L:=⟨_,rfl⟩
   rw [hL] at hc
   rw [hL] at HSK HAK
   obtain⟨b,hb9⟩:∃b,(!decide (((L.length:Nat):Int)=z))=b:=⟨_,rfl⟩
   rw [hb9] at HSK HAK
   have HC:∀W,Below w.heap.size w W->Hid (Calls Tryz.prog 128 #[.slice B L.length d,.pointer (some ⟨gc,0,none⟩)] W (λe w'=>e=.returned (.bool b)/\Below W.heap.size W w')):=λW hW=>by
    have q:=zpZ (V:=B) (cv:=d) (k:=L.length) (HK.out W hW)
    rw [hb9] at q
    exact q
   have HB:=lh9 hB
   clear hB hL
   cases b
   ·go_wp2_with fail
    refine(HC _ HB.out).out.mono ?_
    rintro e w3 ⟨rfl,hb⟩
    have HZ:Hid ((M.take (k+1)).any (λL:List Rat=> !decide (((L.length:Nat):Int)=z))=false):=by show _=_;rw [HSK.out,hz0.out];rfl
    have HB2:=lh9 (zab HB.out hb)
    clear hb hb9 hc HC
    go_wp2
    go_roundg (n - k)
    case measure=>omega
    case rel=>exact⟨k+1,by omega,by omega,by go_num,HZ,HB2.out⟩
   ·go_wp2_with fail
    refine(HC _ HB.out).out.mono ?_
    rintro e w3 ⟨rfl,hb⟩
    have HZ:=lh9 (HAK.out (by first|rfl|trivial))
    have HB2:=lh9 (zab HB.out hb)
    clear hb hb9 hc HC
    go_wp2
    go_ret
    exact⟨(k:Int),rfl,by rw [HZ.out];exact decide_eq_true (by omega),HB2.out⟩
  ·have hd1:decide ((k:Int)<(n:Int))=false:=decide_eq_false (by omega)
   have HF:Hid (M.any (λL:List Rat=> !decide (((L.length:Nat):Int)=z))=false):=by
    have h1:=hz0.out
    rw [List.take_of_length_le (by have:=HL.out;omega)] at h1
    exact h1
   have HB2:=lh9 hB
   clear hB
   go_wp2
   go_ret
   exact⟨-1,rfl,by rw [HF.out];rfl,HB2.out⟩
theorem zix {gc q n:Nat}{Q:oA9}{M:List (List Rat)}{z:Int}{w:World}(h:zaB (zaI zah) w Q n M)(hk:Blk w gc 3 #[.int .i64 z])(hn:n<=1048576):
  Calls Tryz.prog 129 #[.slice Q n q,.func (.func 128) #[] #[.pointer (some ⟨gc,0,none⟩)]] w (λe w'=>e=.returned (.bool (badB M z))/\Below w.heap.size w w'):=by
 have H:=lh9 (zlL (q:=q) h hk hn)
 obtain⟨b,hb⟩:∃b,badB M z=b:=⟨_,rfl⟩
 rw [hb] at H⊢
 clear h hk hb
 go_enter Tryz.func129,Tryz.ntmps129
 go_wp2_with fail
 refine H.out.mono ?_
 rintro e w1 ⟨k,rfl,hk,hb⟩
 have hk2:decide (0<=k)=b:=hk
 have HB:=lh9 hb
 clear hb
 go_wp2
 go_ret
 exact⟨rfl,HB.out⟩
section
variable {Q:oA9}{n q:Nat}{M:List (List Rat)}{z:Int}{w:World}
theorem zjz {m K:Nat}(hT:zai w)(h:zaB (zaI zah) w Q n M)(hd:zaN M n m)(hn:n<=64)(hm:m<=64)(z:zax K M)(hK:K+2<=67108864:=by omega):Calls Tryz.prog 59 #[.int .i64 (m:Int),.slice Q n q] w (zcU w n m M):=by
 have hmf:=mat_mf
 obtain⟨bx1,bx2,bx3,bx4,bz⟩:=zbL w 3 26 28 #[.int .i64 (m:Int)] #[.slice Q n q] #[.slice none 0 0,.int .i64 0]
 have H:=λW=>lh9 (zoC (zjC hn hm) W)
 have hc:=zix (q:=q) (h.below (zam zaf) bx1) bx2 (by omega)
 rw [dims_bad hd] at hc
 have HC:=lh9 hc
 have HM:Hid (∀W,Below w.heap.size w W->Blk W (w.heap.size+1) 26 #[.slice Q n q]->Calls Tryz.prog 94 #[.int .i64 (n:Int),.int .i64 (m:Int),.func (.func 130) #[] #[.pointer (some ⟨w.heap.size+1,0,none⟩)]] W (zcm W n m M)):=λW hW hk=>by
  have hh:=h.below (zam zaf) hW
  have q9:=zhm (K:=K) (atM M) 130 #[.pointer (some ⟨w.heap.size+1,0,none⟩)] n m W (hT.on hW) ⟨en_of2,λr c hr hc w' hb=>cl_of (hh.below (zam zaf) hb) hd (zaa hb hk) hr hc⟩ (λr c hr hc=>z.at_ hd hr hc) hn hm hK
  rw [hd.eq] at q9
  exact q9
 have HK:=lh9 bx4
 have HS:=lh9 bx3
 have HB:=lh9 bx1
 have y0:=bx2.c1
 have y1:=bx3.c1
 have hl0:=bx2.lt
 have HKI:=lh9 bx2
 clear bx1 bx2 bx3 bx4 bz hT h z hd hc
 go_enter Tryz.func59,Tryz.ntmps59
 go_wp2_with fail
 refine(H _).out.mono ?_
 rintro e w1 ⟨rfl,rfl⟩
 go_wp2_with fail
 refine HC.out.mono ?_
 rintro e w1 ⟨rfl,hb⟩
 have HB1:=lh9 (zab HB.out hb)
 have HK1:=lh9 (zaa hb HK.out)
 have HS1:=lh9 (zaa hb HS.out)
 have y0:=(zaa hb HKI.out).c1
 have y1:=HS1.out.c1
 clear hb HB HK HS HKI HC H
 go_wp2_with fail
 refine(HM.out _ HB1.out HS1.out).mono ?_
 clear y0 y1
 rintro e w3 ⟨A3,c3,rfl,hm3,hf3,hb⟩
 have hk3:=zaa hb HK1.out
 obtain⟨sc0,sf0,sc1,sf1⟩:=st2 hk3 (.slice A3 n c3)
 obtain⟨r0,r1⟩:=(sn2 hk3 (.slice A3 n c3) (.int .i64 (m:Int))).c2
 have HG:=lh9 (gmb2 hm3 (λad e=>Nat.lt_of_lt_of_le HK1.out.lt (hf3 ad e)) hk3 (zab HB1.out hb) (by omega))
 clear hb hk3 hm3 hf3 HK1 HB1 HM HS1
 go_wp2
 refine bodyPost_ret (v:=.tuple #[.agg #[.slice A3 n c3,.int .i64 (m:Int)],.bool true]) (by simp [results,Tryz.results59,go_sem,r0,r1]) rfl ?_
 exact HG.out
end
def zbg (m:Nat)(MM:List (List Rat)):ESt:=zeD m (zbe MM)
def zfS (m:Nat)(MM:List (List Rat)):List (List Rat):=zcs (zbg m MM).p⁻¹ (zbg m MM).S
def ldI (ld:List Nat):List Int:=ld.map λl:Nat=>(l:Int)
theorem zgq.ints {w:World}{base:Nat}{B:oA9}{k c:Nat}{ld:List Nat}(h:zgq w base (.slice B k c) ld)(hb:∀l ∈ ld,l<128):zdk w B k (ldI ld):=by
 obtain⟨B',c',e,-,-,-,h1⟩:=h.shape
 injection e with e1 e2 e3
 subst e1 e2
 refine⟨by unfold ldI;rw [List.length_map],λi hi=>?_,λi hi=>?_⟩
 ·unfold ldI
  rw [List.getD_eq_getElem?_getD,List.getElem?_map,List.getElem?_eq_getElem hi]
  have:=hb _ (List.getElem_mem hi)
  show -9223372036854775808<=((ld[i]:Nat):Int)/\((ld[i]:Nat):Int)<=9223372036854775807
  omega
 ·obtain⟨ad,e,hc⟩:=h1 i hi
  refine⟨ad,e,?_⟩
  rw [hc]
  unfold ldI
  rw [List.getD_eq_getElem?_getD,List.getD_eq_getElem?_getD,List.getElem?_map,List.getElem?_eq_getElem hi];rfl
theorem zdk.keep {w w':World}{A:oA9}{n:Nat}{zs:List Int}(h:zdk w A n zs)(hb:Below w.heap.size w w'):zdk w' A n zs:=
 ⟨h.len,h.ints,λi hi=>by obtain⟨ad,e,hc⟩:=h.num i hi;exact⟨ad,e,zac hb hc⟩⟩
theorem zdk.off {w w':World}{A:oA9}{n g:Nat}{zs:List Int}{t:TypeId}{cs:Array Value}(h:zdk w A n zs)(hk:Blk w g t cs)(hcs:NoK .i64 cs)(ho:zbl g w w'):zdk w' A n zs:=
 ⟨h.len,h.ints,λi hi=>by
  obtain⟨ad,e,hc⟩:=h.num i hi
  refine⟨ad,e,(ho.2 _ (World.block_lt_of_cell? w _ hc) λhg=>?_).trans hc⟩
  generalize ad.add i=q at hc hg
  obtain⟨bk,off,pr⟩:=q
  simp only at hg
  subst hg
  unfold Blk at hk
  cases pr with
  |none=>
    rw [show w.cell? ⟨bk,off,none⟩=cs[off]? from cell_of_row w bk off _ t (0,0) hk,<-Array.getElem?_toList] at hc
    exact hcs _ (List.mem_of_getElem? hc) _ rfl
  |some q=>simp [World.cell?,hk] at hc⟩
def ziW (w:World)(n m:Nat)(M:List (List Rat))(ld:List Nat)(eo:Ending)(w':World):Prop:=∃(A:oA9) (c:Nat) (B:oA9) (k cB:Nat),eo=.returned (.tuple #[.agg #[.slice A n c,.int .i64 (m:Int)],.slice B k cB])/\k=ld.length/\zaR w' A n c m M/\zdk w' B k (ldI ld)/\k<=cB/\cB<=9223372036854775807/\Below w.heap.size w w'
section
variable {w:World}{A:oA9}{n c m K K0:Nat}{MM:List (List Rat)}
theorem zcx (h:zaN MM n m):EOk n m m (atM (zbe MM)) (zbg m MM):=ziH (zfX h) (Nat.le_refl _)
theorem ok_lt {n m c:Nat}{a0:Nat->Nat->Rat}{e:ESt}(h:EOk n m c a0 e):∀l ∈ e.ld,l<c:=λl hl=>by
 obtain⟨_,_,_,hi⟩:=h
 obtain⟨i,hi2,rfl⟩:=zjD hl
 exact hi.lt i hi2
theorem ok_len {n m c:Nat}{a0:Nat->Nat->Rat}{e:ESt}(h:EOk n m c a0 e):e.ld.length<=n:=by
 obtain⟨_,_,_,hi⟩:=h
 exact hi.len
theorem zen {M:List (List Rat)}{n m:Nat}(h:zaN M n m)(r:Rat):zaN (zcs r M) n m:=⟨by unfold zcs;rw [List.length_map];exact h.rows,λL hL=>by
 unfold zcs at hL
 obtain⟨row,hr,rfl⟩:=List.mem_map.1 hL
 exact zbz (h.cols row hr)⟩
theorem zle {K L:Nat}{M:List (List Rat)}{r:Rat}(hr:SzQ L r)(h:zax K M):zax (L+K) (zcs r M):=λR hR=>by
 unfold zcs at hR
 obtain⟨row,hq,rfl⟩:=List.mem_map.1 hR
 exact zau.scale hr (h row hq)
theorem zhw (h:zaN MM n m)(hn:n<=64)(hW:zbS K MM):zax ((67+65*K)+(67+65*K)) (zfS m MM)/\SzQ (67+65*K) (zbg m MM).p/\(zbg m MM).p≠0/\zax (67+65*K) (zbg m MM).S:=by
 have hok:=zcx h
 have ha:=hW.at_ h
 obtain⟨h1,h2⟩:=EOk.psz hok.inv hn ha
 have h3:=EOk.msz hok.dims hok.inv hn ha
 exact⟨zle h1.inv h3,h1,h2,h3⟩
theorem zqX (h:zaN MM n m):zaN (zfS m MM) n m:=zen (zcx h).dims _
end
