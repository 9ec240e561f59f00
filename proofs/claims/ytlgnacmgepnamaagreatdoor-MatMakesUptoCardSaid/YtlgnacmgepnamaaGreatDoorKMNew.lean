/- What this claim leans on. -/
import Derived.Test.YtlgnacmgepnamaaGreatDoorKMMade
import Derived.Test.YtlgnacmgepnamaaGreatDoorKMClos
namespace Go.Proofs.YtlgnacmgepnamaaGreatDoor
open Go Go.RowKit
set_option maxHeartbeats 16000000
set_option maxRecDepth 100000
set_option linter.unusedVariables false
set_option linter.unusedSimpArgs false
theorem zeW {r c:Int}{b:Bool}(h:zcy r c=b)(w:World):Calls Tryz.prog 51 #[.int .i64 r,.int .i64 c] w (λe w'=>e=.returned (.bool b)/\w=w'):=h▸mat_may r c w
theorem znb (fn:Fn)(first cap:Array Value)(w:World):(Instr.makeFunc fn first cap).run Tryz.prog w=.ok (.func fn first cap) w:=rfl
theorem znc {r c:Int}{w:World}(h:zcy r c=false):Calls Tryz.prog 12 #[.int .i64 r,.int .i64 c] w (zcC w):=by
 have H:=λW=>lh9 (zeW h W)
 obtain⟨bx1,bx2,bz⟩:=zaA w 28 #[.slice none 0 0,.int .i64 0]
 obtain⟨g0,g1⟩:=bx2.c2
 have HB:=lh9 bx1
 clear h bx1 bx2 bz
 go_enter Tryz.func12,Tryz.ntmps12
 go_wp2_with fail
 refine(H _).out.mono ?_
 rintro e w1 ⟨rfl,rfl⟩
 go_wp2
 refine bodyPost_ret (v:=.tuple #[.agg #[.slice none 0 0,.int .i64 0],.bool false]) (by simp [results,Tryz.results12,go_sem,g0,g1]) rfl ?_
 exact⟨rfl,HB.out⟩
theorem mat_new {n m:Nat}{w:World}(hT:zal w)(hn:n<=64)(hm:m<=64):Calls Tryz.prog 12 #[.int .i64 (n:Int),.int .i64 (m:Int)] w (zcW w n m (zcn n m λ_ _=>0)):=by
 have H:=λW=>lh9 (zeW (zgr hn hm) W)
 obtain⟨bx1,bx2,bz⟩:=zaA w 28 #[.slice none 0 0,.int .i64 0]
 have HM:=lh9 (zeV (K:=1) (λ_ _=>0) 53 #[] n m _ (hT.on bx1) ⟨en_new1,λ_ _ _ _ _ _=>cl_new _ _⟩ (λ_ _ _ _=>SzQ.zero) hn hm)
 have HK:=lh9 bx2
 have HB:=lh9 bx1
 clear bx1 bx2 bz hT
 go_enter Tryz.func12,Tryz.ntmps12
 go_wp2_with fail
 refine(H _).out.mono ?_
 rintro e w1 ⟨rfl,rfl⟩
 go_wp2_with fail
 refine HM.out.mono ?_
 rintro e w3 ⟨A3,c3,rfl,hm3,hf3,hb⟩
 have hk3:=zae hb HK.out
 obtain⟨sc0,sf0,sc1,sf1⟩:=st2 hk3 (.slice A3 n c3)
 obtain⟨r0,r1⟩:=(sn2 hk3 (.slice A3 n c3) (.int .i64 (m:Int))).c2
 have HG:=lh9 (gmb2 hm3 (λad e=>Nat.lt_of_lt_of_le HK.out.lt (hf3 ad e)) hk3 (zac HB.out hb) (by omega))
 clear hb hk3 hm3 hf3 HK HB
 go_wp2
 refine bodyPost_ret (v:=.tuple #[.agg #[.slice A3 n c3,.int .i64 (m:Int)],.bool true]) (by simp [results,Tryz.results12,go_sem,r0,r1]) rfl ?_
 exact HG.out
theorem znd {r:Int}{w:World}(h:zcy r r=false):Calls Tryz.prog 14 #[.int .i64 r] w (zcC w):=by
 have H:=λW=>lh9 (zeW h W)
 obtain⟨bx1,bx2,bz⟩:=zaA w 28 #[.slice none 0 0,.int .i64 0]
 obtain⟨g0,g1⟩:=bx2.c2
 have HB:=lh9 bx1
 clear h bx1 bx2 bz
 go_enter Tryz.func14,Tryz.ntmps14
 go_wp2_with fail
 refine(H _).out.mono ?_
 rintro e w1 ⟨rfl,rfl⟩
 go_wp2
 refine bodyPost_ret (v:=.tuple #[.agg #[.slice none 0 0,.int .i64 0],.bool false]) (by simp [results,Tryz.results14,go_sem,g0,g1]) rfl ?_
 exact⟨rfl,HB.out⟩
theorem sz_one:SzQ 1 (1:Rat):=⟨by decide,by decide⟩
theorem znl (r c:Nat):SzQ 1 (if r=c then(1:Rat) else 0):=by split<;>first|exact sz_one|exact SzQ.zero
theorem zoh {n:Nat}{w:World}(hT:zal w)(hn:n<=64):Calls Tryz.prog 14 #[.int .i64 (n:Int)] w (zcW w n n (zfT n)):=by
 have H:=λW=>lh9 (zeW (zgr hn hn) W)
 obtain⟨bx1,bx2,bz⟩:=zaA w 28 #[.slice none 0 0,.int .i64 0]
 have HM:Hid (Calls _ _ _ _ (zbP _ n n (zfT n))):=zeV (K:=1) (λr c=>if r=c then 1 else 0) 55 #[] n n _ (hT.on bx1) ⟨en_one1,λr c _ _ w' hb=>cl_one ((hT.on bx1).on hb) r c⟩ (λr c _ _=>znl r c) hn hn
 have HK:=lh9 bx2
 have HB:=lh9 bx1
 clear bx1 bx2 bz hT
 go_enter Tryz.func14,Tryz.ntmps14
 go_wp2_with fail
 refine(H _).out.mono ?_
 rintro e w1 ⟨rfl,rfl⟩
 go_wp2_with fail
 refine HM.out.mono ?_
 rintro e w3 ⟨A3,c3,rfl,hm3,hf3,hb⟩
 have hk3:=zae hb HK.out
 obtain⟨sc0,sf0,sc1,sf1⟩:=st2 hk3 (.slice A3 n c3)
 obtain⟨r0,r1⟩:=(sn2 hk3 (.slice A3 n c3) (.int .i64 (n:Int))).c2
 have HG:=lh9 (gmb2 hm3 (λad e=>Nat.lt_of_lt_of_le HK.out.lt (hf3 ad e)) hk3 (zac HB.out hb) (by omega))
 clear hb hk3 hm3 hf3 HK HB
 go_wp2
 refine bodyPost_ret (v:=.tuple #[.agg #[.slice A3 n c3,.int .i64 (n:Int)],.bool true]) (by simp [results,Tryz.results14,go_sem,r0,r1]) rfl ?_
 exact HG.out
section
variable {A:oA9}{n c m K:Nat}{MM:List (List Rat)}{w:World}
theorem znf (hT:zal w)(h:zaI w A n c m MM)(z:zaD K MM)(hK:K+2<=67108864:=by omega):Calls Tryz.prog 31 #[.agg #[.slice A n c,.int .i64 (m:Int)]] w (zbP w m n (zbW n m MM)):=by
 obtain⟨hn,hm⟩:=And.intro h.hn h.hm
 have HR:=λW=>lh9 (zcM A n c (m:Int) W)
 obtain⟨bx1,bx2,bx3,bz⟩:=zbe w 28 28 #[.slice A n c,.int .i64 (m:Int)] #[.slice none 0 0,.int .i64 0]
 have HM:∀W,Below w.heap.size w W->Blk W w.heap.size 28 #[.slice A n c,.int .i64 (m:Int)]->Hid (Calls Tryz.prog 52 #[.int .i64 (m:Int),.int .i64 (n:Int),.func (.func 76) #[] #[.pointer (some ⟨w.heap.size,0,none⟩)]] W (zbP W m n (zbW n m MM))):=λW hW hk=>by
  have hh:=h.keep hW
  exact zeV (K:=K) (λr c=>atM MM c r) 76 #[.pointer (some ⟨w.heap.size,0,none⟩)] m n W (hT.on hW) ⟨zmL,λr c hr hc w' hb=>zoK (hh.keep hb) (zae hb hk) hc hr⟩ (λr c hr hc=>z.at_ h.dims hc hr) hm hn hK
 have HKM:=lh9 bx2
 have HK:=lh9 bx3
 have HB:=lh9 bx1
 obtain⟨p0,p1⟩:=bx2.c2
 clear bx1 bx2 bx3 bz hT h z
 go_enter Tryz.func31,Tryz.ntmps31
 go_wp2_with fail
 generalize (w.alloc (.cells #[.slice A n c,.int .i64 (m:Int)] 28)).alloc (.cells #[.slice none 0 0,.int .i64 0] 28)=W1 at*
 have hbd:=(Below.refl W1.heap.size W1).drew
 refine rg (csc p0 (csc p1 csn)) (λhHeld=>?_)
 clear p0 p1
 have HB:=lh9 (zac HB.out hbd)
 have HK:=lh9 (zae hbd HK.out)
 have HKM:=lh9 (zae hbd HKM.out)
 clear hbd
 generalize W1.drew=D at*
 refine tk 0 ?_
 refine tk 1 ?_
 refine tk 2 ?_
 refine tk 4 ?_
 refine rc 3 (λKK hK9=>?_)
 go_simp
 refine(HR _).out.mono ?_
 rintro e w2 ⟨rfl,hb⟩
 refine hK9.out _ _ (Cs.below hHeld hb) (λhHeld=>?_)
 clear hK9 KK
 have HB:=lh9 (zac HB.out hb)
 have HK:=lh9 (zae hb HK.out)
 have HKM:=lh9 (zae hb HKM.out)
 clear hb
 refine rc 5 (λKK hK9=>?_)
 go_simp
 refine(HM _ HB.out HKM.out).out.mono ?_
 rintro e w3 ⟨A3,c3,rfl,hm3,hf3,hb⟩
 refine hK9.out _ _ (Cs.below hHeld hb) (λhHeld=>?_)
 clear hK9 KK
 have hk3:=zae hb HK.out
 obtain⟨sc0,sf0,sc1,sf1⟩:=st2 hk3 (.slice A3 m c3)
 obtain⟨r0,r1⟩:=(sn2 hk3 (.slice A3 m c3) (.int .i64 (n:Int))).c2
 have HG:=lh9 (gm2 hm3 (λad e=>Nat.lt_of_lt_of_le HK.out.lt (hf3 ad e)) hk3 (zac HB.out hb) (by omega))
 clear hb hk3 hm3 hf3 HK HB HKM HM
 refine rc 6 (λKK hK9=>?_)
 go_simp
 refine hK9.out _ _ ?_ (λhHeld=>?_)
 ·refine Cs.far hHeld (zez _ _ _ _) ⟨?_,?_,trivial⟩<;>(show w.heap.size≠w.heap.size+1;omega)
 clear hK9 KK
 refine rdn ?_
 clear hHeld sc0 sf0 sc1 sf1
 go_wp2
 refine bodyPost_ret (v:=.agg #[.slice A3 m c3,.int .i64 (n:Int)]) (by simp [results,Tryz.results31,go_sem,r0,r1]) rfl ?_
 exact HG.out
end
def badB (M:List (List Rat))(z:Int):Bool:=M.any λL=> !decide (((L.length:Nat):Int)=z)
def zim (zs:List Int)(m:Nat):Bool:=zs.any λz=> !inB z m
theorem zkV {α:Type}(p:α->Bool)(xs:List α)(d:α)(k:Nat)(h:k<xs.length):(xs.take (k+1)).any p=((xs.take k).any p||p (xs.getD k d)):=by
 rw [List.take_succ_eq_append_getElem h,List.any_append,List.getD_eq_getElem?_getD,List.getElem?_eq_getElem h]
 simp
theorem any_at {α:Type}(p:α->Bool)(xs:List α)(d:α)(k:Nat)(h:k<xs.length)(hp:p (xs.getD k d)=true):xs.any p=true:=by
 refine List.any_eq_true.2 ⟨xs.getD k d,?_,hp⟩
 rw [List.getD_eq_getElem?_getD,List.getElem?_eq_getElem h]
 exact List.getElem_mem h
theorem dims_bad {M:List (List Rat)}{n m:Nat}(h:zcH M n m):badB M (m:Int)=false:=by
 unfold badB
 refine List.any_eq_false.2 λL hL=>?_
 have:=h.cols L hL
 simp
 omega
theorem zkg {gc q n:Nat}{Q:oA9}{M:List (List Rat)}{z:Int}{w:World}(h:zaF (zaB zan) w Q n M)(hk:Blk w gc 3 #[.int .i64 z])(hn:n<=1048576):
  Calls Tryz.prog 119 #[.slice Q n q,.func (.func 84) #[] #[.pointer (some ⟨gc,0,none⟩)]] w (λe w'=>∃k:Int,e=.returned (.int .i64 k)/\decide (k>=0)=badB M z/\Below w.heap.size w w'):=by
 have hl:=h.len
 have HL:=lh9 hl
 have HR:=lh9 h
 have HK:=lh9 (λw' (hb:Below w.heap.size w w')=>zae hb hk)
 have hEn:=en_of1
 have hB:=Below.refl w.heap.size w
 have HS:Hid (∀k,k<n->(M.take (k+1)).any (λL:List Rat=> !decide (((L.length:Nat):Int)=z))=((M.take k).any (λL:List Rat=> !decide (((L.length:Nat):Int)=z))||(λL:List Rat=> !decide (((L.length:Nat):Int)=z)) (M.getD k []))):=λk hk=>zkV (λL:List Rat=> !decide (((L.length:Nat):Int)=z)) M [] k (by omega)
 have HA:Hid (∀k,k<n->(λL:List Rat=> !decide (((L.length:Nat):Int)=z)) (M.getD k [])=true->M.any (λL:List Rat=> !decide (((L.length:Nat):Int)=z))=true):=λk hk=>any_at (λL:List Rat=> !decide (((L.length:Nat):Int)=z)) M [] k (by omega)
 have i0:(0:Int)<=(n:Int):=by omega
 clear h hk hl
 unfold badB
 go_enter Tryz.func119,Tryz.ntmps119
 go_wp2_with fail
 go_loopg [8] (n+1) (λg ix wr=>∃(k:Nat),k<=n/\n<g+k/\ix=.int .i64 k/\Hid ((M.take k).any (λL:List Rat=> !decide (((L.length:Nat):Int)=z))=false)/\Below w.heap.size w wr)
 case atStart=>exact⟨0,Nat.zero_le _,by omega,rfl,rfl,hB⟩
 case round=>
  clear hB
  obtain⟨k,hkn,hg,rfl,hz0,hB⟩:=hrel
  by_cases hlt:k<n
  ·have hd1:decide ((k:Int)<(n:Int))=true:=decide_eq_true (by omega)
   have i1:(0:Int)<=(k:Int):=by omega
   have i2:(k:Int)<(n:Int):=by omega
   have HSK:=lh9 (HS.out k hlt)
   have HAK:=lh9 (HA.out k hlt)
   obtain⟨ad,B,d,rfl,-,hc,-⟩:=HR.out.get (zay zaq) hB hlt rfl
   obtain⟨L,hL⟩:∃L,M.getD k []=L:=⟨_,rfl⟩
   rw [hL] at hc
   rw [hL] at HSK HAK
   obtain⟨b,hb9⟩:∃b,(!decide (((L.length:Nat):Int)=z))=b:=⟨_,rfl⟩
   rw [hb9] at HSK HAK
   have HC:∀W,Below w.heap.size w W->Hid (Calls Tryz.prog 84 #[.slice B L.length d,.pointer (some ⟨gc,0,none⟩)] W (λe w'=>e=.returned (.bool b)/\Below W.heap.size W w')):=λW hW=>by
    have q:=zoJ (V:=B) (cv:=d) (k:=L.length) (HK.out W hW)
    rw [hb9] at q
    exact q
   have HB:=lh9 hB
   clear hB hL
   cases b
   ·go_wp2_with fail
    refine(HC _ HB.out).out.mono ?_
    rintro e w3 ⟨rfl,hb⟩
    have HZ:Hid ((M.take (k+1)).any (λL:List Rat=> !decide (((L.length:Nat):Int)=z))=false):=by show _=_;rw [HSK.out,hz0.out];rfl
    have HB2:=lh9 (zac HB.out hb)
    clear hb hb9 hc HC
    go_wp2
    go_roundg (n - k)
    case measure=>omega
    case rel=>exact⟨k+1,by omega,by omega,by go_num,HZ,HB2.out⟩
   ·go_wp2_with fail
    refine(HC _ HB.out).out.mono ?_
    rintro e w3 ⟨rfl,hb⟩
    have HZ:=lh9 (HAK.out (by first|rfl|trivial))
    have HB2:=lh9 (zac HB.out hb)
    clear hb hb9 hc HC
    go_wp2
    go_ret
    exact⟨(k:Int),rfl,by rw [HZ.out];exact decide_eq_true (by omega),HB2.out⟩
  ·have hd1:decide ((k:Int)<(n:Int))=false:=decide_eq_false (by omega)
   have HF:Hid (M.any (λL:List Rat=> !decide (((L.length:Nat):Int)=z))=false):=by
    have h1:=hz0.out
    rw [List.take_of_length_le (by have:=HL.out;omega)] at h1
    exact h1
   have HB2:=lh9 hB
   clear hB
   go_wp2
   go_ret
   exact⟨-1,rfl,by rw [HF.out];rfl,HB2.out⟩
theorem zeG {gc q n:Nat}{Q:oA9}{M:List (List Rat)}{z:Int}{w:World}(h:zaF (zaB zan) w Q n M)(hk:Blk w gc 3 #[.int .i64 z])(hn:n<=1048576):
  Calls Tryz.prog 85 #[.slice Q n q,.func (.func 84) #[] #[.pointer (some ⟨gc,0,none⟩)]] w (λe w'=>e=.returned (.bool (badB M z))/\Below w.heap.size w w'):=by
 have H:=lh9 (zkg (q:=q) h hk hn)
 obtain⟨b,hb⟩:∃b,badB M z=b:=⟨_,rfl⟩
 rw [hb] at H⊢
 clear h hk hb
 go_enter Tryz.func85,Tryz.ntmps85
 go_wp2_with fail
 refine H.out.mono ?_
 rintro e w1 ⟨k,rfl,hk,hb⟩
 have hk2:decide (0<=k)=b:=hk
 have HB:=lh9 hb
 clear hb
 go_wp2
 go_ret
 exact⟨rfl,HB.out⟩
theorem ziR {gc q n m:Nat}{Q A:oA9}{n9 c9:Nat}{zs:List Int}{w:World}(h:zer w Q n zs)(hk:Blk w gc 28 #[.slice A n9 c9,.int .i64 (m:Int)])(hn:n<=1048576):
  Calls Tryz.prog 120 #[.slice Q n q,.func (.func 87) #[] #[.pointer (some ⟨gc,0,none⟩)]] w (λe w'=>∃k:Int,e=.returned (.int .i64 k)/\decide (k>=0)=zim zs m/\Below w.heap.size w w'):=by
 have hl:=h.len
 have HL:=lh9 hl
 have HR:=lh9 h
 have HK:=lh9 (λw' (hb:Below w.heap.size w w')=>zae hb hk)
 have hEn:=en_pick1
 have hB:=Below.refl w.heap.size w
 have HS:Hid (∀k,k<n->(zs.take (k+1)).any (λz:Int=> !inB z m)=((zs.take k).any (λz:Int=> !inB z m)||(λz:Int=> !inB z m) (zs.getD k 0))):=λk hk=>zkV (λz:Int=> !inB z m) zs 0 k (by omega)
 have HA:Hid (∀k,k<n->(λz:Int=> !inB z m) (zs.getD k 0)=true->zs.any (λz:Int=> !inB z m)=true):=λk hk=>any_at (λz:Int=> !inB z m) zs 0 k (by omega)
 have i0:(0:Int)<=(n:Int):=by omega
 clear h hk hl
 unfold zim
 go_enter Tryz.func120,Tryz.ntmps120
 go_wp2_with fail
 go_loopg [8] (n+1) (λg ix wr=>∃(k:Nat),k<=n/\n<g+k/\ix=.int .i64 k/\Hid ((zs.take k).any (λz:Int=> !inB z m)=false)/\Below w.heap.size w wr)
 case atStart=>exact⟨0,Nat.zero_le _,by omega,rfl,rfl,hB⟩
 case round=>
  clear hB
  obtain⟨k,hkn,hg,rfl,hz0,hB⟩:=hrel
  by_cases hlt:k<n
  ·have hd1:decide ((k:Int)<(n:Int))=true:=decide_eq_true (by omega)
   have i1:(0:Int)<=(k:Int):=by omega
   have i2:(k:Int)<(n:Int):=by omega
   have HSK:=lh9 (HS.out k hlt)
   have HAK:=lh9 (HA.out k hlt)
   obtain⟨ad,rfl,hc⟩:=HR.out.num k hlt
   have hc:=zad hB hc
   obtain⟨L,hL⟩:∃L,zs.getD k 0=L:=⟨_,rfl⟩
   rw [hL] at hc
   rw [hL] at HSK HAK
   obtain⟨b,hb9⟩:∃b,(!inB L m)=b:=⟨_,rfl⟩
   rw [hb9] at HSK HAK
   have HC:∀W,Below w.heap.size w W->Hid (Calls Tryz.prog 87 #[.int .i64 L,.pointer (some ⟨gc,0,none⟩)] W (λe w'=>e=.returned (.bool b)/\Below W.heap.size W w')):=λW hW=>by
    have q:=zmD (z:=L) (HK.out W hW)
    rw [hb9] at q
    exact q
   have HB:=lh9 hB
   clear hB hL
   cases b
   ·go_wp2_with fail
    refine(HC _ HB.out).out.mono ?_
    rintro e w3 ⟨rfl,hb⟩
    have HZ:Hid ((zs.take (k+1)).any (λz:Int=> !inB z m)=false):=by show _=_;rw [HSK.out,hz0.out];rfl
    have HB2:=lh9 (zac HB.out hb)
    clear hb hb9 hc HC
    go_wp2
    go_roundg (n - k)
    case measure=>omega
    case rel=>exact⟨k+1,by omega,by omega,by go_num,HZ,HB2.out⟩
   ·go_wp2_with fail
    refine(HC _ HB.out).out.mono ?_
    rintro e w3 ⟨rfl,hb⟩
    have HZ:=lh9 (HAK.out (by first|rfl|trivial))
    have HB2:=lh9 (zac HB.out hb)
    clear hb hb9 hc HC
    go_wp2
    go_ret
    exact⟨(k:Int),rfl,by rw [HZ.out];exact decide_eq_true (by omega),HB2.out⟩
  ·have hd1:decide ((k:Int)<(n:Int))=false:=decide_eq_false (by omega)
   have HF:Hid (zs.any (λz:Int=> !inB z m)=false):=by
    have h1:=hz0.out
    rw [List.take_of_length_le (by have:=HL.out;omega)] at h1
    exact h1
   have HB2:=lh9 hB
   clear hB
   go_wp2
   go_ret
   exact⟨-1,rfl,by rw [HF.out];rfl,HB2.out⟩
theorem zgJ {gc q n m:Nat}{Q A:oA9}{n9 c9:Nat}{zs:List Int}{w:World}(h:zer w Q n zs)(hk:Blk w gc 28 #[.slice A n9 c9,.int .i64 (m:Int)])(hn:n<=1048576):
  Calls Tryz.prog 88 #[.slice Q n q,.func (.func 87) #[] #[.pointer (some ⟨gc,0,none⟩)]] w (λe w'=>e=.returned (.bool (zim zs m))/\Below w.heap.size w w'):=by
 have H:=lh9 (ziR (q:=q) h hk hn)
 obtain⟨b,hb⟩:∃b,zim zs m=b:=⟨_,rfl⟩
 rw [hb] at H⊢
 clear h hk hb
 go_enter Tryz.func88,Tryz.ntmps88
 go_wp2_with fail
 refine H.out.mono ?_
 rintro e w1 ⟨k,rfl,hk,hb⟩
 have hk2:decide (0<=k)=b:=hk
 have HB:=lh9 hb
 clear hb
 go_wp2
 go_ret
 exact⟨rfl,HB.out⟩
section
variable {Q:oA9}{n q:Nat}{M:List (List Rat)}{z:Int}{w:World}
theorem zpe (h:zaF (zaB zan) w Q n M)(hn:n<=1048576)(hno:zcy (n:Int) z=false\/badB M z=true):Calls Tryz.prog 45 #[.int .i64 z,.slice Q n q] w (zcC w):=by
 have hmf:=znb
 obtain⟨bx1,bx2,bx3,bx4,bz⟩:=zbq w 3 26 28 #[.int .i64 z] #[.slice Q n q] #[.slice none 0 0,.int .i64 0]
 have y0:=bx2.c1
 have y1:=bx3.c1
 by_cases hm:zcy (n:Int) z=true
 ·have hb:badB M z=true:=by
   rcases hno with h1|h1
   ·rw [hm] at h1;cases h1
   ·exact h1
  have H:=λW=>lh9 (zeW hm W)
  have HC:=lh9 (zeG (q:=q) (h.below (zay zaq) bx1) bx2 hn)
  rw [hb] at HC
  have HK:=lh9 bx4
  have HB:=lh9 bx1
  clear h hno bx1 bx2 bx3 bx4 bz hm hb
  go_enter Tryz.func45,Tryz.ntmps45
  go_wp2_with fail
  refine(H _).out.mono ?_
  rintro e w1 ⟨rfl,rfl⟩
  go_wp2_with fail
  refine HC.out.mono ?_
  rintro e w1 ⟨rfl,hb⟩
  have hk3:=zae hb HK.out
  obtain⟨sc0,sf0,sc1,sf1⟩:=st2 hk3 (.slice none 0 0)
  obtain⟨r0,r1⟩:=(sn2 hk3 (.slice none 0 0) (.int .i64 0)).c2
  have HG:=lh9 (gmn2 (g:=w.heap.size+1+1) (zac HB.out hb) (by omega))
  clear hb hk3 HK HB y0 y1
  go_wp2
  refine bodyPost_ret (v:=.tuple #[.agg #[.slice none 0 0,.int .i64 0],.bool false]) (by simp [results,Tryz.results45,go_sem,r0,r1]) rfl ?_
  exact HG.out
 ·have H:=λW=>lh9 (zeW (by cases h:zcy (n:Int) z;rfl;exact absurd h hm) W)
  obtain⟨g0,g1⟩:=bx4.c2
  have HB:=lh9 bx1
  clear h hno bx1 bx2 bx3 bx4 bz hm
  go_enter Tryz.func45,Tryz.ntmps45
  go_wp2_with fail
  refine(H _).out.mono ?_
  rintro e w1 ⟨rfl,rfl⟩
  go_wp2
  refine bodyPost_ret (v:=.tuple #[.agg #[.slice none 0 0,.int .i64 0],.bool false]) (by simp [results,Tryz.results45,go_sem,g0,g1]) rfl ?_
  exact⟨rfl,HB.out⟩
theorem mat_of {m K:Nat}(hT:zal w)(h:zaF (zaB zan) w Q n M)(hd:zcH M n m)(hn:n<=64)(hm:m<=64)(z:zaD K M)(hK:K+2<=67108864:=by omega):Calls Tryz.prog 45 #[.int .i64 (m:Int),.slice Q n q] w (zcW w n m M):=by
 have hmf:=znb
 obtain⟨bx1,bx2,bx3,bx4,bz⟩:=zbq w 3 26 28 #[.int .i64 (m:Int)] #[.slice Q n q] #[.slice none 0 0,.int .i64 0]
 have H:=λW=>lh9 (zeW (zgr hn hm) W)
 have hc:=zeG (q:=q) (h.below (zay zaq) bx1) bx2 (by omega)
 rw [dims_bad hd] at hc
 have HC:=lh9 hc
 have HM:Hid (∀W,Below w.heap.size w W->Blk W (w.heap.size+1) 26 #[.slice Q n q]->Calls Tryz.prog 52 #[.int .i64 (n:Int),.int .i64 (m:Int),.func (.func 86) #[] #[.pointer (some ⟨w.heap.size+1,0,none⟩)]] W (zbP W n m M)):=λW hW hk=>by
  have hh:=h.below (zay zaq) hW
  have q9:=zeV (K:=K) (atM M) 86 #[.pointer (some ⟨w.heap.size+1,0,none⟩)] n m W (hT.on hW) ⟨en_of2,λr c hr hc w' hb=>cl_of (hh.below (zay zaq) hb) hd (zae hb hk) hr hc⟩ (λr c hr hc=>z.at_ hd hr hc) hn hm hK
  rw [hd.eq] at q9
  exact q9
 have HK:=lh9 bx4
 have HS:=lh9 bx3
 have HB:=lh9 bx1
 have y0:=bx2.c1
 have y1:=bx3.c1
 have hl0:=bx2.lt
 have HKI:=lh9 bx2
 clear bx1 bx2 bx3 bx4 bz hT h z hd hc
 go_enter Tryz.func45,Tryz.ntmps45
 go_wp2_with fail
 refine(H _).out.mono ?_
 rintro e w1 ⟨rfl,rfl⟩
 go_wp2_with fail
 refine HC.out.mono ?_
 rintro e w1 ⟨rfl,hb⟩
 have HB1:=lh9 (zac HB.out hb)
 have HK1:=lh9 (zae hb HK.out)
 have HS1:=lh9 (zae hb HS.out)
 have y0:=(zae hb HKI.out).c1
 have y1:=HS1.out.c1
 clear hb HB HK HS HKI HC H
 go_wp2_with fail
 refine(HM.out _ HB1.out HS1.out).mono ?_
 clear y0 y1
 rintro e w3 ⟨A3,c3,rfl,hm3,hf3,hb⟩
 have hk3:=zae hb HK1.out
 obtain⟨sc0,sf0,sc1,sf1⟩:=st2 hk3 (.slice A3 n c3)
 obtain⟨r0,r1⟩:=(sn2 hk3 (.slice A3 n c3) (.int .i64 (m:Int))).c2
 have HG:=lh9 (gmb2 hm3 (λad e=>Nat.lt_of_lt_of_le HK1.out.lt (hf3 ad e)) hk3 (zac HB1.out hb) (by omega))
 clear hb hk3 hm3 hf3 HK1 HB1 HM HS1
 go_wp2
 refine bodyPost_ret (v:=.tuple #[.agg #[.slice A3 n c3,.int .i64 (m:Int)],.bool true]) (by simp [results,Tryz.results45,go_sem,r0,r1]) rfl ?_
 exact HG.out
end
theorem zkn {T:World->Prop}{M:Nat->Prop}(hTb:∀w w',T w->Below w.heap.size w w'->T w')(IC:IntC T)(QC:RatC T M)(p q:Int)(r:Rat)(K:Nat)(bx:Bool)(Bx:oA9)(mx dx:Nat)(Ex:oA9)(ux vx:Nat)(w:World)(hK:K<=16777216)(hz:SzQ K r)(h:zan w r bx Bx mx dx Ex ux vx)(hT:T w)(hp1: -9223372036854775808<=p)(hp2:p<=9223372036854775807)(hq1: -9223372036854775808<=q)(hq2:q<=9223372036854775807)(hq0:q≠0)(he:r=Rat.divInt p q):
  Calls Tryz.prog 18 #[.agg #[.bool bx,.slice Bx mx dx,.slice Ex ux vx],.int .i64 p,.int .i64 q] w λe w'=>e=.returned (.bool true)/\Below w.heap.size w w':=by
 have HIC:=lh9 IC
 have HQC:=lh9 QC
 have HT:=lh9 (λw' (hb:Below w.heap.size w w')=>hTb w w' hT hb)
 have HE:=lh9 he
 have HZx:=lh9 hz
 have HNx:=lh9 h
 clear IC QC hT he hz h
 go_enter Tryz.func18,Tryz.ntmps18
 have hB:=Below.refl w.heap.size w
 obtain⟨bx1,bx2,bz⟩:=zaA w 48 #[.bool bx,.slice Bx mx dx,.slice Ex ux vx]
 have hB:=zac hB bx1
 have HNx:=lh9 (HNx.out.below bx1)
 obtain⟨g1,e1,i1⟩:=bx2.c3
 clear bx1 bx2 bz
 go_wp2_with fail
 generalize w.alloc (.cells #[.bool bx,.slice Bx mx dx,.slice Ex ux vx] 48)=W1 at*
 have HZ2:Hid (SzQ (1) (Rat.divInt p q)):=SzQ.made (K:=1) (by show Int.natAbs p<18446744073709551616^1;have e1: -9223372036854775808<=p:=hp1;have e2:p<=9223372036854775807:=hp2;omega) (by show Int.natAbs q<18446744073709551616^1;have e1: -9223372036854775808<=q:=hq1;have e2:q<=9223372036854775807:=hq2;omega) (by decide)
 (with_reducible refine(HQC.out.of p q _ (HT.out _ hB) hp1 hp2 hq1 hq2 hq0).mono ?_)
 rintro e wc2 ⟨b2,B2,m2,d2,E2,u2,v2,rfl,hw2,hb⟩
 have hB:=zac hB hb
 have HNx:=lh9 (HNx.out.below hb)
 have g1:=zad hb g1
 have e1:=zad hb e1
 have i1:=zad hb i1
 have HN2:=lh9 hw2
 clear hb hw2
 obtain⟨bx1,bx2,bz⟩:=zaA wc2 48 #[.bool b2,.slice B2 m2 d2,.slice E2 u2 v2]
 have hB:=zac hB bx1
 have HNx:=lh9 (HNx.out.below bx1)
 have g1:=zad bx1 g1
 have e1:=zad bx1 e1
 have i1:=zad bx1 i1
 have HN2:=lh9 (HN2.out.below bx1)
 obtain⟨g3,e3,i3⟩:=bx2.c3
 clear bx1 bx2 bz
 go_wp2_with fail
 generalize wc2.alloc (.cells #[.bool b2,.slice B2 m2 d2,.slice E2 u2 v2] 48)=W3 at*
 generalize wc2.heap.size=q3 at*
 have C0:=lh9 (λw' (h:Below W3.heap.size W3 w')=>zax (decide_eq_true HE.out) (HQC.out.same (r) (Rat.divInt p q) bx b2 Bx B2 mx m2 dx d2 Ex E2 ux u2 vx v2 w' (HT.out _ (zac hB h)) (HNx.out.below h) (HN2.out.below h) (szq HZx HNx.out) (szq HZ2 HN2.out)))
 have HZ4:Hid (Sz (K) (r.num).natAbs):=SzQ.num HZx.out
 have C1:=lh9 (λw' (h:Below W3.heap.size W3 w')=>HQC.out.num (r) bx Bx mx dx Ex ux vx w' (HT.out _ (zac hB h)) (HNx.out.below h) (szq HZx HNx.out))
 have HZ5:Hid (Sz (1) ((Rat.divInt p q).num).natAbs):=SzQ.num HZ2.out
 have C2:=lh9 (λw' (h:Below W3.heap.size W3 w')=>HQC.out.num (Rat.divInt p q) b2 B2 m2 d2 E2 u2 v2 w' (HT.out _ (zac hB h)) (HN2.out.below h) (szq HZ2 HN2.out))
 have C3:=lh9 (λw' (h:Below W3.heap.size W3 w') b4 B4 m4 d4 (hw4:zaC w' (r.num) b4 B4 m4 d4) b5 B5 m5 d5 (hw5:zaC w' ((Rat.divInt p q).num) b5 B5 m5 d5)=>icmp_eq (by rw [HE.out]) (HIC.out.cmp (r.num) ((Rat.divInt p q).num) b4 b5 B4 B5 m4 m5 d4 d5 w' (HT.out _ (zac hB h)) hw4 hw5 (by have:=Sz.words HZ4.out hw4.words;omega) (by have:=Sz.words HZ5.out hw5.words;omega)))
 have HZ6:Hid (Sz (K) (r.den)):=SzQ.den HZx.out
 have C4:=lh9 (λw' (h:Below W3.heap.size W3 w')=>HQC.out.den (r) bx Bx mx dx Ex ux vx w' (HT.out _ (zac hB h)) (HNx.out.below h) (szq HZx HNx.out))
 have HZ7:Hid (Sz (1) ((Rat.divInt p q).den)):=SzQ.den HZ2.out
 have C5:=lh9 (λw' (h:Below W3.heap.size W3 w')=>HQC.out.den (Rat.divInt p q) b2 B2 m2 d2 E2 u2 v2 w' (HT.out _ (zac hB h)) (HN2.out.below h) (szq HZ2 HN2.out))
 have C6:=lh9 (λw' (h:Below W3.heap.size W3 w') B6 m6 d6 (hw6:zaf w' (r.den) B6 m6 d6) B7 m7 d7 (hw7:zaf w' ((Rat.divInt p q).den) B7 m7 d7)=>cmpEq (x:=r.den) (y:=(Rat.divInt p q).den) (by rw [HE.out]) hw6 hw7 (szw HZ6 hw6) (szw HZ7 hw7))
 have hBw:=(Below.refl W3.heap.size W3).drew
 refine rg (csc g1 (csc e1 (csc i1 (csc g3 (csc e3 (csc i3 csn)))))) (λhHeld=>?_)
 refine tk 0 ?_
 refine tk 1 ?_
 refine tk 2 ?_
 refine tk 3 ?_
 refine rc 4 (λK hK=>?_)
 go_simp
 go_at_call 43;(with_reducible refine(C0.out _ hBw).mono ?_);rintro e wa4 ⟨rfl,hb⟩;have hBw:=zac hBw hb;refine hK.out _ _ (Cs.below hHeld hb) (λhHeld=>?_);clear hK K hb
 try simp only [sb9]
 refine tk 5 ?_
 refine tk 6 ?_
 refine tk 7 ?_
 refine tk 9 ?_
 refine rc 8 (λK hK=>?_)
 go_simp
 go_at_call 59;(with_reducible refine(C1.out _ hBw).mono ?_);rintro e wa5 ⟨b4,B4,m4,d4,rfl,hw4,hb⟩;have hBw:=zac hBw hb;refine hK.out _ _ (Cs.below hHeld hb) (λhHeld=>?_);clear hK K hb
 try simp only [sb9]
 refine rc 10 (λK hK=>?_)
 go_simp
 go_at_call 59;(with_reducible refine(C2.out _ hBw).mono ?_);rintro e wa6 ⟨b5,B5,m5,d5,rfl,hw5,hb⟩;have hBw:=zac hBw hb;have hw4:=hw4.below hb;refine hK.out _ _ (Cs.below hHeld hb) (λhHeld=>?_);clear hK K hb
 try simp only [sb9]
 refine rc 11 (λK hK=>?_)
 go_simp
 go_at_call 58;(with_reducible refine(C3.out _ hBw _ _ _ _ hw4 _ _ _ _ hw5).mono ?_);rintro e wa7 ⟨rfl,hb⟩;have hBw:=zac hBw hb;have hw4:=hw4.below hb;have hw5:=hw5.below hb;refine hK.out _ _ (Cs.below hHeld hb) (λhHeld=>?_);clear hK K hb
 try simp only [sb9]
 refine tk 12 ?_
 refine tk 13 ?_
 refine tk 14 ?_
 refine tk 15 ?_
 refine tk 17 ?_
 refine rc 16 (λK hK=>?_)
 go_simp
 go_at_call 61;(with_reducible refine(C4.out _ hBw).mono ?_);rintro e wa8 ⟨B6,m6,d6,rfl,hw6,hb⟩;have hBw:=zac hBw hb;have hw4:=hw4.below hb;have hw5:=hw5.below hb;refine hK.out _ _ (Cs.below hHeld hb) (λhHeld=>?_);clear hK K hb
 try simp only [sb9]
 refine rc 18 (λK hK=>?_)
 go_simp
 go_at_call 61;(with_reducible refine(C5.out _ hBw).mono ?_);rintro e wa9 ⟨B7,m7,d7,rfl,hw7,hb⟩;have hBw:=zac hBw hb;have hw4:=hw4.below hb;have hw5:=hw5.below hb;have hw6:=hw6.below hb;refine hK.out _ _ (Cs.below hHeld hb) (λhHeld=>?_);clear hK K hb
 try simp only [sb9]
 refine rc 19 (λK hK=>?_)
 go_simp
 go_at_call 60;(with_reducible refine(C6.out _ hBw _ _ _ hw6 _ _ _ hw7).mono ?_);rintro e wa10 ⟨rfl,hb⟩;have hBw:=zac hBw hb;have hw4:=hw4.below hb;have hw5:=hw5.below hb;have hw6:=hw6.below hb;have hw7:=hw7.below hb;refine hK.out _ _ (Cs.below hHeld hb) (λhHeld=>?_);clear hK K hb
 try simp only [sb9]
 refine tk 20 ?_
 refine tk 21 ?_
 refine tk 22 ?_
 refine rdn ?_
 have hB:=zac hB hBw
 have g1:=zad hBw g1
 have e1:=zad hBw e1
 have i1:=zad hBw i1
 have g3:=zad hBw g3
 have e3:=zad hBw e3
 have i3:=zad hBw i3
 clear hBw hHeld hw4 hw5 hw6 hw7 C0 C1 C2 C3 C4 C5 C6
 go_wp2
 go_ret
 exact⟨by first|rfl|simp,hB⟩
