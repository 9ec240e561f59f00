/- What this claim leans on. -/
import Derived.Test.YtlgnacmgepnamaaGreatDoorMMMade
namespace Go.Proofs.YtlgnacmgepnamaaGreatDoor
open Go Go.RowKit
set_option maxHeartbeats 16000000
set_option maxRecDepth 100000
set_option linter.unusedVariables false
set_option linter.unusedSimpArgs false
def badB (M:List (List Rat))(z:Int):Bool:=M.any λL=> !decide (((L.length:Nat):Int)=z)
def ziu (zs:List Int)(m:Nat):Bool:=zs.any λz=> !inB z m
theorem zlk {α:Type}(p:α->Bool)(xs:List α)(d:α)(k:Nat)(h:k<xs.length):(xs.take (k+1)).any p=((xs.take k).any p||p (xs.getD k d)):=by
 rw [List.take_succ_eq_append_getElem h,List.any_append,List.getD_eq_getElem?_getD,List.getElem?_eq_getElem h]
 simp
theorem any_at {α:Type}(p:α->Bool)(xs:List α)(d:α)(k:Nat)(h:k<xs.length)(hp:p (xs.getD k d)=true):xs.any p=true:=by
 refine List.any_eq_true.2 ⟨xs.getD k d,?_,hp⟩
 rw [List.getD_eq_getElem?_getD,List.getElem?_eq_getElem h]
 exact List.getElem_mem h
theorem dims_bad {M:List (List Rat)}{n m:Nat}(h:zcT M n m):badB M (m:Int)=false:=by
 unfold badB
 refine List.any_eq_false.2 λL hL=>?_
 have:=h.cols L hL
 simp
 omega
theorem zkw {gc q n:Nat}{Q:oA9}{M:List (List Rat)}{z:Int}{w:World}(h:zaH (zas zan) w Q n M)(hk:Blk w gc 3 #[.int .i64 z])(hn:n<=1048576):
  Calls Tryz.prog 119 #[.slice Q n q,.func (.func 84) #[] #[.pointer (some ⟨gc,0,none⟩)]] w (λe w'=>∃k:Int,e=.returned (.int .i64 k)/\decide (k>=0)=badB M z/\Below w.heap.size w w'):=by
 have hl:=h.len
 have HL:=lh9 hl
 have HR:=lh9 h
 have HK:=lh9 (λw' (hb:Below w.heap.size w w')=>zad hb hk)
 have hEn:=en_of1
 have hB:=Below.refl w.heap.size w
 have HS:Hid (∀k,k<n->(M.take (k+1)).any (λL:List Rat=> !decide (((L.length:Nat):Int)=z))=((M.take k).any (λL:List Rat=> !decide (((L.length:Nat):Int)=z))||(λL:List Rat=> !decide (((L.length:Nat):Int)=z)) (M.getD k []))):=λk hk=>zlk (λL:List Rat=> !decide (((L.length:Nat):Int)=z)) M [] k (by omega)
 have HA:Hid (∀k,k<n->(λL:List Rat=> !decide (((L.length:Nat):Int)=z)) (M.getD k [])=true->M.any (λL:List Rat=> !decide (((L.length:Nat):Int)=z))=true):=λk hk=>any_at (λL:List Rat=> !decide (((L.length:Nat):Int)=z)) M [] k (by omega)
 have i0:(0:Int)<=(n:Int):=by omega
 clear h hk hl
 unfold badB
 go_enter Tryz.func119,Tryz.ntmps119
 go_wp2_with fail
 go_loopg [8] (n+1) (λg ix wr=>∃(k:Nat),k<=n/\n<g+k/\ix=.int .i64 k/\Hid ((M.take k).any (λL:List Rat=> !decide (((L.length:Nat):Int)=z))=false)/\Below w.heap.size w wr)
 case atStart=>exact⟨0,Nat.zero_le _,by omega,rfl,rfl,hB⟩
 case round=>
  clear hB
  obtain⟨k,hkn,hg,rfl,hz0,hB⟩:=hrel
  by_cases hlt:k<n
  ·have hd1:decide ((k:Int)<(n:Int))=true:=decide_eq_true (by omega)
   have i1:(0:Int)<=(k:Int):=by omega
   have i2:(k:Int)<(n:Int):=by omega
   have HSK:=lh9 (HS.out k hlt)
   have HAK:=lh9 (HA.out k hlt)
   obtain⟨ad,B,d,rfl,-,hc,-⟩:=HR.out.get (zav zar) hB hlt rfl
   obtain⟨L,hL⟩:∃L,M.getD k []=L:=⟨_,rfl⟩
   rw [hL] at hc
   rw [hL] at HSK HAK
   obtain⟨b,hb9⟩:∃b,(!decide (((L.length:Nat):Int)=z))=b:=⟨_,rfl⟩
   rw [hb9] at HSK HAK
   have HC:∀W,Below w.heap.size w W->Hid (Calls Tryz.prog 84 #[.slice B L.length d,.pointer (some ⟨gc,0,none⟩)] W (λe w'=>e=.returned (.bool b)/\Below W.heap.size W w')):=λW hW=>by
    have q:=zoN (V:=B) (cv:=d) (k:=L.length) (HK.out W hW)
    rw [hb9] at q
    exact q
   have HB:=lh9 hB
   clear hB hL
   cases b
   ·go_wp2_with fail
    refine(HC _ HB.out).out.mono ?_
    rintro e w3 ⟨rfl,hb⟩
    have HZ:Hid ((M.take (k+1)).any (λL:List Rat=> !decide (((L.length:Nat):Int)=z))=false):=by show _=_;rw [HSK.out,hz0.out];rfl
    have HB2:=lh9 (zac HB.out hb)
    clear hb hb9 hc HC
    go_wp2
    go_roundg (n - k)
    case measure=>omega
    case rel=>exact⟨k+1,by omega,by omega,by go_num,HZ,HB2.out⟩
   ·go_wp2_with fail
    refine(HC _ HB.out).out.mono ?_
    rintro e w3 ⟨rfl,hb⟩
    have HZ:=lh9 (HAK.out (by first|rfl|trivial))
    have HB2:=lh9 (zac HB.out hb)
    clear hb hb9 hc HC
    go_wp2
    go_ret
    exact⟨(k:Int),rfl,by rw [HZ.out];exact decide_eq_true (by omega),HB2.out⟩
  ·have hd1:decide ((k:Int)<(n:Int))=false:=decide_eq_false (by omega)
   have HF:Hid (M.any (λL:List Rat=> !decide (((L.length:Nat):Int)=z))=false):=by
    have h1:=hz0.out
    rw [List.take_of_length_le (by have:=HL.out;omega)] at h1
    exact h1
   have HB2:=lh9 hB
   clear hB
   go_wp2
   go_ret
   exact⟨-1,rfl,by rw [HF.out];rfl,HB2.out⟩
theorem zeV {gc q n:Nat}{Q:oA9}{M:List (List Rat)}{z:Int}{w:World}(h:zaH (zas zan) w Q n M)(hk:Blk w gc 3 #[.int .i64 z])(hn:n<=1048576):
  Calls Tryz.prog 85 #[.slice Q n q,.func (.func 84) #[] #[.pointer (some ⟨gc,0,none⟩)]] w (λe w'=>e=.returned (.bool (badB M z))/\Below w.heap.size w w'):=by
 have H:=lh9 (zkw (q:=q) h hk hn)
 obtain⟨b,hb⟩:∃b,badB M z=b:=⟨_,rfl⟩
 rw [hb] at H⊢
 clear h hk hb
 go_enter Tryz.func85,Tryz.ntmps85
 go_wp2_with fail
 refine H.out.mono ?_
 rintro e w1 ⟨k,rfl,hk,hb⟩
 have hk2:decide (0<=k)=b:=hk
 have HB:=lh9 hb
 clear hb
 go_wp2
 go_ret
 exact⟨rfl,HB.out⟩
theorem zjf {gc q n m:Nat}{Q A:oA9}{n9 c9:Nat}{zs:List Int}{w:World}(h:zeB w Q n zs)(hk:Blk w gc 28 #[.slice A n9 c9,.int .i64 (m:Int)])(hn:n<=1048576):
  Calls Tryz.prog 120 #[.slice Q n q,.func (.func 87) #[] #[.pointer (some ⟨gc,0,none⟩)]] w (λe w'=>∃k:Int,e=.returned (.int .i64 k)/\decide (k>=0)=ziu zs m/\Below w.heap.size w w'):=by
 have hl:=h.len
 have HL:=lh9 hl
 have HR:=lh9 h
 have HK:=lh9 (λw' (hb:Below w.heap.size w w')=>zad hb hk)
 have hEn:=en_pick1
 have hB:=Below.refl w.heap.size w
 have HS:Hid (∀k,k<n->(zs.take (k+1)).any (λz:Int=> !inB z m)=((zs.take k).any (λz:Int=> !inB z m)||(λz:Int=> !inB z m) (zs.getD k 0))):=λk hk=>zlk (λz:Int=> !inB z m) zs 0 k (by omega)
 have HA:Hid (∀k,k<n->(λz:Int=> !inB z m) (zs.getD k 0)=true->zs.any (λz:Int=> !inB z m)=true):=λk hk=>any_at (λz:Int=> !inB z m) zs 0 k (by omega)
 have i0:(0:Int)<=(n:Int):=by omega
 clear h hk hl
 unfold ziu
 go_enter Tryz.func120,Tryz.ntmps120
 go_wp2_with fail
 go_loopg [8] (n+1) (λg ix wr=>∃(k:Nat),k<=n/\n<g+k/\ix=.int .i64 k/\Hid ((zs.take k).any (λz:Int=> !inB z m)=false)/\Below w.heap.size w wr)
 case atStart=>exact⟨0,Nat.zero_le _,by omega,rfl,rfl,hB⟩
 case round=>
  clear hB
  obtain⟨k,hkn,hg,rfl,hz0,hB⟩:=hrel
  by_cases hlt:k<n
  ·have hd1:decide ((k:Int)<(n:Int))=true:=decide_eq_true (by omega)
   have i1:(0:Int)<=(k:Int):=by omega
   have i2:(k:Int)<(n:Int):=by omega
   have HSK:=lh9 (HS.out k hlt)
   have HAK:=lh9 (HA.out k hlt)
   obtain⟨ad,rfl,hc⟩:=HR.out.num k hlt
   have hc:=zae hB hc
   obtain⟨L,hL⟩:∃L,zs.getD k 0=L:=⟨_,rfl⟩
   rw [hL] at hc
   rw [hL] at HSK HAK
   obtain⟨b,hb9⟩:∃b,(!inB L m)=b:=⟨_,rfl⟩
   rw [hb9] at HSK HAK
   have HC:∀W,Below w.heap.size w W->Hid (Calls Tryz.prog 87 #[.int .i64 L,.pointer (some ⟨gc,0,none⟩)] W (λe w'=>e=.returned (.bool b)/\Below W.heap.size W w')):=λW hW=>by
    have q:=zmK (z:=L) (HK.out W hW)
    rw [hb9] at q
    exact q
   have HB:=lh9 hB
   clear hB hL
   cases b
   ·go_wp2_with fail
    refine(HC _ HB.out).out.mono ?_
    rintro e w3 ⟨rfl,hb⟩
    have HZ:Hid ((zs.take (k+1)).any (λz:Int=> !inB z m)=false):=by show _=_;rw [HSK.out,hz0.out];rfl
    have HB2:=lh9 (zac HB.out hb)
    clear hb hb9 hc HC
    go_wp2
    go_roundg (n - k)
    case measure=>omega
    case rel=>exact⟨k+1,by omega,by omega,by go_num,HZ,HB2.out⟩
   ·go_wp2_with fail
    refine(HC _ HB.out).out.mono ?_
    rintro e w3 ⟨rfl,hb⟩
    have HZ:=lh9 (HAK.out (by first|rfl|trivial))
    have HB2:=lh9 (zac HB.out hb)
    clear hb hb9 hc HC
    go_wp2
    go_ret
    exact⟨(k:Int),rfl,by rw [HZ.out];exact decide_eq_true (by omega),HB2.out⟩
  ·have hd1:decide ((k:Int)<(n:Int))=false:=decide_eq_false (by omega)
   have HF:Hid (zs.any (λz:Int=> !inB z m)=false):=by
    have h1:=hz0.out
    rw [List.take_of_length_le (by have:=HL.out;omega)] at h1
    exact h1
   have HB2:=lh9 hB
   clear hB
   go_wp2
   go_ret
   exact⟨-1,rfl,by rw [HF.out];rfl,HB2.out⟩
theorem zgR {gc q n m:Nat}{Q A:oA9}{n9 c9:Nat}{zs:List Int}{w:World}(h:zeB w Q n zs)(hk:Blk w gc 28 #[.slice A n9 c9,.int .i64 (m:Int)])(hn:n<=1048576):
  Calls Tryz.prog 88 #[.slice Q n q,.func (.func 87) #[] #[.pointer (some ⟨gc,0,none⟩)]] w (λe w'=>e=.returned (.bool (ziu zs m))/\Below w.heap.size w w'):=by
 have H:=lh9 (zjf (q:=q) h hk hn)
 obtain⟨b,hb⟩:∃b,ziu zs m=b:=⟨_,rfl⟩
 rw [hb] at H⊢
 clear h hk hb
 go_enter Tryz.func88,Tryz.ntmps88
 go_wp2_with fail
 refine H.out.mono ?_
 rintro e w1 ⟨k,rfl,hk,hb⟩
 have hk2:decide (0<=k)=b:=hk
 have HB:=lh9 hb
 clear hb
 go_wp2
 go_ret
 exact⟨rfl,HB.out⟩
section
variable {Q:oA9}{n q:Nat}{M:List (List Rat)}{z:Int}{w:World}
theorem zpj (h:zaH (zas zan) w Q n M)(hn:n<=1048576)(hno:zfK (n:Int) z=false\/badB M z=true):Calls Tryz.prog 45 #[.int .i64 z,.slice Q n q] w (zdI w):=by
 have hmf:=znh
 obtain⟨bx1,bx2,bx3,bx4,bz⟩:=zbm w 3 26 28 #[.int .i64 z] #[.slice Q n q] #[.slice none 0 0,.int .i64 0]
 have y0:=bx2.c1
 have y1:=bx3.c1
 by_cases hm:zfK (n:Int) z=true
 ·have hb:badB M z=true:=by
   rcases hno with h1|h1
   ·rw [hm] at h1;cases h1
   ·exact h1
  have H:=λW=>lh9 (zit hm W)
  have HC:=lh9 (zeV (q:=q) (h.below (zav zar) bx1) bx2 hn)
  rw [hb] at HC
  have HK:=lh9 bx4
  have HB:=lh9 bx1
  clear h hno bx1 bx2 bx3 bx4 bz hm hb
  go_enter Tryz.func45,Tryz.ntmps45
  go_wp2_with fail
  refine(H _).out.mono ?_
  rintro e w1 ⟨rfl,rfl⟩
  go_wp2_with fail
  refine HC.out.mono ?_
  rintro e w1 ⟨rfl,hb⟩
  have hk3:=zad hb HK.out
  obtain⟨sc0,sf0,sc1,sf1⟩:=st2 hk3 (.slice none 0 0)
  obtain⟨r0,r1⟩:=(sn2 hk3 (.slice none 0 0) (.int .i64 0)).c2
  have HG:=lh9 (gmn2 (g:=w.heap.size+1+1) (zac HB.out hb) (by omega))
  clear hb hk3 HK HB y0 y1
  go_wp2
  refine bodyPost_ret (v:=.tuple #[.agg #[.slice none 0 0,.int .i64 0],.bool false]) (by simp [results,Tryz.results45,go_sem,r0,r1]) rfl ?_
  exact HG.out
 ·have H:=λW=>lh9 (zit (by cases h:zfK (n:Int) z;rfl;exact absurd h hm) W)
  obtain⟨g0,g1⟩:=bx4.c2
  have HB:=lh9 bx1
  clear h hno bx1 bx2 bx3 bx4 bz hm
  go_enter Tryz.func45,Tryz.ntmps45
  go_wp2_with fail
  refine(H _).out.mono ?_
  rintro e w1 ⟨rfl,rfl⟩
  go_wp2
  refine bodyPost_ret (v:=.tuple #[.agg #[.slice none 0 0,.int .i64 0],.bool false]) (by simp [results,Tryz.results45,go_sem,g0,g1]) rfl ?_
  exact⟨rfl,HB.out⟩
theorem mat_of {m K:Nat}(hT:zao w)(h:zaH (zas zan) w Q n M)(hd:zcT M n m)(hn:n<=64)(hm:m<=64)(z:zaB K M)(hK:K+2<=67108864:=by omega):Calls Tryz.prog 45 #[.int .i64 (m:Int),.slice Q n q] w (zel w n m M):=by
 have hmf:=znh
 obtain⟨bx1,bx2,bx3,bx4,bz⟩:=zbm w 3 26 28 #[.int .i64 (m:Int)] #[.slice Q n q] #[.slice none 0 0,.int .i64 0]
 have H:=λW=>lh9 (zit (zis hn hm) W)
 have hc:=zeV (q:=q) (h.below (zav zar) bx1) bx2 (by omega)
 rw [dims_bad hd] at hc
 have HC:=lh9 hc
 have HM:Hid (∀W,Below w.heap.size w W->Blk W (w.heap.size+1) 26 #[.slice Q n q]->Calls Tryz.prog 52 #[.int .i64 (n:Int),.int .i64 (m:Int),.func (.func 86) #[] #[.pointer (some ⟨w.heap.size+1,0,none⟩)]] W (zca W n m M)):=λW hW hk=>by
  have hh:=h.below (zav zar) hW
  have q9:=zgz (K:=K) (atM M) 86 #[.pointer (some ⟨w.heap.size+1,0,none⟩)] n m W (hT.on hW) ⟨en_of2,λr c hr hc w' hb=>cl_of (hh.below (zav zar) hb) hd (zad hb hk) hr hc⟩ (λr c hr hc=>z.at_ hd hr hc) hn hm hK
  rw [hd.eq] at q9
  exact q9
 have HK:=lh9 bx4
 have HS:=lh9 bx3
 have HB:=lh9 bx1
 have y0:=bx2.c1
 have y1:=bx3.c1
 have hl0:=bx2.lt
 have HKI:=lh9 bx2
 clear bx1 bx2 bx3 bx4 bz hT h z hd hc
 go_enter Tryz.func45,Tryz.ntmps45
 go_wp2_with fail
 refine(H _).out.mono ?_
 rintro e w1 ⟨rfl,rfl⟩
 go_wp2_with fail
 refine HC.out.mono ?_
 rintro e w1 ⟨rfl,hb⟩
 have HB1:=lh9 (zac HB.out hb)
 have HK1:=lh9 (zad hb HK.out)
 have HS1:=lh9 (zad hb HS.out)
 have y0:=(zad hb HKI.out).c1
 have y1:=HS1.out.c1
 clear hb HB HK HS HKI HC H
 go_wp2_with fail
 refine(HM.out _ HB1.out HS1.out).mono ?_
 clear y0 y1
 rintro e w3 ⟨A3,c3,rfl,hm3,hf3,hb⟩
 have hk3:=zad hb HK1.out
 obtain⟨sc0,sf0,sc1,sf1⟩:=st2 hk3 (.slice A3 n c3)
 obtain⟨r0,r1⟩:=(sn2 hk3 (.slice A3 n c3) (.int .i64 (m:Int))).c2
 have HG:=lh9 (gmb2 hm3 (λad e=>Nat.lt_of_lt_of_le HK1.out.lt (hf3 ad e)) hk3 (zac HB1.out hb) (by omega))
 clear hb hk3 hm3 hf3 HK1 HB1 HM HS1
 go_wp2
 refine bodyPost_ret (v:=.tuple #[.agg #[.slice A3 n c3,.int .i64 (m:Int)],.bool true]) (by simp [results,Tryz.results45,go_sem,r0,r1]) rfl ?_
 exact HG.out
end
theorem ziX (M:List (List Rat))(v:List Rat):(zaN M v).length=M.length:=by simp [zaN]
theorem znP {M:List (List Rat)}{v:List Rat}{i:Nat}(h:i<M.length):(zaN M v)[i]?=some (zdY (M.getD i []) v):=by
 unfold zaN
 rw [List.getElem?_map,List.getD_eq_getElem?_getD,List.getElem?_eq_getElem h]
 rfl
theorem zcc {K K' k:Nat}{M:List (List Rat)}{v:List Rat}(z:zaB K M)(zv:zay K' v)(hd:∀L ∈ M,L.length=k)(hv:v.length=k):zay (1+k*(K+K'+1)) (zaN M v):=λx hx=>by
 obtain⟨L,hL,rfl⟩:=List.mem_map.1 hx
 exact dot_sz (hd L hL) hv (z L hL) zv
section
variable {K K':Nat}{w:World}
theorem zio {n k q c:Nat}{Q A:oA9}{Ls:List (List Rat)}{xs:List Rat}(hT:zao w)(h:zaH (zas zan) w Q n Ls)(hd:∀L ∈ Ls,L.length=k)(hv:zaM w A k c xs)(z:zaB K Ls)(zx:zay K' xs)(hn:n<=64:=by omega)(hk:k<=64:=by omega)(hK:K<=67108864:=by omega)(hK':K'<=67108864:=by omega)(hS:1+k*(K+K'+1)<=67108864:=by omega):
  Calls Tryz.prog 79 #[.slice Q n q,.slice A k c] w (zeZ w n (zaN Ls xs)):=by
 have hl:=h.len
 have HR:=lh9 h
 have HV:=lh9 hv
 have HT:=lh9 (λw' (hb:Below w.heap.size w w')=>hT.on hb)
 have HZ:Hid (∀i,i<n->zay K (Ls.getD i [])):=λi hi=>z.row (by omega)
 have HD:Hid (∀i,i<n->(Ls.getD i []).length=k):=λi hi=>hd _ (List.mem_of_getElem? (zdo (by omega)))
 have HX:=lh9 zx
 have HLZ:Hid ((zaN Ls xs).length=n):=by show _=_;rw [ziX];exact hl
 have HG:Hid (∀i,i<n->(zaN Ls xs)[i]?=some (zdY (Ls.getD i []) xs)):=λi hi=>znP (by omega)
 have HSS:=lh9 hS
 obtain⟨ys,hys⟩:∃ys,zaN Ls xs=ys:=⟨_,rfl⟩
 rw [hys] at HLZ HG⊢
 obtain⟨Z,hZ⟩:=zep n (by omega)
 have hmk:=λW=>(hZ W).1
 have HOWN:=lh9 (λW=>(hZ W).2)
 clear hT h hd hv z zx hl hys hZ hS
 unfold zeZ
 have i0:(0:Int)<=(n:Int):=by omega
 go_enter Tryz.func79,Tryz.ntmps79
 go_wp2_with fail
 clear hmk
 have hrow:=HOWN.out w
 have hB:Below w.heap.size w (w.alloc (.cells Z 48)):=(Below.refl _ w).alloc (Nat.le_refl _) _
 obtain⟨gp,hgp⟩:∃g,w.heap.size=g:=⟨_,rfl⟩
 have hwg:w.heap.size<=gp:=by omega
 rw [hgp] at hrow⊢
 rw [<-zbH 0 ys n] at hrow
 generalize w.alloc (.cells Z 48)=W1 at*
 clear hgp HOWN
 go_loopg [13] (n+1) (λg ix wr=>∃(k:Nat),k<=n/\n<g+k/\ix=.int .i64 k/\zcW wr gp n (zch 0 ys n k)/\Below w.heap.size w wr)
 case atStart=>exact⟨0,Nat.zero_le _,by omega,rfl,hrow,hB⟩
 case round=>
  clear hrow hB
  obtain⟨i,hkn,hg,rfl,hrow,hB⟩:=hrel
  by_cases hlt:i<n
  ·obtain⟨ad,B,d,rfl,-,hc,hvi⟩:=HR.out.get (zav zar) hB hlt (HD.out i hlt)
   have hd1:decide ((i:Int)<(n:Int))=true:=decide_eq_true (by omega)
   have i1:(0:Int)<=(i:Int):=by omega
   have i2:(i:Int)<(n:Int):=by omega
   have HROW:=lh9 hrow
   have HVI:=lh9 hvi
   have HB1:=lh9 hB
   clear hvi hrow hB
   go_wp2_with fail
   (with_reducible refine(vec_dot (HT.out _ HB1.out) HVI.out (HV.out.keep HB1.out) (HZ.out i hlt) HX.out (by omega) hK hK' HSS.out).mono ?_)
   rintro e w3 ⟨b3,A3,n3,c3,E3,k3,f3,rfl,hw3,hb⟩
   clear hc
   have hr3:=HROW.out.keep hb
   have hr4:=zbv.set_ zar hr3 hlt hw3
   rw [zbW 0 ys n i HLZ.out hlt _ (HG.out i hlt)] at hr4
   obtain⟨q0,q1,q2,sc0,sf0,sc1,sf1,sc2,sf2⟩:=hr3.ready hlt (.bool b3) (.slice A3 n3 c3)
   have HR4:=lh9 hr4
   have HB4:=lh9 (zcN (i*3) (i*3+1) (i*3+2) (.bool b3) (.slice A3 n3 c3) (.slice E3 k3 f3) hwg (zac HB1.out hb))
   clear hr3 hr4 hb hw3 HROW HB1 HVI
   go_wp2
   go_roundg (n - i)
   case measure=>omega
   case rel=>exact⟨i+1,by omega,by omega,by go_num,HR4.out,HB4.out⟩
  ·have hk9:i=n:=by omega
   subst hk9
   have hd1:decide ((i:Int)<(i:Int))=false:=by simp
   have HR5:=lh9 (zbV 0 ys i HLZ.out▸hrow)
   have HB1:=lh9 hB
   clear hrow hB
   go_wp2
   go_ret
   exact⟨gp,rfl,hwg,HR5.out,HB1.out⟩
variable {A:oA9}{n c m:Nat}{MM:List (List Rat)}
theorem znf {j:Nat}(h:zaE w A n c m MM)(hj:j<m):
  Calls Tryz.prog 66 #[.agg #[.slice A n c,.int .i64 (m:Int)],.int .i64 (j:Int)] w (zeZ w n (zcS n MM j)):=by
 obtain⟨hn,hm⟩:=And.intro h.hn h.hm
 have HR:=λW=>lh9 (zcy A n c (m:Int) W)
 have HM:=lh9 h
 have HLZ:Hid ((zcS n MM j).length=n):=zdr n MM j
 have HG:Hid (∀i,i<n->(zcS n MM j)[i]?=some (atM MM i j)):=λi hi=>by
  unfold zcS
  rw [List.getElem?_map,List.getElem?_range hi]
  rfl
 obtain⟨ys,hys⟩:∃ys,zcS n MM j=ys:=⟨_,rfl⟩
 rw [hys] at HLZ HG⊢
 obtain⟨Z,hZ⟩:=zep n (by omega)
 have hmk:=λW=>(hZ W).1
 have HOWN:=lh9 (λW=>(hZ W).2)
 obtain⟨bx1,bx2,bz⟩:=zaD w 28 #[.slice A n c,.int .i64 (m:Int)]
 obtain⟨g0,g1⟩:=bx2.c2
 have HB:=lh9 bx1
 have HK:=lh9 bx2
 clear h hys hZ bx1 bx2 bz
 unfold zeZ
 have i0:(0:Int)<=(n:Int):=by omega
 go_enter Tryz.func66,Tryz.ntmps66
 go_wp2_with fail
 refine(HR _).out.mono ?_
 rintro e w2 ⟨rfl,hb⟩
 have HB2:=lh9 (zac HB.out hb)
 have hk2:=zad hb HK.out
 have hb3:Below w2.heap.size w2 (w2.alloc (.cells Z 48)):=(Below.refl _ w2).alloc (Nat.le_refl _) _
 have hk3:=zad hb3 hk2
 obtain⟨g0,g1⟩:=hk3.c2
 have hsz:=hk2.lt
 clear hb hk2 hk3 HK HB HR
 go_wp2_with fail
 clear hmk g0 g1
 have hrow:=HOWN.out w2
 have hB:=zac HB2.out hb3
 obtain⟨gp,hgp⟩:∃g,w2.heap.size=g:=⟨_,rfl⟩
 have hwg:w.heap.size<=gp:=by omega
 rw [hgp] at hrow⊢
 rw [<-zbH 0 ys n] at hrow
 generalize w2.alloc (.cells Z 48)=W1 at*
 clear hgp HOWN HB2 hb3 hsz
 go_loopg [14] (n+1) (λg ix wr=>∃(k:Nat),k<=n/\n<g+k/\ix=.int .i64 k/\zcW wr gp n (zch 0 ys n k)/\Below w.heap.size w wr)
 case atStart=>exact⟨0,Nat.zero_le _,by omega,rfl,hrow,hB⟩
 case round=>
  clear hrow hB
  obtain⟨i,hkn,hg,rfl,hrow,hB⟩:=hrel
  by_cases hlt:i<n
  ·obtain⟨ad,B,d,rfl,-,hc,ae,b3,A3,n3,c3,E3,k3,f3,rfl,-,h0,h1,h2,hw3⟩:=HM.out.place hB hlt hj
   have hd1:decide ((i:Int)<(n:Int))=true:=decide_eq_true (by omega)
   have i1:(0:Int)<=(i:Int):=by omega
   have i2:(i:Int)<(n:Int):=by omega
   have i3:(0:Int)<=(j:Int):=by omega
   have i4:(j:Int)<(m:Int):=by omega
   have hr4:=zbv.set_ zar hrow hlt hw3
   rw [zbW 0 ys n i HLZ.out hlt _ (HG.out i hlt)] at hr4
   obtain⟨q0,q1,q2,sc0,sf0,sc1,sf1,sc2,sf2⟩:=hrow.ready hlt (.bool b3) (.slice A3 n3 c3)
   have HR4:=lh9 hr4
   have HB4:=lh9 (zcN (i*3) (i*3+1) (i*3+2) (.bool b3) (.slice A3 n3 c3) (.slice E3 k3 f3) hwg hB)
   clear hr4 hw3 hrow hB
   go_wp2
   go_roundg (n - i)
   case measure=>omega
   case rel=>exact⟨i+1,by omega,by omega,by go_num,HR4.out,HB4.out⟩
  ·have hk9:i=n:=by omega
   subst hk9
   have hd1:decide ((i:Int)<(i:Int))=false:=by simp
   have HR5:=lh9 (zbV 0 ys i HLZ.out▸hrow)
   have HB1:=lh9 hB
   clear hrow hB
   go_wp2
   go_ret
   exact⟨gp,rfl,hwg,HR5.out,HB1.out⟩
def zjq (w:World)(n:Nat)(Ls:List (List Rat))(e:Ending)(w':World):Prop:=∃g,e=.returned (.slice (some ⟨g,0,none⟩) n n)/\w.heap.size<=g/\zaZ (zas zan) w' 51 g n Ls/\Below w.heap.size w w'
theorem zhk (h:zaE w A n c m MM):
  Calls Tryz.prog 78 #[.agg #[.slice A n c,.int .i64 (m:Int)]] w (zjq w m (zbq n m MM)):=by
 obtain⟨hn,hm⟩:=And.intro h.hn h.hm
 have HM:=lh9 h
 have HLZ:Hid ((zbq n m MM).length=m):=zgM _ _ _
 have HLC:Hid (∀j,(zcS n MM j).length=n):=λj=>zdr n MM j
 have HG:Hid (∀j,j<m->(zbq n m MM)[j]?=some (zcS n MM j)):=λj hj=>ziU _ hj
 obtain⟨ys,hys⟩:∃ys,zbq n m MM=ys:=⟨_,rfl⟩
 rw [hys] at HLZ HG⊢
 obtain⟨Y,hY⟩:=zjI m (by omega)
 have hmk:=λW=>(hY W).1
 have HOWN:=lh9 (λW=>(hY W).2)
 obtain⟨bx1,bx2,bz⟩:=zaD w 28 #[.slice A n c,.int .i64 (m:Int)]
 obtain⟨g0,g1⟩:=bx2.c2
 have hBa:=(zaD (w.alloc (.cells #[.slice A n c,.int .i64 (m:Int)] 28)) 51 Y).1
 have hK:=zad hBa bx2
 have hB:=zac bx1 hBa
 clear h hys hY bx1 bx2 hBa
 unfold zjq
 have i0:(0:Int)<=(m:Int):=by omega
 go_enter Tryz.func78,Tryz.ntmps78
 go_wp2_with fail
 clear hmk g0 g1
 have hrow:=HOWN.out (w.alloc (.cells #[.slice A n c,.int .i64 (m:Int)] 28))
 have e1:(w.alloc (.cells #[.slice A n c,.int .i64 (m:Int)] 28)).heap.size=w.heap.size+1:=by simp
 rw [e1] at hrow
 rw [<-zbH [] ys m] at hrow
 generalize (w.alloc (.cells #[.slice A n c,.int .i64 (m:Int)] 28)).alloc (.cells Y 51)=W1 at*
 obtain⟨gb,hgb⟩:∃g,w.heap.size=g:=⟨_,rfl⟩
 have hwg:w.heap.size<=gb:=by omega
 rw [hgb] at hrow hK⊢
 clear e1 HOWN hgb bz
 go_loopg [10] (m+1) (λg ix wr=>∃(k:Nat),k<=m/\m<g+k/\ix=.int .i64 k/\zaZ (zas zan) wr 51 (gb+1) m (zch [] ys m k)/\Below w.heap.size w wr/\Blk wr gb 28 #[.slice A n c,.int .i64 (m:Int)])
 case atStart=>exact⟨0,Nat.zero_le _,by omega,rfl,hrow,hB,hK⟩
 case round=>
  clear hrow hB hK
  obtain⟨i,hkn,hg,rfl,hrow,hB,hK⟩:=hrel
  by_cases hlt:i<m
  ·have hd1:decide ((i:Int)<(m:Int))=true:=decide_eq_true (by omega)
   have i1:(0:Int)<=(i:Int):=by omega
   have i2:(i:Int)<(m:Int):=by omega
   obtain⟨g0,g1⟩:=hK.c2
   have HROW:=lh9 hrow
   have HB1:=lh9 hB
   have HK1:=lh9 hK
   have HGI:=lh9 (HG.out i hlt)
   clear hrow hB hK
   go_wp2_with fail
   (with_reducible refine(znf (HM.out.keep HB1.out) hlt).mono ?_)
   rintro e w5 ⟨g5,rfl,hg5,ho5,hb⟩
   clear g0 g1
   have hr5:=HROW.out.below (zav zar) hb
   have hr6:=zaZ.set_ (zav zar) hr5 hlt (zbI ho5) (HLC.out i)
   rw [zbW [] ys m i HLZ.out hlt _ HGI.out] at hr6
   obtain⟨q0,sc0,sf0⟩:=hr5.ready hlt
   have HR6:=lh9 hr6
   have HB6:=lh9 (zaf (p:=⟨gb+1,i,none⟩) (.slice (some ⟨g5,0,none⟩) n n) (show w.heap.size<=gb+1 by omega) (zac HB1.out hb))
   have HK6:=lh9 (Blk.far (p:=⟨gb+1,i,none⟩) (zad hb HK1.out) (by show gb≠gb+1;omega) (.slice (some ⟨g5,0,none⟩) n n))
   clear hr5 hr6 ho5 hb HROW HB1 HK1 HGI
   go_wp2
   go_roundg (m - i)
   case measure=>omega
   case rel=>exact⟨i+1,by omega,by omega,by go_num,HR6.out,HB6.out,HK6.out⟩
  ·have hk9:i=m:=by omega
   subst hk9
   have hd1:decide ((i:Int)<(i:Int))=false:=by simp
   have HR5:=lh9 (zbV [] ys i HLZ.out▸hrow)
   have HB1:=lh9 hB
   clear hrow hB hK
   go_wp2
   go_ret
   exact⟨gb+1,rfl,by omega,HR5.out,HB1.out⟩
variable {V:oA9}{k cv:Nat}{xs:List Rat}
theorem zkC (h:k≠m):Calls Tryz.prog 35 #[.agg #[.slice A n c,.int .i64 (m:Int)],.slice V k cv] w (zhC w):=by
 have e0:((k:Int) !=(m:Int))=true:=by rw [bne_iff_ne];omega
 obtain⟨bx1,bx2,bz⟩:=zaD w 28 #[.slice A n c,.int .i64 (m:Int)]
 obtain⟨g0,g1⟩:=bx2.c2
 have HB:=lh9 bx1
 clear h bx1 bx2 bz
 unfold zhC
 go_enter Tryz.func35,Tryz.ntmps35
 go_wp2
 go_ret2
 exact⟨rfl,HB.out⟩
theorem zjJ (hT:zao w)(h:zaE w A n c m MM)(hv:zaM w V m cv xs)(z:zaB K MM)(zx:zay K' xs)(hK:K<=67108864:=by omega)(hK':K'<=67108864:=by omega)(hS:1+m*(K+K'+1)<=67108864:=by omega):
  Calls Tryz.prog 35 #[.agg #[.slice A n c,.int .i64 (m:Int)],.slice V m cv] w (zdn w n (zaN MM xs)):=by
 have e0:((m:Int) !=(m:Int))=false:=by simp
 obtain⟨bx1,bx2,bz⟩:=zaD w 28 #[.slice A n c,.int .i64 (m:Int)]
 obtain⟨g0,g1⟩:=bx2.c2
 have HD:=lh9 (zio (q:=c) (hT.on bx1) (h.keep bx1).rows h.dims.cols (hv.keep bx1) z zx h.hn h.hm hK hK' hS)
 have HB:=lh9 bx1
 clear h bx1 bx2 bz hT hv z zx
 unfold zdn
 go_enter Tryz.func35,Tryz.ntmps35
 go_wp2_with fail
 refine HD.out.mono ?_
 rintro e w5 ⟨g5,rfl,hg5,ho5,hb⟩
 have HG:=lh9 (And.intro (Nat.le_trans HB.out.size hg5) (And.intro ho5 (zac HB.out hb)))
 clear g0 g1 hg5 ho5 hb
 go_wp2
 go_ret2
 exact⟨g5,rfl,HG.out⟩
theorem zpi (h:k≠n):Calls Tryz.prog 37 #[.agg #[.slice A n c,.int .i64 (m:Int)],.slice V k cv] w (zhC w):=by
 have e0:((k:Int) !=(n:Int))=true:=by rw [bne_iff_ne];omega
 have HR:=λW=>lh9 (zcy A n c (m:Int) W)
 obtain⟨bx1,bx2,bz⟩:=zaD w 28 #[.slice A n c,.int .i64 (m:Int)]
 obtain⟨g0,g1⟩:=bx2.c2
 have HB:=lh9 bx1
 clear h bx1 bx2 bz
 unfold zhC
 go_enter Tryz.func37,Tryz.ntmps37
 go_wp2_with fail
 refine(HR _).out.mono ?_
 rintro e w2 ⟨rfl,hb⟩
 have HB2:=lh9 (zac HB.out hb)
 clear hb g0 g1
 go_wp2
 go_ret2
 exact⟨rfl,HB2.out⟩
theorem mat_by (hT:zao w)(h:zaE w A n c m MM)(hv:zaM w V n cv xs)(z:zaB K MM)(zx:zay K' xs)(hK:K<=67108864:=by omega)(hK':K'<=67108864:=by omega)(hS:1+n*(K+K'+1)<=67108864:=by omega):
  Calls Tryz.prog 37 #[.agg #[.slice A n c,.int .i64 (m:Int)],.slice V n cv] w (zdn w m (zaN (zbq n m MM) xs)):=by
 have e0:((n:Int) !=(n:Int))=false:=by simp
 have HR:=λW=>lh9 (zcy A n c (m:Int) W)
 obtain⟨bx1,bx2,bz⟩:=zaD w 28 #[.slice A n c,.int .i64 (m:Int)]
 obtain⟨g0,g1⟩:=bx2.c2
 have HC:=lh9 (λW (hb:Below w.heap.size w W)=>zhk (h.keep hb))
 have HD:=lh9 (λW (Q:oA9) (q:Nat) (hb:Below w.heap.size w W) (hr:zaH (zas zan) W Q m (zbq n m MM))=>zio (q:=q) (hT.on hb) hr (zbQ n m MM).cols (hv.keep hb) (z.turn h.dims) zx h.hm h.hn hK hK' hS)
 have HB:=lh9 bx1
 have HK:=lh9 bx2
 clear h bx1 bx2 bz hT hv z zx
 unfold zdn
 go_enter Tryz.func37,Tryz.ntmps37
 go_wp2_with fail
 refine(HR _).out.mono ?_
 rintro e w2 ⟨rfl,hb⟩
 have HB2:=lh9 (zac HB.out hb)
 obtain⟨g0,g1⟩:=(zad hb HK.out).c2
 clear hb HB
 go_wp2_with fail
 refine(HC.out _ HB2.out).mono ?_
 rintro e w3 ⟨g3,rfl,hg3,ho3,hb⟩
 have HB3:=lh9 (zac HB2.out hb)
 have HO:=lh9 ho3.rows
 clear hb HB2 ho3 g0 g1
 go_wp2_with fail
 refine(HD.out _ _ _ HB3.out HO.out).mono ?_
 rintro e w5 ⟨g5,rfl,hg5,ho5,hb⟩
 have HG:=lh9 (And.intro (Nat.le_trans HB3.out.size hg5) (And.intro ho5 (zac HB3.out hb)))
 clear hg5 ho5 hb
 go_wp2
 go_ret2
 exact⟨g5,rfl,HG.out⟩
end
