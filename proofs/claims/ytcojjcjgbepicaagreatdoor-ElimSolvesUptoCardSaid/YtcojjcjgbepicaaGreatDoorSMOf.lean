/- What this claim leans on. -/
import Derived.Test.YtcojjcjgbepicaaGreatDoorSENext
namespace Go.Proofs.YtcojjcjgbepicaaGreatDoor
open Go Go.RowKit
set_option maxHeartbeats 16000000
set_option maxRecDepth 100000
set_option linter.unusedVariables false
set_option linter.unusedSimpArgs false
def badB (M:List (List Rat))(z:Int):Bool:=M.any λL=> !decide (((L.length:Nat):Int)=z)
theorem any_succ {α:Type}(p:α->Bool)(xs:List α)(d:α)(k:Nat)(h:k<xs.length):(xs.take (k+1)).any p=((xs.take k).any p||p (xs.getD k d)):=by
 rw [List.take_succ_eq_append_getElem h,List.any_append,List.getD_eq_getElem?_getD,List.getElem?_eq_getElem h]
 simp
theorem any_at {α:Type}(p:α->Bool)(xs:List α)(d:α)(k:Nat)(h:k<xs.length)(hp:p (xs.getD k d)=true):xs.any p=true:=by
 refine List.any_eq_true.2 ⟨xs.getD k d,?_,hp⟩
 rw [List.getD_eq_getElem?_getD,List.getElem?_eq_getElem h]
 exact List.getElem_mem h
theorem dims_bad {M:List (List Rat)}{n m:Nat}(h:zbh M n m):badB M (m:Int)=false:=by
 unfold badB
 refine List.any_eq_false.2 λL hL=>?_
 have:=h.cols L hL
 simp
 omega
theorem zkE {gc q n:Nat}{Q:oA9}{M:List (List Rat)}{z:Int}{w:World}(h:zaz (zaM zah) w Q n M)(hk:Blk w gc 3 #[.int .i64 z])(hn:n<=1048576):
  Calls Tryz.prog 174 #[.slice Q n q,.func (.func 125) #[] #[.pointer (some ⟨gc,0,none⟩)]] w (λe w'=>∃k:Int,e=.returned (.int .i64 k)/\decide (k>=0)=badB M z/\Below w.heap.size w w'):=by
 have hl:=h.len
 have HL:=lh9 hl
 have HR:=lh9 h
 have HK:=lh9 (λw' (hb:Below w.heap.size w w')=>zab hb hk)
 have hEn:=en_of1
 have hB:=Below.refl w.heap.size w
 have HS:Hid (∀k,k<n->(M.take (k+1)).any (λL:List Rat=> !decide (((L.length:Nat):Int)=z))=((M.take k).any (λL:List Rat=> !decide (((L.length:Nat):Int)=z))||(λL:List Rat=> !decide (((L.length:Nat):Int)=z)) (M.getD k []))):=λk hk=>any_succ (λL:List Rat=> !decide (((L.length:Nat):Int)=z)) M [] k (by omega)
 have HA:Hid (∀k,k<n->(λL:List Rat=> !decide (((L.length:Nat):Int)=z)) (M.getD k [])=true->M.any (λL:List Rat=> !decide (((L.length:Nat):Int)=z))=true):=λk hk=>any_at (λL:List Rat=> !decide (((L.length:Nat):Int)=z)) M [] k (by omega)
 have i0:(0:Int)<=(n:Int):=by omega
 clear h hk hl
 unfold badB
 go_enter Tryz.func174,Tryz.ntmps174
 go_wp2_with fail
 go_loopg [8] (n+1) (λg ix wr=>∃(k:Nat),k<=n/\n<g+k/\ix=.int .i64 k/\Hid ((M.take k).any (λL:List Rat=> !decide (((L.length:Nat):Int)=z))=false)/\Below w.heap.size w wr)
 case atStart=>exact⟨0,Nat.zero_le _,by omega,rfl,rfl,hB⟩
 case round=>
  clear hB
  obtain⟨k,hkn,hg,rfl,hz0,hB⟩:=hrel
  by_cases hlt:k<n
  ·have hd1:decide ((k:Int)<(n:Int))=true:=decide_eq_true (by omega)
   have i1:(0:Int)<=(k:Int):=by omega
   have i2:(k:Int)<(n:Int):=by omega
   have HSK:=lh9 (HS.out k hlt)
   have HAK:=lh9 (HA.out k hlt)
   obtain⟨ad,B,d,rfl,-,hc,-⟩:=HR.out.get (zam zaf) hB hlt rfl
   obtain⟨L,hL⟩:∃L,M.getD k []=L:=⟨_,rfl⟩
   rw [hL] at hc
   rw [hL] at HSK HAK
   obtain⟨b,hb9⟩:∃b,(!decide (((L.length:Nat):Int)=z))=b:=⟨_,rfl⟩
   rw [hb9] at HSK HAK
   have HC:∀W,Below w.heap.size w W->Hid (Calls Tryz.prog 125 #[.slice B L.length d,.pointer (some ⟨gc,0,none⟩)] W (λe w'=>e=.returned (.bool b)/\Below W.heap.size W w')):=λW hW=>by
    have q:=zoB (V:=B) (cv:=d) (k:=L.length) (HK.out W hW)
    rw [hb9] at q
    exact q
   have HB:=lh9 hB
   clear hB hL
   cases b
   ·go_wp2_with fail
    refine(HC _ HB.out).out.mono ?_
    rintro e w3 ⟨rfl,hb⟩
    have HZ:Hid ((M.take (k+1)).any (λL:List Rat=> !decide (((L.length:Nat):Int)=z))=false):=by show _=_;rw [HSK.out,hz0.out];rfl
    have HB2:=lh9 (zaa HB.out hb)
    clear hb hb9 hc HC
    go_wp2
    go_roundg (n - k)
    case measure=>omega
    case rel=>exact⟨k+1,by omega,by omega,by go_num,HZ,HB2.out⟩
   ·go_wp2_with fail
    refine(HC _ HB.out).out.mono ?_
    rintro e w3 ⟨rfl,hb⟩
    have HZ:=lh9 (HAK.out (by first|rfl|trivial))
    have HB2:=lh9 (zaa HB.out hb)
    clear hb hb9 hc HC
    go_wp2
    go_ret
    exact⟨(k:Int),rfl,by rw [HZ.out];exact decide_eq_true (by omega),HB2.out⟩
  ·have hd1:decide ((k:Int)<(n:Int))=false:=decide_eq_false (by omega)
   have HF:Hid (M.any (λL:List Rat=> !decide (((L.length:Nat):Int)=z))=false):=by
    have h1:=hz0.out
    rw [List.take_of_length_le (by have:=HL.out;omega)] at h1
    exact h1
   have HB2:=lh9 hB
   clear hB
   go_wp2
   go_ret
   exact⟨-1,rfl,by rw [HF.out];rfl,HB2.out⟩
theorem zhM {gc q n:Nat}{Q:oA9}{M:List (List Rat)}{z:Int}{w:World}(h:zaz (zaM zah) w Q n M)(hk:Blk w gc 3 #[.int .i64 z])(hn:n<=1048576):
  Calls Tryz.prog 126 #[.slice Q n q,.func (.func 125) #[] #[.pointer (some ⟨gc,0,none⟩)]] w (λe w'=>e=.returned (.bool (badB M z))/\Below w.heap.size w w'):=by
 have H:=lh9 (zkE (q:=q) h hk hn)
 obtain⟨b,hb⟩:∃b,badB M z=b:=⟨_,rfl⟩
 rw [hb] at H⊢
 clear h hk hb
 go_enter Tryz.func126,Tryz.ntmps126
 go_wp2_with fail
 refine H.out.mono ?_
 rintro e w1 ⟨k,rfl,hk,hb⟩
 have hk2:decide (0<=k)=b:=hk
 have HB:=lh9 hb
 clear hb
 go_wp2
 go_ret
 exact⟨rfl,HB.out⟩
section
variable {Q:oA9}{n q:Nat}{M:List (List Rat)}{z:Int}{w:World}
theorem zkH {m K:Nat}(hT:zaj w)(h:zaz (zaM zah) w Q n M)(hd:zbh M n m)(hn:n<=64)(hm:m<=64)(z:zaD K M)(hK:K+2<=67108864:=by omega):Calls Tryz.prog 57 #[.int .i64 (m:Int),.slice Q n q] w (zem w n m M):=by
 have hmf:=mat_mf
 obtain⟨bx1,bx2,bx3,bx4,bz⟩:=zbA w 3 30 32 #[.int .i64 (m:Int)] #[.slice Q n q] #[.slice none 0 0,.int .i64 0]
 have H:=λW=>lh9 (may_of (zlS hn hm) W)
 have hc:=zhM (q:=q) (h.below (zam zaf) bx1) bx2 (by omega)
 rw [dims_bad hd] at hc
 have HC:=lh9 hc
 have HM:Hid (∀W,Below w.heap.size w W->Blk W (w.heap.size+1) 30 #[.slice Q n q]->Calls Tryz.prog 71 #[.int .i64 (n:Int),.int .i64 (m:Int),.func (.func 127) #[] #[.pointer (some ⟨w.heap.size+1,0,none⟩)]] W (zcS W n m M)):=λW hW hk=>by
  have hh:=h.below (zam zaf) hW
  have q9:=zlR (K:=K) (atM M) 127 #[.pointer (some ⟨w.heap.size+1,0,none⟩)] n m W (hT.on hW) ⟨en_of2,λr c hr hc w' hb=>cl_of (hh.below (zam zaf) hb) hd (zab hb hk) hr hc⟩ (λr c hr hc=>z.at_ hd hr hc) hn hm hK
  rw [hd.eq] at q9
  exact q9
 have HK:=lh9 bx4
 have HS:=lh9 bx3
 have HB:=lh9 bx1
 have y0:=bx2.c1
 have y1:=bx3.c1
 have hl0:=bx2.lt
 have HKI:=lh9 bx2
 clear bx1 bx2 bx3 bx4 bz hT h z hd hc
 go_enter Tryz.func57,Tryz.ntmps57
 go_wp2_with fail
 refine(H _).out.mono ?_
 rintro e w1 ⟨rfl,rfl⟩
 go_wp2_with fail
 refine HC.out.mono ?_
 rintro e w1 ⟨rfl,hb⟩
 have HB1:=lh9 (zaa HB.out hb)
 have HK1:=lh9 (zab hb HK.out)
 have HS1:=lh9 (zab hb HS.out)
 have y0:=(zab hb HKI.out).c1
 have y1:=HS1.out.c1
 clear hb HB HK HS HKI HC H
 go_wp2_with fail
 refine(HM.out _ HB1.out HS1.out).mono ?_
 clear y0 y1
 rintro e w3 ⟨A3,c3,rfl,hm3,hf3,hb⟩
 have hk3:=zab hb HK1.out
 obtain⟨sc0,sf0,sc1,sf1⟩:=st2 hk3 (.slice A3 n c3)
 obtain⟨r0,r1⟩:=(sn2 hk3 (.slice A3 n c3) (.int .i64 (m:Int))).c2
 have HG:=lh9 (gmb2 hm3 (λad e=>Nat.lt_of_lt_of_le HK1.out.lt (hf3 ad e)) hk3 (zaa HB1.out hb) (by omega))
 clear hb hk3 hm3 hf3 HK1 HB1 HM HS1
 go_wp2
 refine bodyPost_ret (v:=.tuple #[.agg #[.slice A3 n c3,.int .i64 (m:Int)],.bool true]) (by simp [results,Tryz.results57,go_sem,r0,r1]) rfl ?_
 exact HG.out
end
section
variable {w w':World}{g:Nat}{st:ESt}{rd:Rat}{A:oA9}{n cA:Nat}{B:oA9}{k cB:Nat}{x0 x1 x2 y0 y1 y2:Value}
theorem zoO {K m c:Nat}{a0:Nat->Nat->Rat}(hT:zaj w)(hE:ElS w g st rd A n cA B k cB x0 x1 x2 y0 y1 y2)(hok:EOk n m c a0 st)(ha:∀i,i<n->∀j,j<m->LI K (a0 i j))(hc:c<m)(hn:n<=64)(hm:m<=128)(hgt:0<g)(hK:260*K+269<=33554432:=by omega):
  Calls Tryz.prog 137 #[.pointer (some ⟨g,0,none⟩),.int .i64 (c:Int)] w (zie w g n (zfn c st) rd):=by
 by_cases hb:zbd c st<st.S.length - st.ld.length
 ·exact zjq hT hE hok ha hc hn hm hgt hb hK
 ·exact zkz hT hE hok ha hc hn hb hK
theorem ElS.grownA (h:ElS w g st rd A n cA B k cB x0 x1 x2 y0 y1 y2)(hg:w.grownBy w' (Value.slice A n cA).ownBlock):Blk w' g 117 #[.slice A n cA,.slice B k cB,x0,x1,x2,y0,y1,y2]/\zfQ w' g (.slice B k cB) st.ld/\RV w' st.p x0 x1 x2/\RV w' rd y0 y1 y2:=by
 cases hv:(Value.slice A n cA).ownBlock with
 |none=>
   rw [hv] at hg
   have:=h.below (zbk hg)
   exact⟨this.blk,this.lds,this.lead,this.rsd⟩
 |some q=>
   rw [hv] at hg
   obtain⟨hqg,cs,hk,hs⟩:=h.neA hv
   have ho:=zbe.of_grown hg
   refine⟨(hg.block g h.blk.lt (λe=>hqg (by injection e with e;exact e.symm))).trans h.blk,h.lds.off (λq2 s ds hq2 hk2=>?_),h.lead.off hk (zfv hs) ho,h.rsd.off hk (zfv hs) ho⟩
   obtain⟨_,ds',h1,_⟩:=h.neB hq2
   exact(hg.block q2 hk2.lt (λe=>by injection e with e;subst e;exact absurd (zcV h1 hk) (by decide))).trans hk2
theorem ElS.growRow {m d:Nat}{C:oA9}{L:List Rat}{v':Value}{vs:List Value}(h:ElS w g st rd A n cA B k cB x0 x1 x2 y0 y1 y2)(hr:zbj (VZ g) w g 71 (.slice A n cA) st.S vs)(hg:w.grownBy w' (Value.slice A n cA).ownBlock)(ho:w'.ownsRow g 71 1 v' (n+1) (vs++[.slice C m d]))(hp:zbM w' v')(hx:VZ g w C m d L)(hm:L.length=m):∃A' cA',v'=.slice A' (n+1) cA'/\ElS (w'.setCell ⟨g,0,none⟩ v') g {st with S:=st.S++[L]} rd A' (n+1) cA' B k cB x0 x1 x2 y0 y1 y2:=by
 obtain⟨h1,h2,h3,h4⟩:=h.grownA hg
 have hl:=hr.grow (zcq g) hx hm ho (by rw [h.hn]) hg hp
 have hlen:(st.S++[L]).length=n+1:=by rw [List.length_append,h.hn];rfl
 obtain⟨A',cA',e,-⟩:=hl.shape hlen
 subst e
 refine⟨A',cA',rfl,?_⟩
 have hne:∀q,(Value.slice A' (n+1) cA').ownBlock=some q->q≠g:=λq hq=>by
  rcases ho.2 with⟨h5,_⟩|⟨g',cap,cur,e1,e2,e3,_⟩
  ·rw [h5] at hq;cases hq
  ·rw [e1] at hq
   simp [Value.ownBlock] at hq
   subst hq
   intro e
   exact absurd (zcV e3 (e▸h1)) (by decide)
 have hneB:∀q,(Value.slice B k cB).ownBlock=some q->q≠g:=λq hq=>(h.neB hq).1
 have hnok:=h.nok
 have hof:zbe g w' (w'.setCell ⟨g,0,none⟩ (.slice A' (n+1) cA')):=zbe.of_far ((zba.refl g w').set_ 0 _)
 exact {
  blk:=h1.set_ 0 _
  hn:=hlen
  hk:=h.hk
  rows:=⟨_,hl.off (λq s cs hq hk=>Blk.far (p:=⟨g,0,none⟩) hk (hne q hq) _) (λhx=>zli hx h1 hnok hof)⟩
  lds:=h2.off λq s cs hq hk=>Blk.far (p:=⟨g,0,none⟩) hk (hneB q hq) _
  lead:=h3.off h1 hnok hof
  rsd:=h4.off h1 hnok hof}
theorem ElS.newRd {r:Rat}{z0 z1 z2:Value}(h:ElS w g st rd A n cA B k cB x0 x1 x2 y0 y1 y2)(hp:RV w r z0 z1 z2):ElS (((w.setCell ⟨g,5,none⟩ z0).setCell ⟨g,6,none⟩ z1).setCell ⟨g,7,none⟩ z2) g st r A n cA B k cB x0 x1 x2 z0 z1 z2:=
 h.store ((((zba.refl g w).set_ 5 z0).set_ 6 z1).set_ 7 z2) (((h.blk.set_ 5 z0).set_ 6 z1).set_ 7 z2) h.lead hp λq s cs hq hk=>Blk.far (p:=⟨g,7,none⟩) (Blk.far (p:=⟨g,6,none⟩) (Blk.far (p:=⟨g,5,none⟩) hk hq z0) hq z1) hq z2
theorem ElS.new {b1 b2:Bool}{A1 A2 E1 E2:oA9}{n1 c1 k1 f1 n2 c2 k2 f2:Nat}(w:World)(h1:zah w 1 b1 A1 n1 c1 E1 k1 f1)(h2:zah w 1 b2 A2 n2 c2 E2 k2 f2):ElS (w.alloc (.cells #[.slice none 0 0,.slice none 0 0,.bool b1,.slice A1 n1 c1,.slice E1 k1 f1,.bool b2,.slice A2 n2 c2,.slice E2 k2 f2] 117)) w.heap.size ⟨[],[],1⟩ 1 none 0 0 none 0 0 (.bool b1) (.slice A1 n1 c1) (.slice E1 k1 f1) (.bool b2) (.slice A2 n2 c2) (.slice E2 k2 f2):=by
 obtain⟨hb,hk,-⟩:=zaw w 117 #[.slice none 0 0,.slice none 0 0,.bool b1,.slice A1 n1 c1,.slice E1 k1 f1,.bool b2,.slice A2 n2 c2,.slice E2 k2 f2]
 exact{blk:=hk,hn:=rfl,hk:=rfl,rows:=⟨[],zbj.nil _ _ _⟩,lds:=zfQ.nil _ _,lead:=RV.of (h1.below hb),rsd:=RV.of (h2.below hb)}
def zbg (M:List (List Rat)):List (List Rat):=M.map λrow=>zaH (zaJ row) row
def zbs (M:List (List Rat)):Rat:=M.foldl (λr row=>r*zaJ row) 1
theorem zmt {M:List (List Rat)}{i:Nat}(h:i<M.length):zbg (M.take (i+1))=zbg (M.take i)++[zaH (zaJ (M.getD i [])) (M.getD i [])]:=by
 unfold zbg
 rw [List.take_succ_eq_append_getElem h,List.map_append,List.getD_eq_getElem?_getD,List.getElem?_eq_getElem h];rfl
theorem zhF {M:List (List Rat)}{i:Nat}(h:i<M.length):zbs (M.take (i+1))=zbs (M.take i)*zaJ (M.getD i []):=by
 unfold zbs
 rw [List.take_succ_eq_append_getElem h,List.foldl_append,List.getD_eq_getElem?_getD,List.getElem?_eq_getElem h];rfl
theorem zhH {M:List (List Rat)}{n m:Nat}(h:zbh M n m):zbh (zbg M) n m:=⟨by unfold zbg;rw [List.length_map];exact h.rows,λL hL=>by
 unfold zbg at hL
 obtain⟨row,hr,rfl⟩:=List.mem_map.1 hL
 exact zbn (h.cols row hr)⟩
theorem zki {M:List (List Rat)}{n m:Nat}(h:zbh M n m){i:Nat}(hi:i<n)(j:Nat):atM (zbg M) i j=zaJ (M.getD i [])*atM M i j:=by
 have hl:=h.rows
 unfold atM zbg
 rw [List.getD_eq_getElem?_getD (l:=List.map _ _),List.getElem?_map,zbF (d:=[]) (by omega)]
 exact zeu j
structure zbT (K:Nat)(M:List (List Rat)):Prop where
 q:∀row ∈ M,LI K (zaJ row)
 x:∀row ∈ M,∀x ∈ row,LI K (zaJ row*x)
theorem zbT.at_ {K n m:Nat}{M:List (List Rat)}(h:zbT K M)(hd:zbh M n m):∀i,i<n->∀j,j<m->LI K (atM (zbg M) i j):=λi hi j hj=>by
 rw [zki hd hi]
 have hl:=hd.rows
 have hr:=hd.row hi
 have h1:M.getD i [] ∈ M:=List.mem_of_getElem? (zbF (by omega))
 refine h.x _ h1 _ ?_
 unfold atM
 exact List.mem_of_getElem? (zbF (d:=0) (by omega))
theorem zhl {K:Nat}{M:List (List Rat)}(h:zbT K M):∀i,i<=M.length->LI (1+i*K) (zbs (M.take i))
 |0,_=>by rw [Nat.zero_mul];exact LI.one
 |i+1,hi=>by
   rw [zhF (by omega)]
   exact((zhl h i (by omega)).mul (h.q _ (List.mem_of_getElem? (zbF (by omega))))).up (by rw [Nat.succ_mul];omega)
end
