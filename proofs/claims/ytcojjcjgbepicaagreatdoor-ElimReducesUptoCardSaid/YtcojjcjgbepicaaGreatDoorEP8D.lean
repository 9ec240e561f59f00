/- What this claim leans on. -/
import Derived.Test.YtcojjcjgbepicaaGreatDoorEENext
import Derived.Test.YtcojjcjgbepicaaGreatDoorEMGrid
namespace Go.Proofs.YtcojjcjgbepicaaGreatDoor
open Go Go.RowKit
set_option maxHeartbeats 16000000
set_option linter.unusedVariables false
theorem ratC {T:World->Prop}{M:Nat->Prop}(hTT:∀w,T w->zaj w)(h0:M 0->RatG0 T)(h1:M 1->RatG1 T)(h2:M 2->RatG2 T):RatC T M where
 g0:=h0
 g1:=h1
 g2:=h2
 new p q b b' A D n m c d w hT hA hD hn hm h0:=zon p q b A n c b' D m d w (hTT w hT) hA hD hn hm h0
 newNo p q b b' A D n m c d w hT hA hD hn hm h0:=ziL p q b A n c b' D m d w (hTT w hT) hA hD hn hm h0
 of p q w hT h1 h2 h3 h4 h0:=rat_of p q w (hTT w hT) h1 h2 h3 h4 h0
 ofNo p q w hT h1 h2 h0:=zpv p q w (hTT w hT) h1 h2 (by omega) (by omega) h0
 num r b A n c E k f w hT h hf:=zkP r b A n c E k f w (hTT w hT) h hf
 den r b A n c E k f w hT h hf:=zkL r b A n c E k f w (hTT w hT) h hf
 sign r b A n c E k f w hT h hf:=ziM r b A n c E k f w (hTT w hT) h hf
 zero r b A n c E k f w hT h hf:=zaT r b A n c E k f w (hTT w hT) h hf
 isInt r b A n c E k f w hT h hf:=zbl r b A n c E k f w (hTT w hT) h hf
 bits r b A n c E k f w hT h hf:=rat_bits r b A n c E k f w (hTT w hT) h hf
 neg r b A n c E k f w hT h hf:=zhU r b A n c E k f w (hTT w hT) h hf
 inv r b A n c E k f w hT h hf h0:=zhT r b A n c E k f w (hTT w hT) h hf h0
 invNo r b A n c E k f w hT h hf h0:=znw r b A n c E k f w (hTT w hT) h hf h0
 add r s b b' A A' n n' c c' E E' k k' f f' w hT h h' hf hf':=zkI r s b A n c E k f b' A' n' c' E' k' f' w (hTT w hT) h h' hf hf'
 cmp r s b b' A A' n n' c c' E E' k k' f f' w hT h h' hf hf':=zol r s b A n c E k f b' A' n' c' E' k' f' w (hTT w hT) h h' hf hf'
 same r s b b' A A' n n' c c' E E' k k' f f' w hT h h' hf hf':=zlY r s b A n c E k f b' A' n' c' E' k' f' w (hTT w hT) h h' hf hf'
set_option maxRecDepth 100000
set_option linter.unusedSimpArgs false
section
variable {K K':Nat}{w:World}
variable {A:oA9}{n c m:Nat}{MM:List (List Rat)}
def zfy (w:World)(n:Nat)(Ls:List (List Rat))(e:Ending)(w':World):Prop:=∃g,e=.returned (.slice (some ⟨g,0,none⟩) n n)/\w.heap.size<=g/\zaZ (zaN zai) w' 71 g n Ls/\Below w.heap.size w w'
variable {V:oA9}{k cv:Nat}{xs:List Rat}
end
section
variable {w w':World}{g:Nat}{st:ESt}{rd:Rat}{A:oA9}{n cA:Nat}{B:oA9}{k cB:Nat}{x0 x1 x2 y0 y1 y2:Value}
theorem zoP {K m c:Nat}{a0:Nat->Nat->Rat}(hT:zaj w)(hE:ElS w g st rd A n cA B k cB x0 x1 x2 y0 y1 y2)(hok:EOk n m c a0 st)(ha:∀i,i<n->∀j,j<m->LI K (a0 i j))(hc:c<m)(hn:n<=64)(hm:m<=128)(hgt:0<g)(hK:260*K+269<=33554432:=by omega):
  Calls Tryz.prog 137 #[.pointer (some ⟨g,0,none⟩),.int .i64 (c:Int)] w (zhZ w g n (zfj c st) rd):=by
 by_cases hb:zbc c st<st.S.length - st.ld.length
 ·exact zjj hT hE hok ha hc hn hm hgt hb hK
 ·exact zkm hT hE hok ha hc hn hb hK
theorem ElS.grownA (h:ElS w g st rd A n cA B k cB x0 x1 x2 y0 y1 y2)(hg:w.grownBy w' (Value.slice A n cA).ownBlock):Blk w' g 117 #[.slice A n cA,.slice B k cB,x0,x1,x2,y0,y1,y2]/\zfM w' g (.slice B k cB) st.ld/\RV w' st.p x0 x1 x2/\RV w' rd y0 y1 y2:=by
 cases hv:(Value.slice A n cA).ownBlock with
 |none=>
   rw [hv] at hg
   have:=h.below (zbj hg)
   exact⟨this.blk,this.lds,this.lead,this.rsd⟩
 |some q=>
   rw [hv] at hg
   obtain⟨hqg,cs,hk,hs⟩:=h.neA hv
   have ho:=zbe.of_grown hg
   refine⟨(hg.block g h.blk.lt (λe=>hqg (by injection e with e;exact e.symm))).trans h.blk,h.lds.off (λq2 s ds hq2 hk2=>?_),h.lead.off hk (zfq hs) ho,h.rsd.off hk (zfq hs) ho⟩
   obtain⟨_,ds',h1,_⟩:=h.neB hq2
   exact(hg.block q2 hk2.lt (λe=>by injection e with e;subst e;exact absurd (zcT h1 hk) (by decide))).trans hk2
theorem ElS.growRow {m d:Nat}{C:oA9}{L:List Rat}{v':Value}{vs:List Value}(h:ElS w g st rd A n cA B k cB x0 x1 x2 y0 y1 y2)(hr:zbh (VZ g) w g 71 (.slice A n cA) st.S vs)(hg:w.grownBy w' (Value.slice A n cA).ownBlock)(ho:w'.ownsRow g 71 1 v' (n+1) (vs++[.slice C m d]))(hp:zbI w' v')(hx:VZ g w C m d L)(hm:L.length=m):∃A' cA',v'=.slice A' (n+1) cA'/\ElS (w'.setCell ⟨g,0,none⟩ v') g {st with S:=st.S++[L]} rd A' (n+1) cA' B k cB x0 x1 x2 y0 y1 y2:=by
 obtain⟨h1,h2,h3,h4⟩:=h.grownA hg
 have hl:=hr.grow (zcq g) hx hm ho (by rw [h.hn]) hg hp
 have hlen:(st.S++[L]).length=n+1:=by rw [List.length_append,h.hn];rfl
 obtain⟨A',cA',e,-⟩:=hl.shape hlen
 subst e
 refine⟨A',cA',rfl,?_⟩
 have hne:∀q,(Value.slice A' (n+1) cA').ownBlock=some q->q≠g:=λq hq=>by
  rcases ho.2 with⟨h5,_⟩|⟨g',cap,cur,e1,e2,e3,_⟩
  ·rw [h5] at hq;cases hq
  ·rw [e1] at hq
   simp [Value.ownBlock] at hq
   subst hq
   intro e
   exact absurd (zcT e3 (e▸h1)) (by decide)
 have hneB:∀q,(Value.slice B k cB).ownBlock=some q->q≠g:=λq hq=>(h.neB hq).1
 have hnok:=h.nok
 have hof:zbe g w' (w'.setCell ⟨g,0,none⟩ (.slice A' (n+1) cA')):=zbe.of_far ((zba.refl g w').set_ 0 _)
 exact {
  blk:=h1.set_ 0 _
  hn:=hlen
  hk:=h.hk
  rows:=⟨_,hl.off (λq s cs hq hk=>Blk.far (p:=⟨g,0,none⟩) hk (hne q hq) _) (λhx=>zkX hx h1 hnok hof)⟩
  lds:=h2.off λq s cs hq hk=>Blk.far (p:=⟨g,0,none⟩) hk (hneB q hq) _
  lead:=h3.off h1 hnok hof
  rsd:=h4.off h1 hnok hof}
theorem ElS.newRd {r:Rat}{z0 z1 z2:Value}(h:ElS w g st rd A n cA B k cB x0 x1 x2 y0 y1 y2)(hp:RV w r z0 z1 z2):ElS (((w.setCell ⟨g,5,none⟩ z0).setCell ⟨g,6,none⟩ z1).setCell ⟨g,7,none⟩ z2) g st r A n cA B k cB x0 x1 x2 z0 z1 z2:=
 h.store ((((zba.refl g w).set_ 5 z0).set_ 6 z1).set_ 7 z2) (((h.blk.set_ 5 z0).set_ 6 z1).set_ 7 z2) h.lead hp λq s cs hq hk=>Blk.far (p:=⟨g,7,none⟩) (Blk.far (p:=⟨g,6,none⟩) (Blk.far (p:=⟨g,5,none⟩) hk hq z0) hq z1) hq z2
theorem ElS.new {b1 b2:Bool}{A1 A2 E1 E2:oA9}{n1 c1 k1 f1 n2 c2 k2 f2:Nat}(w:World)(h1:zai w 1 b1 A1 n1 c1 E1 k1 f1)(h2:zai w 1 b2 A2 n2 c2 E2 k2 f2):ElS (w.alloc (.cells #[.slice none 0 0,.slice none 0 0,.bool b1,.slice A1 n1 c1,.slice E1 k1 f1,.bool b2,.slice A2 n2 c2,.slice E2 k2 f2] 117)) w.heap.size ⟨[],[],1⟩ 1 none 0 0 none 0 0 (.bool b1) (.slice A1 n1 c1) (.slice E1 k1 f1) (.bool b2) (.slice A2 n2 c2) (.slice E2 k2 f2):=by
 obtain⟨hb,hk,-⟩:=zaw w 117 #[.slice none 0 0,.slice none 0 0,.bool b1,.slice A1 n1 c1,.slice E1 k1 f1,.bool b2,.slice A2 n2 c2,.slice E2 k2 f2]
 exact{blk:=hk,hn:=rfl,hk:=rfl,rows:=⟨[],zbh.nil _ _ _⟩,lds:=zfM.nil _ _,lead:=RV.of (h1.below hb),rsd:=RV.of (h2.below hb)}
def zbf (M:List (List Rat)):List (List Rat):=M.map λrow=>zaI (zaK row) row
def zbp (M:List (List Rat)):Rat:=M.foldl (λr row=>r*zaK row) 1
theorem zmo {M:List (List Rat)}{i:Nat}(h:i<M.length):zbf (M.take (i+1))=zbf (M.take i)++[zaI (zaK (M.getD i [])) (M.getD i [])]:=by
 unfold zbf
 rw [List.take_succ_eq_append_getElem h,List.map_append,List.getD_eq_getElem?_getD,List.getElem?_eq_getElem h];rfl
theorem zhw {M:List (List Rat)}{i:Nat}(h:i<M.length):zbp (M.take (i+1))=zbp (M.take i)*zaK (M.getD i []):=by
 unfold zbp
 rw [List.take_succ_eq_append_getElem h,List.foldl_append,List.getD_eq_getElem?_getD,List.getElem?_eq_getElem h];rfl
theorem zhy {M:List (List Rat)}{n m:Nat}(h:zaW M n m):zaW (zbf M) n m:=⟨by unfold zbf;rw [List.length_map];exact h.rows,λL hL=>by
 unfold zbf at hL
 obtain⟨row,hr,rfl⟩:=List.mem_map.1 hL
 exact zbm (h.cols row hr)⟩
theorem zjV {M:List (List Rat)}{n m:Nat}(h:zaW M n m){i:Nat}(hi:i<n)(j:Nat):atM (zbf M) i j=zaK (M.getD i [])*atM M i j:=by
 have hl:=h.rows
 unfold atM zbf
 rw [List.getD_eq_getElem?_getD (l:=List.map _ _),List.getElem?_map,zbV (d:=[]) (by omega)]
 exact zel j
structure zbP (K:Nat)(M:List (List Rat)):Prop where
 q:∀row ∈ M,LI K (zaK row)
 x:∀row ∈ M,∀x ∈ row,LI K (zaK row*x)
theorem zbP.at_ {K n m:Nat}{M:List (List Rat)}(h:zbP K M)(hd:zaW M n m):∀i,i<n->∀j,j<m->LI K (atM (zbf M) i j):=λi hi j hj=>by
 rw [zjV hd hi]
 have hl:=hd.rows
 have hr:=hd.row hi
 have h1:M.getD i [] ∈ M:=List.mem_of_getElem? (zbV (by omega))
 refine h.x _ h1 _ ?_
 unfold atM
 exact List.mem_of_getElem? (zbV (d:=0) (by omega))
theorem zhf {K:Nat}{M:List (List Rat)}(h:zbP K M):∀i,i<=M.length->LI (1+i*K) (zbp (M.take i))
 |0,_=>by rw [Nat.zero_mul];exact LI.one
 |i+1,hi=>by
   rw [zhw (by omega)]
   exact((zhf h i (by omega)).mul (h.q _ (List.mem_of_getElem? (zbV (by omega))))).up (by rw [Nat.succ_mul];omega)
end
section
variable {w:World}
theorem zmZ {A:oA9}{n c:Nat}{zs:List Int}{z:Int}(h:zcS w A n zs)(hn:n<=1048576):
  Calls Tryz.prog 156 #[.slice A n c,.int .i64 z] w (λeo w'=>∃k:Int,eo=.returned (.int .i64 k)/\decide (k>=0)=decide (z ∈ zs)/\Below w.heap.size w w'):=by
 have HI:=lh9 h
 have i0:(0:Int)<=(n:Int):=by omega
 have hB:=Below.refl w.heap.size w
 have HY:Hid (∀k,k<n->zs.getD k 0=z->decide (z ∈ zs)=true):=λk hk e=>decide_eq_true (by
  rw [<-e,List.getD_eq_getElem?_getD,List.getElem?_eq_getElem (by have:=h.len;omega)]
  exact List.getElem_mem _)
 have HN:Hid ((∀j,j<n->zs.getD j 0≠z)->decide (z ∈ zs)=false):=λh0=>decide_eq_false (λhm=>by
  obtain⟨j,hj,e⟩:=List.mem_iff_getElem.1 hm
  refine h0 j (by rw [<-h.len];exact hj) ?_
  rw [List.getD_eq_getElem?_getD,List.getElem?_eq_getElem hj];exact e)
 obtain⟨b,hb⟩:∃b,decide (z ∈ zs)=b:=⟨_,rfl⟩
 rw [hb] at HY HN⊢
 clear h hb
 go_enter Tryz.func156,Tryz.ntmps156
 go_wp2_with fail
 go_loopg [8] (n+1) (λg ix wr=>∃(k:Nat),k<=n/\n<g+k/\ix=.int .i64 k/\Hid (∀j,j<k->zs.getD j 0≠z)/\Below w.heap.size w wr)
 case atStart=>exact⟨0,Nat.zero_le _,by omega,rfl,λj hj=>(by cases hj),hB⟩
 case round=>
  clear hB
  obtain⟨k,hkn,hg,rfl,hz0,hB⟩:=hrel
  by_cases hlt:k<n
  ·have hd1:decide ((k:Int)<(n:Int))=true:=decide_eq_true (by omega)
   have i1:(0:Int)<=(k:Int):=by omega
   have i2:(k:Int)<(n:Int):=by omega
   obtain⟨ad,rfl,hc⟩:=HI.out.num k hlt
   have hc0:=zac hB hc
   have HSU:Hid (zs.getD k 0≠z->∀j,j<k+1->zs.getD j 0≠z):=λe j hj=>by
    rcases Nat.lt_or_ge j k with a|a
    ·exact hz0.out j a
    ·rw [show j=k by omega];exact e
   have HYK:=lh9 (HY.out k hlt)
   have HB:=lh9 hB
   obtain⟨x,hx⟩:∃x,zs.getD k 0=x:=⟨_,rfl⟩
   rw [hx] at hc0 HSU HYK
   clear hB hc hx
   by_cases hxz:x=z
   ·have d2:(z==x)=true:=by rw [hxz];simp
    have HE:=lh9 (HYK.out hxz)
    clear HSU HYK hxz
    go_wp2
    go_ret
    exact⟨(k:Int),rfl,by rw [HE.out];exact decide_eq_true (by omega),HB.out⟩
   ·have d2:(z==x)=false:=by rw [beq_eq_false_iff_ne];exact λe=>hxz e.symm
    have HS2:=lh9 (HSU.out hxz)
    clear HSU HYK hxz
    go_wp2
    go_roundg (n - k)
    case measure=>omega
    case rel=>exact⟨k+1,by omega,by omega,by go_num,HS2.out,HB.out⟩
  ·have hk9:k=n:=by omega
   subst hk9
   have hd1:decide ((k:Int)<(k:Int))=false:=by simp
   have HE:=lh9 (HN.out hz0.out)
   have HB:=lh9 hB
   clear hB
   go_wp2
   go_ret
   exact⟨-1,rfl,by rw [HE.out];rfl,HB.out⟩
theorem zdi {A:oA9}{n c:Nat}{zs:List Int}{z:Int}{b:Bool}(e:decide (z ∈ zs)=b)(h:zcS w A n zs)(hn:n<=1048576):
  Calls Tryz.prog 97 #[.slice A n c,.int .i64 z] w (λeo w'=>eo=.returned (.bool b)/\Below w.heap.size w w'):=by
 have H:=lh9 (zmZ (c:=c) (z:=z) h hn)
 rw [e] at H
 clear h e
 go_enter Tryz.func97,Tryz.ntmps97
 go_wp2_with fail
 refine H.out.mono ?_
 rintro eo w1 ⟨k,rfl,hk,hb⟩
 have hk2:decide (0<=k)=b:=hk
 have HB:=lh9 hb
 clear hb
 go_wp2
 go_ret
 exact⟨rfl,HB.out⟩
end
theorem zbo {zs:List Int}(h:∀z ∈ zs,-9223372036854775808<=z/\z<=9223372036854775807):zat 1 (ofL zs):=λx hx=>by
 obtain⟨z,hz,rfl⟩:=List.mem_map.1 hx
 exact SzQ.whole (zgM (h z hz).1 (h z hz).2) (by decide)
theorem zbY (zs:List Int)(n:Nat)(hn:zs.length=n){w:World}{g:Nat}{t:TypeId}(h:Blk w g t (zs.map (Value.int .i64)).toArray)(hz:∀z ∈ zs,-9223372036854775808<=z/\z<=9223372036854775807):zcS w (some ⟨g,0,none⟩) n zs:=by
 subst hn
 exact⟨rfl,λi hi=>by
  rw [List.getD_eq_getElem?_getD,List.getElem?_eq_getElem hi]
  exact hz _ (List.getElem_mem hi),λi hi=>⟨_,rfl,by
  rw [zaO,h.cell,List.getD_eq_getElem?_getD,List.getElem?_eq_getElem hi]
  simp [hi]⟩⟩
theorem qc10:RatC zaj (λ_=>False):=ratC (λ_ h=>h) (λh=>h.elim) (λh=>h.elim) (λh=>h.elim)
theorem zbb.below {W W':World}{A:oA9}{n c:Nat}{R:RowV}(h:zbb W A n c R)(hb:Below W.heap.size W W'):zbb W' A n c R:=⟨h.fits,h.small,λr hr=>by
 obtain⟨ad,e,h1,h2,h3⟩:=h.row r hr
 exact⟨ad,e,Nat.lt_of_lt_of_le h1 hb.size,zac hb h2,h3.below hb⟩⟩
