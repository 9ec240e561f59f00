/- What this claim leans on. -/
import Derived.Test.YtcojjcjgbepicaaGreatDoorEVArgs
namespace Go.Proofs.YtcojjcjgbepicaaGreatDoor
open Go Go.RowKit
open Go.ChangeShapes Go.WideShapes Go.ChangeAt Go.Deep
set_option maxHeartbeats 16000000
set_option linter.unusedVariables false
theorem zgb {H:Type}{enc:TypeId×Value->H}{P:Program}{W:World}{fuel:Nat}{t9 t0 t:TypeId}{f0 f1:Field}{v:Value}{x:DataW H×List MemPlace}
  (ht9:P.underlying t9=some (.slice t0)) (hC9:P.cellsOf t0=1) (ht:P.underlying t0=some (.slice t)) (hs:P.underlying t=some (.struct #[f0,f1])) (hf:(f0.offset,P.cellsOf f0.type,f1.offset,P.cellsOf f1.type)=(0,1,1,1)) (hC:P.cellsOf t=2) (h0:P.underlying f0.type=some (.int .i64)) (h1:P.underlying f1.type=some (.int .i64))
  (h:DataW.trod enc P W 0 (λ_=>true) true fuel t9 [v]=some x) (hb:Rows.uptoBulk x.1<=1048576):∃A n c R,v=.slice A n c/\zbb W A n c R:=by
 have go:∀A n c,[v]=[Value.slice A n c]->∃A n c R,v=.slice A n c/\zbb W A n c R:=λA n c e=>by
  simp only [List.cons.injEq,and_true] at e
  subst e
  obtain⟨R,hR⟩:=zji ht9 hC9 ht hs hf hC h0 h1 (A:=A) (n:=n) (c:=c) (by simpa [Value.cells] using h) hb
  exact⟨A,n,c,R,rfl,hR⟩
 rcases open_slice ht9 h with⟨hcs,_⟩|⟨a,len,cap,m,k,D,Pl,hcs,_⟩
 ·exact go _ _ _ hcs
 ·exact go _ _ _ hcs
theorem arg_grid {H:Type}{enc:TypeId×Value->H}{P:Program}{W:World}{r:Reach}{b0:Nat}{t8 t9 t0 t:TypeId}{g0 g1 f0 f1:Field}{v:Value}{d:DataW H}{p:List MemPlace}
  (hs8:P.underlying t8=some (.struct #[g0,g1])) (hone:oneCellFields P #[g0,g1]=true) (hC8:P.cellsOf t8=2) (k0:P.underlying g0.type=some (.int .u8)) (ht9:P.underlying g1.type=some (.slice t0)) (hC9:P.cellsOf t0=1) (ht:P.underlying t0=some (.slice t))
  (hs:P.underlying t=some (.struct #[f0,f1])) (hf:(f0.offset,P.cellsOf f0.type,f1.offset,P.cellsOf f1.type)=(0,1,1,1)) (hC:P.cellsOf t=2) (h0:P.underlying f0.type=some (.int .i64)) (h1:P.underlying f1.type=some (.int .i64))
  (hv:Value.okWide P W r b0 t8 v) (h:DataW.Trod enc P W 0 (λ_=>true) true t8 v d p) (hb:Rows.uptoBulk d<=1048576):∃(z:Nat) (A:oA9) (n c:Nat) (R:Nat->oA9×Nat×Nat×List (Int×Int)),v=.agg #[.int .u8 (z:Int),.slice A n c]/\z<=255/\zbb W A n c R:=by
 obtain⟨v0,v1,y0,y1,n,rfl,rfl,rfl,e0,e1⟩:=Go.Joins.open_agg2 hs8 hone hC8 hv h
 obtain⟨z,hz,_,wz⟩:=DataW.trod_int k0 e0
 simp only [List.cons.injEq,and_true] at hz
 subst hz
 have bz:=bounds_u8 wz
 obtain⟨A,m,c,R,rfl,hR⟩:=zgb ht9 hC9 ht hs hf hC h0 h1 e1 (by simp only [Rows.uptoBulk,Rows.uptoBulkAll] at hb;omega)
 exact⟨z.toNat,A,m,c,R,by rw [Int.toNat_of_nonneg bz.1],by omega,hR⟩
open Go Go.RowKit
set_option maxHeartbeats 16000000
set_option maxRecDepth 100000
set_option linter.unusedVariables false
set_option linter.unusedSimpArgs false
theorem zpM {K K' L:Nat}{x y r:Rat}{b b' s:Bool}{A A' D:oA9}{n n' m c c' d:Nat}{E E' U:oA9}{k k' u f f' v:Nat}{w:World}(g:Nat)(hT:zaj w)(hr:zai w r s D m d U u v)(hk:Blk w g 53 #[.bool s,.slice D m d,.slice U u v])
  (h:zai w x b A n c E k f) (h':zai w y b' A' n' c' E' k' f') (zx:SzQ K x) (zy:SzQ K' y) (zr:SzQ L r) (hK:K<=67108864) (hK':L+K'<=67108864):
  Calls Tryz.prog 103 #[.agg #[.bool b,.slice A n c,.slice E k f],.agg #[.bool b',.slice A' n' c',.slice E' k' f'],.pointer (some ⟨g,0,none⟩)] w (zaH w (x+r*y)):=by
 have HT:=lh9 (λw' (hb:Below w.heap.size w w')=>hT.on hb)
 have HX:=lh9 (λw' (hb:Below w.heap.size w w')=>h.below hb)
 have HY:=lh9 (λw' (hb:Below w.heap.size w w')=>h'.below hb)
 have HR:=lh9 (λw' (hb:Below w.heap.size w w')=>hr.below hb)
 have HK:=lh9 (λw' (hb:Below w.heap.size w w')=>zab hb hk)
 have HZX:=lh9 zx
 have HZY:=lh9 zy
 have HZR:=lh9 zr
 clear hT hr hk h h' zx zy zr
 obtain⟨bx1,bx2,bx3,bx4,bz⟩:=zbA w 53 53 53 #[.bool b,.slice A n c,.slice E k f] #[.bool b',.slice A' n' c',.slice E' k' f'] #[.bool false,.slice none 0 0,.slice none 0 0]
 have HB0:=lh9 bx1
 have HB2:=lh9 bx2
 have HB3:=lh9 bx3
 have HB4:=lh9 bx4
 clear bx1 bx2 bx3 bx4 bz
 go_enter Tryz.func103,Tryz.ntmps103
 go_wp2_with fail
 generalize ((w.alloc (.cells #[.bool b,.slice A n c,.slice E k f] 53)).alloc (.cells #[.bool b',.slice A' n' c',.slice E' k' f'] 53)).alloc (.cells #[.bool false,.slice none 0 0,.slice none 0 0] 53)=W1 at*
 obtain⟨p0,p1,p2⟩:=HB2.out.c3
 obtain⟨q0,q1,q2⟩:=HB3.out.c3
 obtain⟨g0,g1,g2⟩:=(HK.out _ HB0.out).c3
 have hB:=HB0.out
 have kr:=HB4.out
 have hBw:=(Below.refl W1.heap.size W1).drew
 refine rg (csc p0 (csc p1 (csc p2 (csc g0 (csc g1 (csc g2 (csc q0 (csc q1 (csc q2 csn))))))))) (λhHeld=>?_)
 refine tk 0 ?_
 refine tk 1 ?_
 refine tk 2 ?_
 refine rc 3 (λKK hK=>?_)
 go_simp
 (with_reducible refine(zfU (HT.out _ (zaa hB hBw)) (HR.out _ (zaa hB hBw)) (HY.out _ (zaa hB hBw)) HZR.out HZY.out (by omega) (by omega)).mono ?_);rintro e wa ⟨b1,A1,n1,c1,E1,k1,f1,rfl,hw1,hb⟩;have hBw:=zaa hBw hb;refine hK.out _ _ (Cs.below hHeld hb) (λhHeld=>?_);clear hK KK hb
 refine rc 4 (λKK hK=>?_)
 go_simp
 (with_reducible refine(q_add (HT.out _ (zaa hB hBw)) (HX.out _ (zaa hB hBw)) hw1 HZX.out (HZR.out.mul HZY.out) (by omega) (by omega)).mono ?_);rintro e wb ⟨b2,A2,n2,c2,E2,k2,f2,rfl,hw2,hb⟩;have hBw:=zaa hBw hb;refine hK.out _ _ (Cs.below hHeld hb) (λhHeld=>?_);clear hK KK hb
 have kr:=zab hBw kr
 obtain⟨sc0,sf0,sc1,sf1,sc2,sf2⟩:=st3 kr (.bool b2) (.slice A2 n2 c2)
 obtain⟨r0,r1,r2⟩:=(sn3 kr (.bool b2) (.slice A2 n2 c2) (.slice E2 k2 f2)).c3
 have HG:=lh9 (gq3 hw2 kr (zaa hB hBw) (by omega))
 refine rc 5 (λKK hK=>?_)
 go_simp
 refine hK.out _ _ ?_ (λhHeld=>?_)
 ·have hg:g<w.heap.size:=by
   have h1:=(HK.out _ (Below.refl _ w)).lt
   exact h1
  refine Cs.far hHeld (zdM _ _ _ _ _) ?_
  refine⟨?_,?_,?_,?_,?_,?_,?_,?_,?_,trivial⟩<;>(simp;try omega)
 clear hK KK
 refine rdn ?_
 clear sc0 sf0 sc1 sf1 sc2 sf2 hHeld hw1 hw2 kr
 go_wp2
 refine bodyPost_ret (v:=.agg #[.bool b2,.slice A2 n2 c2,.slice E2 k2 f2]) (by simp [results,Tryz.results103,go_sem,r0,r1,r2]) rfl ?_
 exact HG.out
section
variable {K K' L:Nat}{r:Rat}{xs ys:List Rat}{A B:oA9}{n n' c d:Nat}{w:World}{s:Bool}{D:oA9}{m e9:Nat}{U:oA9}{u v:Nat}
theorem zml (hT:zaj w)(ha:zaC w A n c xs)(hr:zai w r s D m e9 U u v)(hb:zaC w B n d ys)(hx:zat K xs)(zr:SzQ L r)(hy:zat K' ys)(hn:n<=1073741824:=by omega)(hK:K<=67108864:=by omega)(hK':L+K'<=67108864:=by omega):
  Calls Tryz.prog 42 #[.slice A n c,.agg #[.bool s,.slice D m e9,.slice U u v],.slice B n d] w (zdx w n (zeZ xs r ys)):=by
 have hla:=ha.len
 have hlb:=hb.len
 obtain⟨bx1,bx2,bz⟩:=zaw w 53 #[.bool s,.slice D m e9,.slice U u v]
 have hmf:∀(fn:Fn) (first cap:Array Value) (w:World),(Instr.makeFunc fn first cap).run Tryz.prog w=.ok (.func fn first cap) w:=λ_ _ _ _=>rfl
 have H:=lh9 (znM (λx y=>x+r*y) 103 #[.pointer (some ⟨w.heap.size,0,none⟩)] xs ys A B n c d _ (ha.keep bx1) (hb.keep bx1) hn en_addt (λi hi w' hb' b b' A A' n n' c c' E E' k k' f f' h1 h2=>
  zpM (w.heap.size) ((hT.on bx1).on hb') ((hr.below bx1).below hb') (zab hb' bx2) h1 h2 (hx.at_ (by omega)) (hy.at_ (by omega)) zr hK hK'))
 have hB:=bx1
 clear ha hb hx hy hT hr bx1 bx2 bz
 go_enter Tryz.func42,Tryz.ntmps42
 go_wp2_with fail
 refine H.out.mono ?_
 rintro e w1 ⟨g,rfl,h1,h2,h3⟩
 have HG:=lh9 (And.intro (Nat.le_trans hB.size h1) (And.intro h2 (zaa hB h3)))
 clear h1 h2 h3 hB
 go_wp2
 go_ret2
 exact⟨g,rfl,HG.out⟩
end
theorem zaD {w:World}{g n:Nat}{xs:List Rat}(h:zbT w g n xs)(hn:n<=1073741824:=by omega):zaC w (some ⟨g,0,none⟩) n n xs:=zbi.row h (by omega)
section
variable {K K':Nat}{xs ys:List Rat}{A B:oA9}{n n' c d:Nat}{w:World}
end
open Go Go.RowKit
set_option maxHeartbeats 16000000
set_option maxRecDepth 100000
set_option linter.unusedVariables false
set_option linter.unusedSimpArgs false
structure zgU (w:World)(A:oA9)(n:Nat)(Ls:List (List Rat)):Prop where
 len:Ls.length=n
 num:∀i L,Ls[i]?=some L->∃(ad:Addr) (B:oA9) (d:Nat),A=some ad/\ad.block<w.heap.size/\w.cell? (ad.add i)=some (.slice B L.length d)/\zaC w B L.length d L
theorem zgU.below {w w':World}{A:oA9}{n:Nat}{Ls:List (List Rat)}(h:zgU w A n Ls)(hb:Below w.heap.size w w'):zgU w' A n Ls:=
 ⟨h.len,λi L hi=>by
  obtain⟨ad,B,d,e,h1,h2,h3⟩:=h.num i L hi
  exact⟨ad,B,d,e,Nat.lt_of_lt_of_le h1 hb.size,zac hb h2,h3.keep hb⟩⟩
theorem zbV {α:Type}{xs:List α}{k:Nat}{d:α}(h:k<xs.length):xs[k]?=some (xs.getD k d):=by
 rw [List.getD_eq_getElem?_getD,List.getElem?_eq_getElem h];rfl
section
variable {K L:Nat}{rs:List Rat}{Ls:List (List Rat)}{A B:oA9}{n n' c d:Nat}{w:World}
end
open Go Go.RowKit
set_option maxHeartbeats 16000000
set_option maxRecDepth 100000
set_option linter.unusedVariables false
set_option linter.unusedSimpArgs false
theorem znD:zdC RefQ where
 below h hb:=h.below hb
 offg h hk hcs ho:=⟨⟨h.1.1,ziu h.1.2 hk hcs ho⟩,ziu h.2 hk hcs ho⟩
abbrev zic (w:World)(A:oA9)(n c:Nat)(xs:List Rat):Prop:=zaN RefQ w A n c xs
theorem zic.keep {w w':World}{A:oA9}{n c:Nat}{xs:List Rat}(h:zic w A n c xs)(hb:Below w.heap.size w w'):zic w' A n c xs:=zaN.below znD h hb
theorem zic.get {w wr:World}{A:oA9}{n c:Nat}{xs:List Rat}(h:zic w A n c xs)(hb:Below w.heap.size w wr){i:Nat}(hi:i<n):∃(ad:Addr) (b:Bool) (B:oA9) (m d:Nat) (F:oA9) (u v:Nat),A=some ad/\ad.block<w.heap.size/\wr.cell? (ad.add (i*3))=some (.bool b)/\wr.cell? ⟨(ad.add (i*3)).block,(ad.add (i*3)).off+1,none⟩=some (.slice B m d)/\wr.cell? ⟨(ad.add (i*3)).block,(ad.add (i*3)).off+2,none⟩=some (.slice F u v)/\RefQ wr (xs.getD i 0) b B m d F u v:=by
 obtain⟨ad,b,B,m,d,F,u,v,e,h0,h1,h2,h3,h4⟩:=h.at_ hi 0
 exact⟨ad,b,B,m,d,F,u,v,e,h0,zac hb h1,zac hb (zhL h2),zac hb (znU h3),h4.below hb⟩
open Go Go.RowKit
set_option maxHeartbeats 16000000
set_option linter.unusedVariables false
structure zcJ (n m c:Nat)(a s:Nat->Nat->Rat)(ld:List Nat)(p:Rat):Prop where
 len:ld.length<=n
 cm:c<=m
 up:∀l l',l<l'->l'<ld.length->ld.getD l 0<ld.getD l' 0
 lt:∀l,l<ld.length->ld.getD l 0<c
 ne:p≠0
 piv:∀l,l<ld.length->∀i,i<n->s i (ld.getD l 0)=if i=l then p else 0
 low:∀i,ld.length<=i->i<n->∀j,j<c->s i j=0
 fore:∀l,l<ld.length->∀j,j<ld.getD l 0->s l j=0
 back:∀i,i<n->∀j,j<m->p*a i j=zaE ld.length (λl=>a i (ld.getD l 0)*s l j)+if ld.length<=i then s i j else 0
 det:p=zbD ld.length λi j=>a i (ld.getD j 0)
theorem zcJ.start (n m:Nat)(a:Nat->Nat->Rat):zcJ n m 0 a a [] 1 where
 len:=Nat.zero_le _
 cm:=Nat.zero_le _
 up:=λl l' _ h=>by cases h
 lt:=λl h=>by cases h
 ne:=by decide+kernel
 piv:=λl h=>by cases h
 low:=λi _ _ j h=>by cases h
 fore:=λl h=>by cases h
 back:=λi _ j _=>by
  show 1*a i j=zaE 0 _+if 0<=i then a i j else 0
  rw [if_pos (Nat.zero_le _),zhi];grind
 det:=rfl
theorem zcJ.skip {n m c:Nat}{a s:Nat->Nat->Rat}{ld:List Nat}{p:Rat}(h:zcJ n m c a s ld p)(hc:c<m)(h0:∀i,ld.length<=i->i<n->s i c=0):zcJ n m (c+1) a s ld p:=
 { h with
  cm:=hc
  lt:=λl hl=>Nat.lt_succ_of_lt (h.lt l hl)
  low:=λi h1 h2 j hj=>by
   rcases Nat.lt_or_ge j c with e|e
   ·exact h.low i h1 h2 j e
   ·rw [show j=c by omega];exact h0 i h1 h2}
def swp (r q:Nat)(s:Nat->Nat->Rat):Nat->Nat->Rat:=λi j=>if i=r then s q j else if i=q then -s r j else s i j
theorem zmg (k:Nat)(f:Nat->Rat):zaE k (λi=> -f i)= -zaE k f:=by
 have:=zaV k (-1) f
 rw [show(-1:Rat)*zaE k f= -zaE k f by grind] at this
 rw [this]
 exact zau λi _=>by grind
theorem zcJ.swap {n m c:Nat}{a s:Nat->Nat->Rat}{ld:List Nat}{p:Rat}(h:zcJ n m c a s ld p){q:Nat}(h1:ld.length<q)(h2:q<n):zcJ n m c (swp ld.length q a) (swp ld.length q s) ld p where
 len:=h.len
 cm:=h.cm
 up:=h.up
 lt:=h.lt
 ne:=h.ne
 piv:=λl hl i hi=>by
  unfold swp
  by_cases e1:i=ld.length
  ·rw [if_pos e1,if_neg (by omega),h.piv l hl q h2,if_neg (by omega)]
  ·rw [if_neg e1]
   by_cases e2:i=q
   ·rw [if_pos e2,if_neg (by omega),h.piv l hl ld.length (by omega),if_neg (by omega),Rat.neg_zero]
   ·rw [if_neg e2,h.piv l hl i hi]
 low:=λi hi hi2 j hj=>by
  unfold swp
  split
  ·exact h.low q (by omega) h2 j hj
  ·split
   ·rw [h.low ld.length (Nat.le_refl _) (by omega) j hj,Rat.neg_zero]
   ·exact h.low i hi hi2 j hj
 fore:=λl hl j hj=>by
  unfold swp
  rw [if_neg (by omega),if_neg (by omega)];exact h.fore l hl j hj
 back:=λi hi j hj=>by
  have hs:∀i,zaE ld.length (λl=>swp ld.length q a i (ld.getD l 0)*swp ld.length q s l j)=zaE ld.length (λl=>swp ld.length q a i (ld.getD l 0)*s l j):=λi=>zau λl hl=>by
   rw [show swp ld.length q s l j=s l j by unfold swp;rw [if_neg (by omega),if_neg (by omega)]]
  rw [hs]
  by_cases e1:i=ld.length
  ·subst e1
   have:=h.back q h2 j hj
   rw [if_pos (by omega)] at this⊢
   simp only [swp,if_true]
   exact this
  ·by_cases e2:i=q
   ·subst e2
    have:=h.back ld.length (by omega) j hj
    rw [if_pos (by omega)] at this⊢
    simp only [swp,if_neg e1,if_true]
    have e:zaE ld.length (λl=> -a ld.length (ld.getD l 0)*s l j)= -zaE ld.length (λl=>a ld.length (ld.getD l 0)*s l j):=by
     rw [<-zmg];exact zau λl _=>by grind
    rw [e]
    grind
   ·have:=h.back i hi j hj
    simp only [swp,if_neg e1,if_neg e2]
    exact this
 det:=by
  rw [h.det]
  exact zcK λi hi j _=>by unfold swp;rw [if_neg (by omega),if_neg (by omega)]
def clr (k c:Nat)(p:Rat)(s:Nat->Nat->Rat):Nat->Nat->Rat:=λi j=>if i=k then s k j else p⁻¹*(s k c*s i j+ -s i c*s k j)
theorem zbW {ld:List Nat}{c l:Nat}(h:l<ld.length):(ld++[c]).getD l 0=ld.getD l 0:=by
 rw [List.getD_eq_getElem?_getD,List.getD_eq_getElem?_getD,List.getElem?_append_left h]
theorem zcu (ld:List Nat)(c:Nat):(ld++[c]).getD ld.length 0=c:=by
 rw [List.getD_eq_getElem?_getD,List.getElem?_append_right (Nat.le_refl _),Nat.sub_self];rfl
theorem zdm (ld:List Nat)(c:Nat):(ld++[c]).length=ld.length+1:=by simp
theorem zcJ.col {n m c:Nat}{a s:Nat->Nat->Rat}{ld:List Nat}{p:Rat}(h:zcJ n m c a s ld p){l j:Nat}(hl:l<ld.length)(hj:j<m):s l j=zbD ld.length (zbF (λi j=>a i (ld.getD j 0)) l λi=>a i j):=by
 have e1:=zgd (n:=ld.length) (λi j=>a i (ld.getD j 0)) hl p (λi=>a i j)
 have e2:zbD ld.length (zbF (λi j=>a i (ld.getD j 0)) l λi=>p*a i j)=zbD ld.length (zbF (λi j=>a i (ld.getD j 0)) l λi=>zaE ld.length λq=>s q j*a i (ld.getD q 0)):=zcK λi hi j' _=>by
  by_cases e:j'=l
  ·subst e
   rw [zcd,zcd,h.back i (by have:=h.len;omega) j hj,if_neg (by omega),Rat.add_zero]
   exact zau λq _=>Rat.mul_comm _ _
  ·rw [zce _ e,zce _ e]
 rw [e2,zgw _ hl (λq=>s q j) (λq i=>a i (ld.getD q 0))] at e1
 have e3:∀q,q<ld.length->s q j*zbD ld.length (zbF (λi j=>a i (ld.getD j 0)) l λi=>a i (ld.getD q 0))=(s l j*p)*if q=l then 1 else 0:=λq hq=>by
  by_cases e:q=l
  ·subst e
   rw [if_pos rfl,zfH (λi j=>a i (ld.getD j 0)) q,<-h.det,Rat.mul_one]
  ·rw [if_neg e,zij (M:=λi j=>a i (ld.getD j 0)) hl hq (Ne.symm e),Rat.mul_zero,Rat.mul_zero]
 rw [zau e3] at e1
 have e4:zaE ld.length (λq=>(s l j*p)*if q=l then 1 else 0)=s l j*p:=by
  clear e1 e2 e3
  have:∀k,l<k->zaE k (λq=>(s l j*p)*if q=l then 1 else 0)=s l j*p:=by
   intro k
   induction k with
   |zero=>intro h;cases h
   |succ k ih=>
     intro hk
     rw [zaP]
     by_cases e:k=l
     ·subst e
      rw [if_pos rfl,zcv λi hi=>by rw [if_neg (by omega),Rat.mul_zero],Rat.zero_add,Rat.mul_one]
     ·rw [if_neg e,Rat.mul_zero,Rat.add_zero,ih (by omega)]
  exact this _ hl
 rw [e4] at e1
 have:=h.ne
 grind
theorem zcJ.lead {n m c:Nat}{a s:Nat->Nat->Rat}{ld:List Nat}{p:Rat}(h:zcJ n m c a s ld p)(hc:c<m)(hk:ld.length<n):s ld.length c=zbD (ld.length+1) λi j=>a i ((ld++[c]).getD j 0):=by
 have hB:∀(f:Nat->Nat->Rat),(f=λi j=>a i ((ld++[c]).getD j 0))->s ld.length c=zbD (ld.length+1) f:=by
  intro f hf
  have hk1:ld.length<ld.length+1:=Nat.lt_succ_self _
  have e1:=zgd (n:=ld.length+1) f hk1 p (λi=>f i ld.length)
  rw [zfH f] at e1
  have ff:∀i l,l<ld.length->f i l=a i (ld.getD l 0):=λi l hl=>by rw [hf];show a i _=_;rw [zbW hl]
  have fc:∀i,f i ld.length=a i c:=λi=>by rw [hf];show a i _=_;rw [zcu]
  have e2:zbD (ld.length+1) (zbF f ld.length λi=>p*f i ld.length)=zbD (ld.length+1) (zbF f ld.length λi=>1*(zaE ld.length λq=>s q c*f i q)+s ld.length c*if i=ld.length then 1 else 0):=zcK λi hi j' _=>by
   by_cases e:j'=ld.length
   ·subst e
    rw [zcd,zcd,fc,h.back i (by omega) c hc,Rat.one_mul]
    congr 1
    ·exact zau λq hq=>by rw [ff i q hq,Rat.mul_comm]
    ·by_cases e:i=ld.length
     ·rw [if_pos (by omega),if_pos e,e,Rat.mul_one]
     ·rw [if_neg (by omega),if_neg e,Rat.mul_zero]
   ·rw [zce _ e,zce _ e]
  rw [e2,zdD f hk1 1 (s ld.length c) (λi=>zaE ld.length λq=>s q c*f i q) (λi=>if i=ld.length then 1 else 0),zgw f hk1 (λq=>s q c) (λq i=>f i q)] at e1
  rw [zcv λq hq=>by rw [zij hk1 (by omega) (by omega),Rat.mul_zero]] at e1
  rw [zhn ld.length (M:=zbF f ld.length λi=>if i=ld.length then 1 else 0) (λi hi=>by rw [zcd,if_neg (by omega)]),zcd,if_pos rfl] at e1
  have e3:zbD ld.length (zbF f ld.length λi=>if i=ld.length then 1 else 0)=p:=by
   rw [h.det]
   exact zcK λi hi j hj=>by rw [zce _ (by omega),ff i j hj]
  rw [e3] at e1
  have:=h.ne
  grind
 exact hB _ rfl
theorem zcJ.clear {n m c:Nat}{a s:Nat->Nat->Rat}{ld:List Nat}{p:Rat}(h:zcJ n m c a s ld p)(hc:c<m)(hk:ld.length<n)(h0:s ld.length c≠0):zcJ n m (c+1) a (clr ld.length c p s) (ld++[c]) (s ld.length c) where
 len:=by rw [zdm];omega
 cm:=hc
 up:=λl l' h1 h2=>by
  rw [zdm] at h2
  rw [zbW (by omega)]
  by_cases e:l'=ld.length
  ·subst e;rw [zcu];exact h.lt l h1
  ·rw [zbW (by omega)];exact h.up l l' h1 (by omega)
 lt:=λl hl=>by
  rw [zdm] at hl
  by_cases e:l=ld.length
  ·subst e;rw [zcu];omega
  ·rw [zbW (by omega)];exact Nat.lt_succ_of_lt (h.lt l (by omega))
 ne:=h0
 piv:=λl hl i hi=>by
  have hne:=h.ne
  rw [zdm] at hl
  unfold clr
  by_cases e:l=ld.length
  ·subst e
   rw [zcu]
   by_cases e2:i=ld.length
   ·rw [if_pos e2,if_pos e2]
   ·rw [if_neg e2,if_neg e2];grind
  ·have hl':l<ld.length:=by omega
   rw [zbW hl']
   have e3:=h.piv l hl' ld.length hk
   rw [if_neg (by omega)] at e3
   by_cases e2:i=ld.length
   ·rw [if_pos e2,if_neg (by omega),e3]
   ·rw [if_neg e2,e3,h.piv l hl' i hi]
    by_cases e4:i=l
    ·rw [if_pos e4,if_pos e4];grind
    ·rw [if_neg e4,if_neg e4];grind
 low:=λi hi hi2 j hj=>by
  rw [zdm] at hi
  unfold clr
  rw [if_neg (by omega)]
  by_cases e:j=c
  ·subst e;grind
  ·rw [h.low i (by omega) hi2 j (by omega),h.low ld.length (Nat.le_refl _) hk j (by omega)];grind
 fore:=λl hl j hj=>by
  rw [zdm] at hl
  unfold clr
  by_cases e:l=ld.length
  ·subst e
   rw [zcu] at hj
   rw [if_pos rfl];exact h.low _ (Nat.le_refl _) hk j hj
  ·have hl':l<ld.length:=by omega
   rw [zbW hl'] at hj
   have:=h.lt l hl'
   rw [if_neg e,h.fore l hl' j hj,h.low ld.length (Nat.le_refl _) hk j (by omega)];grind
 back:=λi hi j hj=>by
  have hne:=h.ne
  have e1:=h.back i hi j hj
  have e2:=h.back i hi c hc
  rw [zdm,zaP,zcu]
  have e3:zaE ld.length (λl=>a i ((ld++[c]).getD l 0)*clr ld.length c p s l j)=p⁻¹*(s ld.length c*zaE ld.length (λl=>a i (ld.getD l 0)*s l j)+ -(s ld.length j)*zaE ld.length (λl=>a i (ld.getD l 0)*s l c)):=by
   rw [zaV,zaV,<-zft,zaV]
   refine zau λl hl=>?_
   rw [zbW hl]
   unfold clr
   rw [if_neg (by omega)]
   grind
  have e4:clr ld.length c p s ld.length j=s ld.length j:=if_pos rfl
  rw [e3,e4]
  generalize zaE ld.length (λl=>a i (ld.getD l 0)*s l j)=x at*
  generalize zaE ld.length (λl=>a i (ld.getD l 0)*s l c)=y at*
  by_cases e5:ld.length+1<=i
  ·rw [if_pos e5]
   rw [if_pos (by omega)] at e1 e2
   unfold clr
   rw [if_neg (by omega)]
   generalize a i j=u at*
   generalize a i c=v at*
   generalize s i j=z at*
   generalize s i c=t at*
   generalize s ld.length j=r at*
   generalize s ld.length c=q at*
   grind
  ·rw [if_neg e5]
   by_cases e6:i=ld.length
   ·subst e6
    rw [if_pos (Nat.le_refl _)] at e1 e2
    grind
   ·rw [if_neg (by omega)] at e1 e2
    grind
 det:=by
  rw [zdm]
  exact h.lead hc hk
