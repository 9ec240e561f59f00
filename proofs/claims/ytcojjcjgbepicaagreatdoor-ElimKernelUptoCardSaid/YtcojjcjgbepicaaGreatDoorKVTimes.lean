/- What this claim leans on. -/
import Derived.Test.YtcojjcjgbepicaaGreatDoorKMRow
import Derived.ArgAppend
namespace Go.Proofs.YtcojjcjgbepicaaGreatDoor
open Go Go.RowKit
set_option maxHeartbeats 16000000
set_option maxRecDepth 100000
set_option linter.unusedVariables false
set_option linter.unusedSimpArgs false
theorem zpH {K K' L:Nat}{x y r:Rat}{b b' s:Bool}{A A' D:oA9}{n n' m c c' d:Nat}{E E' U:oA9}{k k' u f f' v:Nat}{w:World}(g:Nat)(hT:zai w)(hr:zah w r s D m d U u v)(hk:Blk w g 53 #[.bool s,.slice D m d,.slice U u v])
  (h:zah w x b A n c E k f) (h':zah w y b' A' n' c' E' k' f') (zx:SzQ K x) (zy:SzQ K' y) (zr:SzQ L r) (hK:K<=67108864) (hK':L+K'<=67108864):
  Calls Tryz.prog 103 #[.agg #[.bool b,.slice A n c,.slice E k f],.agg #[.bool b',.slice A' n' c',.slice E' k' f'],.pointer (some ⟨g,0,none⟩)] w (zaJ w (x+r*y)):=by
 have HT:=lh9 (λw' (hb:Below w.heap.size w w')=>hT.on hb)
 have HX:=lh9 (λw' (hb:Below w.heap.size w w')=>h.below hb)
 have HY:=lh9 (λw' (hb:Below w.heap.size w w')=>h'.below hb)
 have HR:=lh9 (λw' (hb:Below w.heap.size w w')=>hr.below hb)
 have HK:=lh9 (λw' (hb:Below w.heap.size w w')=>zab hb hk)
 have HZX:=lh9 zx
 have HZY:=lh9 zy
 have HZR:=lh9 zr
 clear hT hr hk h h' zx zy zr
 obtain⟨bx1,bx2,bx3,bx4,bz⟩:=zbA w 53 53 53 #[.bool b,.slice A n c,.slice E k f] #[.bool b',.slice A' n' c',.slice E' k' f'] #[.bool false,.slice none 0 0,.slice none 0 0]
 have HB0:=lh9 bx1
 have HB2:=lh9 bx2
 have HB3:=lh9 bx3
 have HB4:=lh9 bx4
 clear bx1 bx2 bx3 bx4 bz
 go_enter Tryz.func103,Tryz.ntmps103
 go_wp2_with fail
 generalize ((w.alloc (.cells #[.bool b,.slice A n c,.slice E k f] 53)).alloc (.cells #[.bool b',.slice A' n' c',.slice E' k' f'] 53)).alloc (.cells #[.bool false,.slice none 0 0,.slice none 0 0] 53)=W1 at*
 obtain⟨p0,p1,p2⟩:=HB2.out.c3
 obtain⟨q0,q1,q2⟩:=HB3.out.c3
 obtain⟨g0,g1,g2⟩:=(HK.out _ HB0.out).c3
 have hB:=HB0.out
 have kr:=HB4.out
 have hBw:=(Below.refl W1.heap.size W1).drew
 refine rg (csc p0 (csc p1 (csc p2 (csc g0 (csc g1 (csc g2 (csc q0 (csc q1 (csc q2 csn))))))))) (λhHeld=>?_)
 refine tk 0 ?_
 refine tk 1 ?_
 refine tk 2 ?_
 refine rc 3 (λKK hK=>?_)
 go_simp
 (with_reducible refine(zfm (HT.out _ (zaa hB hBw)) (HR.out _ (zaa hB hBw)) (HY.out _ (zaa hB hBw)) HZR.out HZY.out (by omega) (by omega)).mono ?_);rintro e wa ⟨b1,A1,n1,c1,E1,k1,f1,rfl,hw1,hb⟩;have hBw:=zaa hBw hb;refine hK.out _ _ (Cs.below hHeld hb) (λhHeld=>?_);clear hK KK hb
 refine rc 4 (λKK hK=>?_)
 go_simp
 (with_reducible refine(q_add (HT.out _ (zaa hB hBw)) (HX.out _ (zaa hB hBw)) hw1 HZX.out (HZR.out.mul HZY.out) (by omega) (by omega)).mono ?_);rintro e wb ⟨b2,A2,n2,c2,E2,k2,f2,rfl,hw2,hb⟩;have hBw:=zaa hBw hb;refine hK.out _ _ (Cs.below hHeld hb) (λhHeld=>?_);clear hK KK hb
 have kr:=zab hBw kr
 obtain⟨sc0,sf0,sc1,sf1,sc2,sf2⟩:=st3 kr (.bool b2) (.slice A2 n2 c2)
 obtain⟨r0,r1,r2⟩:=(sn3 kr (.bool b2) (.slice A2 n2 c2) (.slice E2 k2 f2)).c3
 have HG:=lh9 (gq3 hw2 kr (zaa hB hBw) (by omega))
 refine rc 5 (λKK hK=>?_)
 go_simp
 refine hK.out _ _ ?_ (λhHeld=>?_)
 ·have hg:g<w.heap.size:=by
   have h1:=(HK.out _ (Below.refl _ w)).lt
   exact h1
  refine Cs.far hHeld (zdP _ _ _ _ _) ?_
  refine⟨?_,?_,?_,?_,?_,?_,?_,?_,?_,trivial⟩<;>(simp;try omega)
 clear hK KK
 refine rdn ?_
 clear sc0 sf0 sc1 sf1 sc2 sf2 hHeld hw1 hw2 kr
 go_wp2
 refine bodyPost_ret (v:=.agg #[.bool b2,.slice A2 n2 c2,.slice E2 k2 f2]) (by simp [results,Tryz.results103,go_sem,r0,r1,r2]) rfl ?_
 exact HG.out
section
variable {K K' L:Nat}{r:Rat}{xs ys:List Rat}{A B:oA9}{n n' c d:Nat}{w:World}{s:Bool}{D:oA9}{m e9:Nat}{U:oA9}{u v:Nat}
theorem vec_addt (hT:zai w)(ha:zaC w A n c xs)(hr:zah w r s D m e9 U u v)(hb:zaC w B n d ys)(hx:zar K xs)(zr:SzQ L r)(hy:zar K' ys)(hn:n<=1073741824:=by omega)(hK:K<=67108864:=by omega)(hK':L+K'<=67108864:=by omega):
  Calls Tryz.prog 42 #[.slice A n c,.agg #[.bool s,.slice D m e9,.slice U u v],.slice B n d] w (zcT w n (zho xs r ys)):=by
 have hla:=ha.len
 have hlb:=hb.len
 obtain⟨bx1,bx2,bz⟩:=zax w 53 #[.bool s,.slice D m e9,.slice U u v]
 have hmf:∀(fn:Fn) (first cap:Array Value) (w:World),(Instr.makeFunc fn first cap).run Tryz.prog w=.ok (.func fn first cap) w:=λ_ _ _ _=>rfl
 have H:=lh9 (zjb (λx y=>x+r*y) 103 #[.pointer (some ⟨w.heap.size,0,none⟩)] xs ys A B n c d _ (ha.keep bx1) (hb.keep bx1) hn en_addt (λi hi w' hb' b b' A A' n n' c c' E E' k k' f f' h1 h2=>
  zpH (w.heap.size) ((hT.on bx1).on hb') ((hr.below bx1).below hb') (zab hb' bx2) h1 h2 (hx.at_ (by omega)) (hy.at_ (by omega)) zr hK hK'))
 have hB:=bx1
 clear ha hb hx hy hT hr bx1 bx2 bz
 go_enter Tryz.func42,Tryz.ntmps42
 go_wp2_with fail
 refine H.out.mono ?_
 rintro e w1 ⟨g,rfl,h1,h2,h3⟩
 have HG:=lh9 (And.intro (Nat.le_trans hB.size h1) (And.intro h2 (zaa hB h3)))
 clear h1 h2 h3 hB
 go_wp2
 go_ret2
 exact⟨g,rfl,HG.out⟩
end
theorem zaI {w:World}{g n:Nat}{xs:List Rat}(h:zbL w g n xs)(hn:n<=1073741824:=by omega):zaC w (some ⟨g,0,none⟩) n n xs:=zbf.row h (by omega)
section
variable {K K':Nat}{xs ys:List Rat}{A B:oA9}{n n' c d:Nat}{w:World}
theorem vec_dot (hT:zai w)(ha:zaC w A n c xs)(hb:zaC w B n d ys)(hx:zar K xs)(hy:zar K' ys)(hn:n<=1073741824:=by omega)(hK:K<=67108864:=by omega)(hK':K'<=67108864:=by omega)(hS:1+n*(K+K'+1)<=67108864:=by omega):
  Calls Tryz.prog 163 #[.slice A n c,.slice B n d] w (zbo w (dotQ xs ys) true):=by
 have hla:=ha.len
 have hlb:=hb.len
 obtain⟨bx1,bx2,bz⟩:=zax w 53 #[.bool false,.slice none 0 0,.slice none 0 0]
 have H:=lh9 (zjb (λx y=>x*y) 56 #[] xs ys A B n c d _ (ha.keep bx1) (hb.keep bx1) hn en_mul (λi hi w' hb' b b' A A' n n' c c' E E' k k' f f' h1 h2=>by
  rw [Array.append_empty]
  exact zfm ((hT.on bx1).on hb') h1 h2 (hx.at_ (by omega)) (hy.at_ (by omega)) hK hK'))
 have HT:=lh9 (λw' (hb:Below w.heap.size w w')=>hT.on hb)
 have hB:=bx1
 have HK:=lh9 bx2
 have HS:=lh9 (zar.mul hx hy)
 have hN:=hn
 have hS9:=lh9 hS
 clear ha hb hx hy hT bx1 bx2 bz hla hlb hS
 go_enter Tryz.func163,Tryz.ntmps163
 go_wp2_with fail
 refine H.out.mono ?_
 rintro e w1 ⟨g,rfl,-,h2,hb⟩
 have hB:=zaa hB hb
 have hk:=zab hb HK.out
 have HV:=lh9 (zaI h2 hN)
 clear hb HK h2 H
 go_wp2_with fail
 refine(q_sum (HT.out _ hB) HV.out HS.out hN hS9.out).mono ?_
 rintro e w2 ⟨b2,A2,n2,c2,E2,k2,f2,rfl,hw2,hb⟩
 have hB2:=zaa hB hb
 have hk2:=zab hb hk
 obtain⟨sc0,sf0,sc1,sf1,sc2,sf2⟩:=st3 hk2 (.bool b2) (.slice A2 n2 c2)
 obtain⟨r0,r1,r2⟩:=(sn3 hk2 (.bool b2) (.slice A2 n2 c2) (.slice E2 k2 f2)).c3
 have HG:=lh9 (gb3 (r:=dotQ xs ys) true hw2 hk2 hB2 (Nat.le_refl _))
 clear hb hB hk hB2 hk2 hw2 HV HS
 go_wp2
 refine bodyPost_ret (v:=.tuple #[.agg #[.bool b2,.slice A2 n2 c2,.slice E2 k2 f2],.bool true]) (by simp [results,Tryz.results163,go_sem,r0,r1,r2]) rfl ?_
 exact HG.out
end
theorem ratC {T:World->Prop}{M:Nat->Prop}(hTT:∀w,T w->zai w)(h0:M 0->RatG0 T)(h1:M 1->RatG1 T)(h2:M 2->RatG2 T):RatC T M where
 g0:=h0
 g1:=h1
 g2:=h2
 new p q b b' A D n m c d w hT hA hD hn hm h0:=zoi p q b A n c b' D m d w (hTT w hT) hA hD hn hm h0
 newNo p q b b' A D n m c d w hT hA hD hn hm h0:=ziM p q b A n c b' D m d w (hTT w hT) hA hD hn hm h0
 of p q w hT h1 h2 h3 h4 h0:=rat_of p q w (hTT w hT) h1 h2 h3 h4 h0
 ofNo p q w hT h1 h2 h0:=zpp p q w (hTT w hT) h1 h2 (by omega) (by omega) h0
 num r b A n c E k f w hT h hf:=zkJ r b A n c E k f w (hTT w hT) h hf
 den r b A n c E k f w hT h hf:=zkE r b A n c E k f w (hTT w hT) h hf
 sign r b A n c E k f w hT h hf:=ziN r b A n c E k f w (hTT w hT) h hf
 zero r b A n c E k f w hT h hf:=zaS r b A n c E k f w (hTT w hT) h hf
 isInt r b A n c E k f w hT h hf:=zbl r b A n c E k f w (hTT w hT) h hf
 bits r b A n c E k f w hT h hf:=rat_bits r b A n c E k f w (hTT w hT) h hf
 neg r b A n c E k f w hT h hf:=zkI r b A n c E k f w (hTT w hT) h hf
 inv r b A n c E k f w hT h hf h0:=zhU r b A n c E k f w (hTT w hT) h hf h0
 invNo r b A n c E k f w hT h hf h0:=znq r b A n c E k f w (hTT w hT) h hf h0
 add r s b b' A A' n n' c c' E E' k k' f f' w hT h h' hf hf':=zkB r s b A n c E k f b' A' n' c' E' k' f' w (hTT w hT) h h' hf hf'
 cmp r s b b' A A' n n' c c' E E' k k' f f' w hT h h' hf hf':=zog r s b A n c E k f b' A' n' c' E' k' f' w (hTT w hT) h h' hf hf'
 same r s b b' A A' n n' c c' E E' k k' f f' w hT h h' hf hf':=zlR r s b A n c E k f b' A' n' c' E' k' f' w (hTT w hT) h h' hf hf'
def NoK (k:IntKind)(cs:Array Value):Prop:=∀v ∈ cs.toList,∀z,v≠.int k z
theorem zpr {w:World}{A:oA9}{n g:Nat}{k:IntKind}{l:List Nat}{t:TypeId}{cs:Array Value}(h:zas w w.heap.size 1 A n (zaw k l))(hk:Blk w g t cs)(hcs:NoK k cs):0<n->∀ad,A=some ad->ad.block≠g:=λhn ad e hg=>by
 have hl:=h.len_
 obtain⟨ad',e',_,hc⟩:=h.2 hn
 rw [e] at e'
 injection e' with e'
 subst e'
 have h0:=hc 0 (.int k (l.getD 0 0:Nat)) (zcP k _ 0 (by omega))
 have e0:ad.add 0=ad:=by unfold Addr.add;rw [if_pos rfl]
 rw [e0] at h0
 obtain⟨bk,off,pr⟩:=ad
 simp only at hg
 subst hg
 unfold Blk at hk
 cases pr with
 |none=>
   rw [show w.cell? ⟨bk,off,none⟩=cs[off]? from cell_of_row w bk off _ t (0,0) hk,<-Array.getElem?_toList] at h0
   exact hcs _ (List.mem_of_getElem? h0) _ rfl
 |some q=>simp [World.cell?,hk] at h0
theorem zje {w w':World}{x:Nat}{A:oA9}{n c g:Nat}{t:TypeId}{cs:Array Value}(h:zad w x A n c)(hk:Blk w g t cs)(hcs:NoK .u64 cs)(ho:zbd g w w'):zad w' x A n c:=by
 have hne:=zpr h.1 hk hcs
 refine⟨⟨h.1.1,λhn=>?_⟩,h.2⟩
 obtain⟨ad,e,hb,hc⟩:=h.1.2 hn
 refine⟨ad,e,Nat.lt_of_lt_of_le hb ho.1,λj v hv=>?_⟩
 rw [ho.2 (ad.add j) (by rw [zao];exact hb) (by rw [zao];exact hne hn ad e)]
 exact hc j v hv
theorem zcH {w w':World}{g:Nat}{t:TypeId}{cs:Array Value}(hk:Blk w g t cs)(hcs:NoK .u64 cs)(ho:zbd g w w'){r:Rat}{b:Bool}{A:oA9}{n c:Nat}{E:oA9}{k f:Nat}(h:zah w r b A n c E k f):zah w' r b A n c E k f:=by
 obtain⟨⟨h1,h2⟩,x,e,h3⟩:=h
 exact⟨⟨h1,zje h2 hk hcs ho⟩,x,e,zje h3 hk hcs ho⟩
theorem znX (A:oA9)(n c:Nat)(z:Int):NoK .u64 #[.slice A n c,.int .i64 z]:=by intro v hv z9 e;simp at hv;rcases hv with rfl|rfl<;>cases e
theorem ziA (A:oA9)(n c:Nat)(z:Int):∀u ∈(#[.slice A n c,.int .i64 z]:Array Value).toList,∀b,u≠.bool b:=by intro v hv b e;simp at hv;rcases hv with rfl|rfl<;>cases e
theorem zja {w w':World}{A:oA9}{n c g:Nat}{xs:List Rat}{t:TypeId}{cs:Array Value}(h:zaC w A n c xs)(hk:Blk w g t cs)(hs:∀u ∈ cs.toList,∀b,u≠.bool b)(hcs:NoK .u64 cs)(ho:zbd g w w'):zaC w' A n c xs:=
 zoj h hk hs ho (λh5=>zcH hk hcs ho h5)
def TyAt (w:World)(b:Nat)(t:TypeId):Prop:=∃cs,Blk w b t cs
theorem TyAt.below {w w':World}{b:Nat}{t:TypeId}(h:TyAt w b t)(hb:Below w.heap.size w w'):TyAt w' b t:=by
 obtain⟨cs,hk⟩:=h
 exact⟨cs,zab hb hk⟩
theorem TyAt.set_ {w:World}{b:Nat}{t:TypeId}(h:TyAt w b t)(g i:Nat)(v:Value):TyAt (w.setCell ⟨g,i,none⟩ v) b t:=by
 obtain⟨cs,hk⟩:=h
 by_cases hg:b=g
 ·subst hg;exact⟨_,hk.set_ i v⟩
 ·exact⟨cs,Blk.far (p:=⟨g,i,none⟩) hk hg v⟩
theorem TyAt.ne {w:World}{b g:Nat}{t s:TypeId}{cs:Array Value}(h:TyAt w b t)(hk:Blk w g s cs)(hn:t≠s):b≠g:=λe=>by
 obtain⟨ds,hd⟩:=h
 subst e
 unfold Blk at hd hk
 rw [hd] at hk
 injection hk with hk
 injection hk with _ hk
 exact hn hk
structure zaU (w:World)(A:oA9)(n c m:Nat)(M:List (List Rat)):Prop where
 dims:zbe M n m
 fits:n<=c
 most:c<=9223372036854775807
 hn:n<=64
 hm:m<=64
 rows:zay (zaN zah) w A n M
 ty:∀ad,A=some ad->TyAt w ad.block 71
theorem zaU.keep {w w':World}{A:oA9}{n c m:Nat}{M:List (List Rat)}(h:zaU w A n c m M)(hb:Below w.heap.size w w'):zaU w' A n c m M:={h with rows:=h.rows.below (zam zaf) hb,ty:=λad e=>(h.ty ad e).below hb}
theorem zaU.nil (w:World):zaU w none 0 0 0 []:=⟨dims_nil 0,Nat.le_refl _,by decide,by decide,by decide,zay.nil w none,λad e=>by cases e⟩
theorem zaU.offz {w:World}{A:oA9}{n c m g:Nat}{M:List (List Rat)}{t:TypeId}{B:oA9}{p q:Nat}{z:Int}(h:zaU w A n c m M)(hk:Blk w g t #[.slice B p q,.int .i64 z])(x y:Value)(ht:71≠t:=by decide):zaU ((w.setCell ⟨g,0,none⟩ x).setCell ⟨g,1,none⟩ y) A n c m M:=
 { h with
  rows:=h.rows.off (λad e=>(h.ty ad e).ne hk ht) (zbd.of_far (ziG _ _ _ _)) (λh3=>zja h3 hk (ziA _ _ _ _) (znX _ _ _ _) (zbd.of_far (ziG _ _ _ _)))
  ty:=λad e=>((h.ty ad e).set_ _ _ _).set_ _ _ _}
theorem zaC.offz {w:World}{A:oA9}{n c g:Nat}{xs:List Rat}{t:TypeId}{B:oA9}{p q:Nat}{z:Int}(h:zaC w A n c xs)(hk:Blk w g t #[.slice B p q,.int .i64 z])(x y:Value):zaC ((w.setCell ⟨g,0,none⟩ x).setCell ⟨g,1,none⟩ y) A n c xs:=
 zja h hk (ziA _ _ _ _) (znX _ _ _ _) (zbd.of_far (ziG _ _ _ _))
theorem zaU.row {w wr:World}{A:oA9}{n c m:Nat}{M:List (List Rat)}(h:zaU w A n c m M)(hb:Below w.heap.size w wr){i:Nat}(hi:i<n):∃(ad:Addr) (B:oA9) (d:Nat),A=some ad/\ad.block<w.heap.size/\wr.cell? (ad.add i)=some (.slice B m d)/\zaC wr B m d (M.getD i []):=
 h.rows.get (zam zaf) hb hi (h.dims.row hi)
theorem zaU.place {w wr:World}{A:oA9}{n c m:Nat}{M:List (List Rat)}(h:zaU w A n c m M)(hb:Below w.heap.size w wr){i j:Nat}(hi:i<n)(hj:j<m):∃(ad:Addr) (B:oA9) (d:Nat),A=some ad/\ad.block<w.heap.size/\wr.cell? (ad.add i)=some (.slice B m d)/\
  ∃(ae:Addr) (b1:Bool) (B1:oA9) (m1 d1:Nat) (E1:oA9) (u1 v1:Nat),B=some ae/\ae.block<wr.heap.size/\wr.cell? (ae.add (j*3))=some (.bool b1)/\wr.cell? ⟨(ae.add (j*3)).block,(ae.add (j*3)).off+1,none⟩=some (.slice B1 m1 d1)/\wr.cell? ⟨(ae.add (j*3)).block,(ae.add (j*3)).off+2,none⟩=some (.slice E1 u1 v1)/\zah wr (atM M i j) b1 B1 m1 d1 E1 u1 v1:=by
 obtain⟨ad,B,d,e,h1,h2,h3⟩:=h.row hb hi
 obtain⟨ae,b1,B1,m1,d1,E1,u1,v1,e4,h4,h5,h6,h7,h8⟩:=h3.get (Below.refl _ _) hj
 exact⟨ad,B,d,e,h1,h2,ae,b1,B1,m1,d1,E1,u1,v1,e4,h4,h5,h6,h7,h8⟩
def zaB (K:Nat)(M:List (List Rat)):Prop:=∀L ∈ M,zar K L
theorem zaB.up {K K':Nat}{M:List (List Rat)}(h:zaB K M)(e:K<=K'):zaB K' M:=λL hL=>(h L hL).up e
theorem zaB.row {K i:Nat}{M:List (List Rat)}(h:zaB K M)(hi:i<M.length):zar K (M.getD i []):=h _ (List.mem_of_getElem? (zbK hi))
theorem zaB.at_ {K n m i j:Nat}{M:List (List Rat)}(h:zaB K M)(hd:zbe M n m)(hi:i<n)(hj:j<m):SzQ K (atM M i j):=by
 have hl:=hd.rows
 have hr:=hd.row hi
 exact(h.row (i:=i) (by omega)).at_ (by omega)
theorem zaB.nil (K:Nat):zaB K []:=λL hL=>by cases hL
theorem zaB.tab {K n m:Nat}{f:Nat->Nat->Rat}(h:∀r c,r<n->c<m->SzQ K (f r c)):zaB K (zer n m f):=λL hL x hx=>by
 unfold zer at hL
 obtain⟨r,hr,rfl⟩:=List.mem_map.1 hL
 obtain⟨c,hc,rfl⟩:=List.mem_map.1 hx
 exact h r c (List.mem_range.1 hr) (List.mem_range.1 hc)
theorem zaB.col {K n m c:Nat}{M:List (List Rat)}(h:zaB K M)(hd:zbe M n m)(hc:c<m):zar K (colM n M c):=λx hx=>by
 unfold colM at hx
 obtain⟨r,hr,rfl⟩:=List.mem_map.1 hx
 exact h.at_ hd (List.mem_range.1 hr) hc
theorem zaB.mul {K K' n k m:Nat}{A B:List (List Rat)}(hA:zaB K A)(hB:zaB K' B)(dA:zbe A n k)(dB:zbe B k m):zaB (1+k*(K+K'+1)) (mulM n k m A B):=zaB.tab λr c hr hc=>by
 have hl:=dA.rows
 exact dot_sz (dA.row hr) (colM_len k B c) (hA.row (by omega)) (hB.col dB hc)
def zcR (w:World)(n m:Nat)(M:List (List Rat))(e:Ending)(w':World):Prop:=∃(A:oA9) (c:Nat),e=.returned (.agg #[.slice A n c,.int .i64 (m:Int)])/\zaU w' A n c m M/\(∀ad,A=some ad->w.heap.size<=ad.block)/\Below w.heap.size w w'
def zfy (w:World)(n m:Nat)(M:List (List Rat))(e:Ending)(w':World):Prop:=∃(A:oA9) (c:Nat),e=.returned (.tuple #[.agg #[.slice A n c,.int .i64 (m:Int)],.bool true])/\zaU w' A n c m M/\(∀ad,A=some ad->w.heap.size<=ad.block)/\Below w.heap.size w w'
theorem gm2 {w W:World}{A B:oA9}{n c m g p q:Nat}{z:Int}{M:List (List Rat)}(h:zaU W A n c m M)(hf:∀ad,A=some ad->g<ad.block)(k:Blk W g 32 #[.slice B p q,.int .i64 z])(hB:Below w.heap.size w W)(hg:w.heap.size<=g):
  zcR w n m M (.returned (.agg #[.slice A n c,.int .i64 (m:Int)])) ((W.setCell ⟨g,0,none⟩ (.slice A n c)).setCell ⟨g,1,none⟩ (.int .i64 (m:Int))):=
 ⟨A,c,rfl,h.offz k _ _,λad e=>by have:=hf ad e;omega,bl2 _ _ hg hB⟩
theorem gmb2 {w W:World}{A B:oA9}{n c m g p q:Nat}{z:Int}{M:List (List Rat)}(h:zaU W A n c m M)(hf:∀ad,A=some ad->g<ad.block)(k:Blk W g 32 #[.slice B p q,.int .i64 z])(hB:Below w.heap.size w W)(hg:w.heap.size<=g):
  zfy w n m M (.returned (.tuple #[.agg #[.slice A n c,.int .i64 (m:Int)],.bool true])) ((W.setCell ⟨g,0,none⟩ (.slice A n c)).setCell ⟨g,1,none⟩ (.int .i64 (m:Int))):=
 ⟨A,c,rfl,h.offz k _ _,λad e=>by have:=hf ad e;omega,bl2 _ _ hg hB⟩
theorem zfg (A:oA9)(n c:Nat)(z:Int)(w:World):Calls Tryz.prog 29 #[.agg #[.slice A n c,.int .i64 z]] w (λe w'=>e=.returned (.int .i64 (n:Int))/\Below w.heap.size w w'):=by
 obtain⟨bx1,bx2,bz⟩:=zax w 32 #[.slice A n c,.int .i64 z]
 obtain⟨g0,g1⟩:=bx2.c2
 have HB:=lh9 bx1
 clear bx1 bx2 bz
 go_enter Tryz.func29,Tryz.ntmps29
 go_wp2
 go_ret
 exact⟨rfl,HB.out⟩
theorem zbw (A:oA9)(n c:Nat)(z:Int)(w:World):Calls Tryz.prog 34 #[.agg #[.slice A n c,.int .i64 z]] w (λe w'=>e=.returned (.int .i64 z)/\Below w.heap.size w w'):=by
 obtain⟨bx1,bx2,bz⟩:=zax w 32 #[.slice A n c,.int .i64 z]
 obtain⟨g0,g1⟩:=bx2.c2
 have HB:=lh9 bx1
 clear bx1 bx2 bz
 go_enter Tryz.func34,Tryz.ntmps34
 go_wp2
 go_ret
 exact⟨rfl,HB.out⟩
def zhI (r c:Int):Bool:=decide (0<=r)&&decide (r<=64)&&decide (0<=c)&&decide (c<=64)
theorem zlF {n m:Nat}(hn:n<=64)(hm:m<=64):zhI (n:Int) (m:Int)=true:=by
 unfold zhI
 rw [decide_eq_true (show(0:Int)<=(n:Int) by omega),decide_eq_true (show(n:Int)<=64 by omega),decide_eq_true (show(0:Int)<=(m:Int) by omega),decide_eq_true (show(m:Int)<=64 by omega)]
 rfl
theorem mat_may (r c:Int)(w:World):Calls Tryz.prog 113 #[.int .i64 r,.int .i64 c] w (λe w'=>e=.returned (.bool (zhI r c))/\w=w'):=by
 by_cases h1:0<=r
 ·have d1:decide (0<=r)=true:=decide_eq_true h1
  by_cases h2:r<=64
  ·have d2:decide (r<=64)=true:=decide_eq_true h2
   by_cases h3:0<=c
   ·have d3:decide (0<=c)=true:=decide_eq_true h3
    obtain⟨b,d4⟩:∃b,decide (c<=64)=b:=⟨_,rfl⟩
    have e:zhI r c=b:=by unfold zhI;rw [d1,d2,d3,d4];rfl
    rw [e]
    clear h1 h2 h3 e
    go_enter Tryz.func113,Tryz.ntmps113
    go_wp2
    go_ret
    exact⟨rfl,rfl⟩
   ·have d3:decide (0<=c)=false:=decide_eq_false h3
    have e:zhI r c=false:=by unfold zhI;rw [d1,d2,d3];rfl
    rw [e]
    clear h1 h2 h3 e
    go_enter Tryz.func113,Tryz.ntmps113
    go_wp2
    go_ret
    exact⟨rfl,rfl⟩
  ·have d2:decide (r<=64)=false:=decide_eq_false h2
   have e:zhI r c=false:=by unfold zhI;rw [d1,d2];rfl
   rw [e]
   clear h1 h2 e
   go_enter Tryz.func113,Tryz.ntmps113
   go_wp2
   go_ret
   exact⟨rfl,rfl⟩
 ·have d1:decide (0<=r)=false:=decide_eq_false h1
  have e:zhI r c=false:=by unfold zhI;rw [d1];rfl
  rw [e]
  clear h1 e
  go_enter Tryz.func113,Tryz.ntmps113
  go_wp2
  go_ret
  exact⟨rfl,rfl⟩
def inB (r:Int)(n:Nat):Bool:=decide (0<=r)&&decide (r<(n:Int))
theorem zkp {k n:Nat}(h:k<n):inB (k:Int) n=true:=by
 unfold inB
 rw [decide_eq_true (show(0:Int)<=(k:Int) by omega),decide_eq_true (show(k:Int)<(n:Int) by omega)]
 rfl
theorem znb (A:oA9)(n c:Nat)(z r:Int)(w:World):Calls Tryz.prog 95 #[.agg #[.slice A n c,.int .i64 z],.int .i64 r] w (λe w'=>e=.returned (.bool (inB r n))/\Below w.heap.size w w'):=by
 obtain⟨bx1,bx2,bz⟩:=zax w 32 #[.slice A n c,.int .i64 z]
 obtain⟨g0,g1⟩:=bx2.c2
 have HB:=lh9 bx1
 clear bx1 bx2 bz
 by_cases h1:0<=r
 ·have d1:decide (0<=r)=true:=decide_eq_true h1
  obtain⟨b,d4⟩:∃b,decide (r<(n:Int))=b:=⟨_,rfl⟩
  have e:inB r n=b:=by unfold inB;rw [d1,d4];rfl
  rw [e]
  clear h1 e
  have H:=λW=>lh9 (zfg A n c z W)
  go_enter Tryz.func95,Tryz.ntmps95
  go_wp2_with fail
  refine(H _).out.mono ?_
  rintro e w1 ⟨rfl,hb⟩
  have HB2:=lh9 (zaa HB.out hb)
  clear hb
  go_wp2
  go_ret
  exact⟨rfl,HB2.out⟩
 ·have d1:decide (0<=r)=false:=decide_eq_false h1
  have e:inB r n=false:=by unfold inB;rw [d1];rfl
  rw [e]
  clear h1 e
  go_enter Tryz.func95,Tryz.ntmps95
  go_wp2
  go_ret
  exact⟨rfl,HB.out⟩
theorem zna (A:oA9)(n c m:Nat)(r:Int)(w:World):Calls Tryz.prog 105 #[.agg #[.slice A n c,.int .i64 (m:Int)],.int .i64 r] w (λe w'=>e=.returned (.bool (inB r m))/\Below w.heap.size w w'):=by
 obtain⟨bx1,bx2,bz⟩:=zax w 32 #[.slice A n c,.int .i64 (m:Int)]
 obtain⟨g0,g1⟩:=bx2.c2
 have HB:=lh9 bx1
 clear bx1 bx2 bz
 by_cases h1:0<=r
 ·have d1:decide (0<=r)=true:=decide_eq_true h1
  obtain⟨b,d4⟩:∃b,decide (r<(m:Int))=b:=⟨_,rfl⟩
  have e:inB r m=b:=by unfold inB;rw [d1,d4];rfl
  rw [e]
  clear h1 e
  go_enter Tryz.func105,Tryz.ntmps105
  go_wp2
  go_ret
  exact⟨rfl,HB.out⟩
 ·have d1:decide (0<=r)=false:=decide_eq_false h1
  have e:inB r m=false:=by unfold inB;rw [d1];rfl
  rw [e]
  clear h1 e
  go_enter Tryz.func105,Tryz.ntmps105
  go_wp2
  go_ret
  exact⟨rfl,HB.out⟩
section
variable {P:Program}{ops:Array Oper}{Q:Exit->Act->World->Prop}{S:World->Prop}{fuel:Nat}{l:Array Bool}{a:Act}{w:World}
theorem rcb (i j:Nat){o p:Oper}(hk:∀K':Act->World->Prop,Shut (∀(a:Act) (w:World),S w->(S w->wpAnyH P .any ops (NoPanic Q) S fuel (l.setIfInBounds i true) a w)->K' a w)->Oper.wp P o a w K' (NoPanic Q))(hj:∀K':Act->World->Prop,Shut (∀(a:Act) (w:World),S w->(S w->wpAnyH P .any ops (NoPanic Q) S fuel (l.setIfInBounds j true) a w)->K' a w)->Oper.wp P p a w K' (NoPanic Q))(h1:ops[i]?=some o:=by simp only [List.getElem?_toArray,List.getElem?_cons_succ,List.getElem?_cons_zero];rfl)(h1':ops[j]?=some p:=by simp only [List.getElem?_toArray,List.getElem?_cons_succ,List.getElem?_cons_zero];rfl)(h2:Region.ready .any ops l=[i,j]:=by kernel_rfl)(h3:Region.wanted o (yielded ops a.tmps)=true:=by rfl)(h3':Region.wanted p (yielded ops a.tmps)=true:=by rfl):wpAnyH P .any ops (NoPanic Q) S (fuel+1) l a w:=
 wpAnyH_ready h2 (by simp) (AllReadyH.cons h1 (λK' hK=>by rw [if_pos h3];exact hk K' hK) (AllReadyH.cons h1' (λK' hK=>by rw [if_pos h3'];exact hj K' hK) AllReadyH.nil))
end
theorem may_of {r c:Int}{b:Bool}(h:zhI r c=b)(w:World):Calls Tryz.prog 113 #[.int .i64 r,.int .i64 c] w (λe w'=>e=.returned (.bool b)/\w=w'):=h▸mat_may r c w
theorem mat_mf (fn:Fn)(first cap:Array Value)(w:World):(Instr.makeFunc fn first cap).run Tryz.prog w=.ok (.func fn first cap) w:=rfl
section
variable {A:oA9}{n c m K:Nat}{MM:List (List Rat)}{w:World}
end
structure zeZ (w:World)(base g n cap:Nat)(Ls:List (List Rat)):Prop where
 ge:base<=g
 len:Ls.length=n
 fits:n<=cap
 most:cap<=9223372036854775807
 blk:∃cs:Array Value,Blk w g 71 cs/\(∀u ∈ cs.toList,zcj u)/\cs.size=cap
 num:∀i L,Ls[i]?=some L->∃(B:oA9) (d:Nat),w.cell? ⟨g,i,none⟩=some (.slice B L.length d)/\zaC w B L.length d L
theorem zeZ.below {w w':World}{base g n cap:Nat}{Ls:List (List Rat)}(h:zeZ w base g n cap Ls)(hb:Below w.heap.size w w'):zeZ w' base g n cap Ls:=by
 refine⟨h.ge,h.len,h.fits,h.most,?_,λi L hi=>?_⟩
 ·obtain⟨cs,hk,h1,h2⟩:=h.blk
  exact⟨cs,zab hb hk,h1,h2⟩
 ·obtain⟨B,d,h1,h2⟩:=h.num i L hi
  exact⟨B,d,zac hb h1,zaC.keep h2 hb⟩
theorem zeZ.rows {w:World}{base g n cap:Nat}{Ls:List (List Rat)}(h:zeZ w base g n cap Ls):zay (zaN zah) w (some ⟨g,0,none⟩) n Ls:=
 ⟨h.len,λi L hi=>by
  obtain⟨cs,hk,_⟩:=h.blk
  obtain⟨B,d,h1,h2⟩:=h.num i L hi
  exact⟨_,B,d,rfl,hk.lt,by rw [zaO];exact h1,h2⟩⟩
theorem zbp {zs:List Int}(h:∀z ∈ zs,-9223372036854775808<=z/\z<=9223372036854775807):zar 1 (ofL zs):=λx hx=>by
 obtain⟨z,hz,rfl⟩:=List.mem_map.1 hx
 exact SzQ.whole (zgO (h z hz).1 (h z hz).2) (by decide)
theorem zca (zs:List Int)(n:Nat)(hn:zs.length=n){w:World}{g:Nat}{t:TypeId}(h:Blk w g t (zs.map (Value.int .i64)).toArray)(hz:∀z ∈ zs,-9223372036854775808<=z/\z<=9223372036854775807):zda w (some ⟨g,0,none⟩) n zs:=by
 subst hn
 exact⟨rfl,λi hi=>by
  rw [List.getD_eq_getElem?_getD,List.getElem?_eq_getElem hi]
  exact hz _ (List.getElem_mem hi),λi hi=>⟨_,rfl,by
  rw [zaO,h.cell,List.getD_eq_getElem?_getD,List.getElem?_eq_getElem hi]
  simp [hi]⟩⟩
theorem qc10:RatC zai (λ_=>False):=ratC (λ_ h=>h) (λh=>h.elim) (λh=>h.elim) (λh=>h.elim)
