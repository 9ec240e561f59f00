/- What this claim leans on. -/
import Derived.Test.YtcojjcjgbepicaaGreatDoorEMRow
namespace Go.Proofs.YtcojjcjgbepicaaGreatDoor
open Go Go.RowKit
set_option maxHeartbeats 16000000
set_option maxRecDepth 100000
set_option linter.unusedVariables false
set_option linter.unusedSimpArgs false
theorem zcX (p:Int)(w:World)(hT:zaj w)(hp1: -9223372036854775808<=p)(hp2:p<=9223372036854775807):
  Calls Tryz.prog 47 #[.int .i64 p] w (zaH w (p:Rat)):=by
 have HIC:=lh9 (zbE (T:=zaj))
 have HT:=lh9 (λw' (hb:Below w.heap.size w w')=>hT.on hb)
 have HTB:=HT
 obtain⟨K,hKe⟩:∃K,67108864=K:=⟨_,rfl⟩
 have hKK:K<=67108864:=by omega
 have hK0:0<K:=by omega
 clear hT hKe
 go_enter Tryz.func47,Tryz.ntmps47
 have hB:=Below.refl w.heap.size w
 obtain⟨bx1,bx2,bz⟩:=zaw w 53 #[.bool false,.slice none 0 0,.slice none 0 0]
 have hB:=zaa hB bx1
 have k1:=bx2
 clear bx1 bx2 bz
 go_wp2_with fail
 generalize w.alloc (.cells #[.bool false,.slice none 0 0,.slice none 0 0] 53)=W1 at*
 have HZ2:Hid (Sz (1) (p).natAbs):=(by show Int.natAbs p<18446744073709551616^1;have e1: -9223372036854775808<=p:=hp1;have e2:p<=9223372036854775807:=hp2;omega)
 (with_reducible refine(HIC.out.of p _ (HT.out _ hB) hp1 hp2).mono ?_)
 rintro e wc2 ⟨b2,B2,m2,d2,rfl,hw2,hb⟩
 have hB:=zaa hB hb
 have k1:=zab hb k1
 have HN2:=lh9 hw2
 clear hb hw2
 obtain⟨sc0,sf0,sc1,sf1,sc2,sf2⟩:=st3 k1 (.bool b2) (.slice B2 m2 d2)
 obtain⟨r0,r1,r2⟩:=(sn3 k1 (.bool b2) (.slice B2 m2 d2) (.slice none 0 0)).c3
 have HG:=lh9 (gq3 (zes HN2.out) k1 hB (by omega))
 go_wp2
 refine bodyPost_ret (v:=.agg #[.bool b2,.slice B2 m2 d2,.slice none 0 0]) (by simp [results,Tryz.results47,go_sem,r0,r1,r2]) rfl ?_
 exact HG.out
theorem zhg (z:Int)(baa:Bool)(Baa:oA9)(maa daa:Nat)(w:World)(hT:zaj w)(haa:zaB w z baa Baa maa daa)(qaa:maa<=67108864):
  Calls Tryz.prog 176 #[.agg #[.bool baa,.slice Baa maa daa]] w (zaH w (z:Rat)):=by
 have HT:=lh9 (λw' (hb:Below w.heap.size w w')=>hT.on hb)
 have HTB:=HT
 obtain⟨K,hKe⟩:∃K,67108864=K:=⟨_,rfl⟩
 have hKK:K<=67108864:=by omega
 have hK0:0<K:=by omega
 have HNaa:=lh9 (λw' (b:Below w.heap.size w w')=>haa.below b)
 have HZaa:Hid (Sz K z.natAbs):=Sz.of_words haa.words (by omega)
 clear haa qaa
 clear hT hKe
 go_enter Tryz.func176,Tryz.ntmps176
 have hB:=Below.refl w.heap.size w
 obtain⟨bx1,bx2,bx3,bz⟩:=zbz w 51 53 #[.bool baa,.slice Baa maa daa] #[.bool false,.slice none 0 0,.slice none 0 0]
 have hB:=zaa hB bx1
 obtain⟨g1,e1⟩:=bx2.c2
 have k2:=bx3
 clear bx1 bx2 bx3 bz
 go_wp2_with fail
 generalize (w.alloc (.cells #[.bool baa,.slice Baa maa daa] 51)).alloc (.cells #[.bool false,.slice none 0 0,.slice none 0 0] 53)=W1 at*
 have HZ3:Hid (Sz (K) (z).natAbs):=HZaa.out
 (with_reducible refine(zgi (z) baa Baa maa daa _ (HT.out _ hB) (HNaa.out _ hB) (szi HZaa (HNaa.out _ hB))).mono ?_)
 rintro e wc2 ⟨b3,B3,m3,d3,rfl,hw3,hb⟩
 have hB:=zaa hB hb
 have g1:=zac hb g1
 have e1:=zac hb e1
 have k2:=zab hb k2
 have HN3:=lh9 hw3
 clear hb hw3
 obtain⟨sc0,sf0,sc1,sf1,sc2,sf2⟩:=st3 k2 (.bool b3) (.slice B3 m3 d3)
 obtain⟨r0,r1,r2⟩:=(sn3 k2 (.bool b3) (.slice B3 m3 d3) (.slice none 0 0)).c3
 have HG:=lh9 (gq3 (zes HN3.out) k2 hB (by omega))
 go_wp2
 refine bodyPost_ret (v:=.agg #[.bool b3,.slice B3 m3 d3,.slice none 0 0]) (by simp [results,Tryz.results176,go_sem,r0,r1,r2]) rfl ?_
 exact HG.out
def NoK (k:IntKind)(cs:Array Value):Prop:=∀v ∈ cs.toList,∀z,v≠.int k z
theorem zpx {w:World}{A:oA9}{n g:Nat}{k:IntKind}{l:List Nat}{t:TypeId}{cs:Array Value}(h:zar w w.heap.size 1 A n (zax k l))(hk:Blk w g t cs)(hcs:NoK k cs):0<n->∀ad,A=some ad->ad.block≠g:=λhn ad e hg=>by
 have hl:=h.len_
 obtain⟨ad',e',_,hc⟩:=h.2 hn
 rw [e] at e'
 injection e' with e'
 subst e'
 have h0:=hc 0 (.int k (l.getD 0 0:Nat)) (zcP k _ 0 (by omega))
 have e0:ad.add 0=ad:=by unfold Addr.add;rw [if_pos rfl]
 rw [e0] at h0
 obtain⟨bk,off,pr⟩:=ad
 simp only at hg
 subst hg
 unfold Blk at hk
 cases pr with
 |none=>
   rw [show w.cell? ⟨bk,off,none⟩=cs[off]? from cell_of_row w bk off _ t (0,0) hk,<-Array.getElem?_toList] at h0
   exact hcs _ (List.mem_of_getElem? h0) _ rfl
 |some q=>simp [World.cell?,hk] at h0
theorem zje {w w':World}{x:Nat}{A:oA9}{n c g:Nat}{t:TypeId}{cs:Array Value}(h:zad w x A n c)(hk:Blk w g t cs)(hcs:NoK .u64 cs)(ho:zbe g w w'):zad w' x A n c:=by
 have hne:=zpx h.1 hk hcs
 refine⟨⟨h.1.1,λhn=>?_⟩,h.2⟩
 obtain⟨ad,e,hb,hc⟩:=h.1.2 hn
 refine⟨ad,e,Nat.lt_of_lt_of_le hb ho.1,λj v hv=>?_⟩
 rw [ho.2 (ad.add j) (by rw [zao];exact hb) (by rw [zao];exact hne hn ad e)]
 exact hc j v hv
theorem zcF {w w':World}{g:Nat}{t:TypeId}{cs:Array Value}(hk:Blk w g t cs)(hcs:NoK .u64 cs)(ho:zbe g w w'){r:Rat}{b:Bool}{A:oA9}{n c:Nat}{E:oA9}{k f:Nat}(h:zai w r b A n c E k f):zai w' r b A n c E k f:=by
 obtain⟨⟨h1,h2⟩,x,e,h3⟩:=h
 exact⟨⟨h1,zje h2 hk hcs ho⟩,x,e,zje h3 hk hcs ho⟩
theorem zob (A:oA9)(n c:Nat)(z:Int):NoK .u64 #[.slice A n c,.int .i64 z]:=by intro v hv z9 e;simp at hv;rcases hv with rfl|rfl<;>cases e
theorem ziB (A:oA9)(n c:Nat)(z:Int):∀u ∈(#[.slice A n c,.int .i64 z]:Array Value).toList,∀b,u≠.bool b:=by intro v hv b e;simp at hv;rcases hv with rfl|rfl<;>cases e
theorem zjb {w w':World}{A:oA9}{n c g:Nat}{xs:List Rat}{t:TypeId}{cs:Array Value}(h:zaC w A n c xs)(hk:Blk w g t cs)(hs:∀u ∈ cs.toList,∀b,u≠.bool b)(hcs:NoK .u64 cs)(ho:zbe g w w'):zaC w' A n c xs:=
 zoo h hk hs ho (λh5=>zcF hk hcs ho h5)
def TyAt (w:World)(b:Nat)(t:TypeId):Prop:=∃cs,Blk w b t cs
theorem TyAt.below {w w':World}{b:Nat}{t:TypeId}(h:TyAt w b t)(hb:Below w.heap.size w w'):TyAt w' b t:=by
 obtain⟨cs,hk⟩:=h
 exact⟨cs,zab hb hk⟩
theorem TyAt.set_ {w:World}{b:Nat}{t:TypeId}(h:TyAt w b t)(g i:Nat)(v:Value):TyAt (w.setCell ⟨g,i,none⟩ v) b t:=by
 obtain⟨cs,hk⟩:=h
 by_cases hg:b=g
 ·subst hg;exact⟨_,hk.set_ i v⟩
 ·exact⟨cs,Blk.far (p:=⟨g,i,none⟩) hk hg v⟩
theorem TyAt.ne {w:World}{b g:Nat}{t s:TypeId}{cs:Array Value}(h:TyAt w b t)(hk:Blk w g s cs)(hn:t≠s):b≠g:=λe=>by
 obtain⟨ds,hd⟩:=h
 subst e
 unfold Blk at hd hk
 rw [hd] at hk
 injection hk with hk
 injection hk with _ hk
 exact hn hk
structure zaS (w:World)(A:oA9)(n c m:Nat)(M:List (List Rat)):Prop where
 dims:zaW M n m
 fits:n<=c
 most:c<=9223372036854775807
 hn:n<=64
 hm:m<=64
 rows:zaz (zaN zai) w A n M
 ty:∀ad,A=some ad->TyAt w ad.block 71
theorem zaS.keep {w w':World}{A:oA9}{n c m:Nat}{M:List (List Rat)}(h:zaS w A n c m M)(hb:Below w.heap.size w w'):zaS w' A n c m M:={h with rows:=h.rows.below (zam zaf) hb,ty:=λad e=>(h.ty ad e).below hb}
theorem zaS.nil (w:World):zaS w none 0 0 0 []:=⟨dims_nil 0,Nat.le_refl _,by decide,by decide,by decide,zaz.nil w none,λad e=>by cases e⟩
theorem zaS.offz {w:World}{A:oA9}{n c m g:Nat}{M:List (List Rat)}{t:TypeId}{B:oA9}{p q:Nat}{z:Int}(h:zaS w A n c m M)(hk:Blk w g t #[.slice B p q,.int .i64 z])(x y:Value)(ht:71≠t:=by decide):zaS ((w.setCell ⟨g,0,none⟩ x).setCell ⟨g,1,none⟩ y) A n c m M:=
 { h with
  rows:=h.rows.off (λad e=>(h.ty ad e).ne hk ht) (zbe.of_far (zhG _ _ _ _)) (λh3=>zjb h3 hk (ziB _ _ _ _) (zob _ _ _ _) (zbe.of_far (zhG _ _ _ _)))
  ty:=λad e=>((h.ty ad e).set_ _ _ _).set_ _ _ _}
theorem zaC.offz {w:World}{A:oA9}{n c g:Nat}{xs:List Rat}{t:TypeId}{B:oA9}{p q:Nat}{z:Int}(h:zaC w A n c xs)(hk:Blk w g t #[.slice B p q,.int .i64 z])(x y:Value):zaC ((w.setCell ⟨g,0,none⟩ x).setCell ⟨g,1,none⟩ y) A n c xs:=
 zjb h hk (ziB _ _ _ _) (zob _ _ _ _) (zbe.of_far (zhG _ _ _ _))
theorem zaS.row {w wr:World}{A:oA9}{n c m:Nat}{M:List (List Rat)}(h:zaS w A n c m M)(hb:Below w.heap.size w wr){i:Nat}(hi:i<n):∃(ad:Addr) (B:oA9) (d:Nat),A=some ad/\ad.block<w.heap.size/\wr.cell? (ad.add i)=some (.slice B m d)/\zaC wr B m d (M.getD i []):=
 h.rows.get (zam zaf) hb hi (h.dims.row hi)
theorem zaS.place {w wr:World}{A:oA9}{n c m:Nat}{M:List (List Rat)}(h:zaS w A n c m M)(hb:Below w.heap.size w wr){i j:Nat}(hi:i<n)(hj:j<m):∃(ad:Addr) (B:oA9) (d:Nat),A=some ad/\ad.block<w.heap.size/\wr.cell? (ad.add i)=some (.slice B m d)/\
  ∃(ae:Addr) (b1:Bool) (B1:oA9) (m1 d1:Nat) (E1:oA9) (u1 v1:Nat),B=some ae/\ae.block<wr.heap.size/\wr.cell? (ae.add (j*3))=some (.bool b1)/\wr.cell? ⟨(ae.add (j*3)).block,(ae.add (j*3)).off+1,none⟩=some (.slice B1 m1 d1)/\wr.cell? ⟨(ae.add (j*3)).block,(ae.add (j*3)).off+2,none⟩=some (.slice E1 u1 v1)/\zai wr (atM M i j) b1 B1 m1 d1 E1 u1 v1:=by
 obtain⟨ad,B,d,e,h1,h2,h3⟩:=h.row hb hi
 obtain⟨ae,b1,B1,m1,d1,E1,u1,v1,e4,h4,h5,h6,h7,h8⟩:=h3.get (Below.refl _ _) hj
 exact⟨ad,B,d,e,h1,h2,ae,b1,B1,m1,d1,E1,u1,v1,e4,h4,h5,h6,h7,h8⟩
def zaA (K:Nat)(M:List (List Rat)):Prop:=∀L ∈ M,zat K L
theorem zaA.up {K K':Nat}{M:List (List Rat)}(h:zaA K M)(e:K<=K'):zaA K' M:=λL hL=>(h L hL).up e
theorem zaA.row {K i:Nat}{M:List (List Rat)}(h:zaA K M)(hi:i<M.length):zat K (M.getD i []):=h _ (List.mem_of_getElem? (zbV hi))
theorem zaA.at_ {K n m i j:Nat}{M:List (List Rat)}(h:zaA K M)(hd:zaW M n m)(hi:i<n)(hj:j<m):SzQ K (atM M i j):=by
 have hl:=hd.rows
 have hr:=hd.row hi
 exact(h.row (i:=i) (by omega)).at_ (by omega)
theorem zaA.nil (K:Nat):zaA K []:=λL hL=>by cases hL
theorem zaA.tab {K n m:Nat}{f:Nat->Nat->Rat}(h:∀r c,r<n->c<m->SzQ K (f r c)):zaA K (zdy n m f):=λL hL x hx=>by
 unfold zdy at hL
 obtain⟨r,hr,rfl⟩:=List.mem_map.1 hL
 obtain⟨c,hc,rfl⟩:=List.mem_map.1 hx
 exact h r c (List.mem_range.1 hr) (List.mem_range.1 hc)
theorem zaA.turn {K n m:Nat}{M:List (List Rat)}(h:zaA K M)(hd:zaW M n m):zaA K (ziW n m M):=zaA.tab λr c hr hc=>h.at_ hd hc hr
theorem zaA.col {K n m c:Nat}{M:List (List Rat)}(h:zaA K M)(hd:zaW M n m)(hc:c<m):zat K (colM n M c):=λx hx=>by
 unfold colM at hx
 obtain⟨r,hr,rfl⟩:=List.mem_map.1 hx
 exact h.at_ hd (List.mem_range.1 hr) hc
theorem zaA.mul {K K' n k m:Nat}{A B:List (List Rat)}(hA:zaA K A)(hB:zaA K' B)(dA:zaW A n k)(dB:zaW B k m):zaA (1+k*(K+K'+1)) (mulM n k m A B):=zaA.tab λr c hr hc=>by
 have hl:=dA.rows
 exact dot_sz (dA.row hr) (colM_len k B c) (hA.row (by omega)) (hB.col dB hc)
def zci (w:World)(n m:Nat)(M:List (List Rat))(e:Ending)(w':World):Prop:=∃(A:oA9) (c:Nat),e=.returned (.agg #[.slice A n c,.int .i64 (m:Int)])/\zaS w' A n c m M/\(∀ad,A=some ad->w.heap.size<=ad.block)/\Below w.heap.size w w'
def zfw (w:World)(n m:Nat)(M:List (List Rat))(e:Ending)(w':World):Prop:=∃(A:oA9) (c:Nat),e=.returned (.tuple #[.agg #[.slice A n c,.int .i64 (m:Int)],.bool true])/\zaS w' A n c m M/\(∀ad,A=some ad->w.heap.size<=ad.block)/\Below w.heap.size w w'
theorem gm2 {w W:World}{A B:oA9}{n c m g p q:Nat}{z:Int}{M:List (List Rat)}(h:zaS W A n c m M)(hf:∀ad,A=some ad->g<ad.block)(k:Blk W g 32 #[.slice B p q,.int .i64 z])(hB:Below w.heap.size w W)(hg:w.heap.size<=g):
  zci w n m M (.returned (.agg #[.slice A n c,.int .i64 (m:Int)])) ((W.setCell ⟨g,0,none⟩ (.slice A n c)).setCell ⟨g,1,none⟩ (.int .i64 (m:Int))):=
 ⟨A,c,rfl,h.offz k _ _,λad e=>by have:=hf ad e;omega,bl2 _ _ hg hB⟩
theorem gmb2 {w W:World}{A B:oA9}{n c m g p q:Nat}{z:Int}{M:List (List Rat)}(h:zaS W A n c m M)(hf:∀ad,A=some ad->g<ad.block)(k:Blk W g 32 #[.slice B p q,.int .i64 z])(hB:Below w.heap.size w W)(hg:w.heap.size<=g):
  zfw w n m M (.returned (.tuple #[.agg #[.slice A n c,.int .i64 (m:Int)],.bool true])) ((W.setCell ⟨g,0,none⟩ (.slice A n c)).setCell ⟨g,1,none⟩ (.int .i64 (m:Int))):=
 ⟨A,c,rfl,h.offz k _ _,λad e=>by have:=hf ad e;omega,bl2 _ _ hg hB⟩
theorem zbu (A:oA9)(n c:Nat)(z:Int)(w:World):Calls Tryz.prog 29 #[.agg #[.slice A n c,.int .i64 z]] w (λe w'=>e=.returned (.int .i64 (n:Int))/\Below w.heap.size w w'):=by
 obtain⟨bx1,bx2,bz⟩:=zaw w 32 #[.slice A n c,.int .i64 z]
 obtain⟨g0,g1⟩:=bx2.c2
 have HB:=lh9 bx1
 clear bx1 bx2 bz
 go_enter Tryz.func29,Tryz.ntmps29
 go_wp2
 go_ret
 exact⟨rfl,HB.out⟩
theorem zbK (A:oA9)(n c:Nat)(z:Int)(w:World):Calls Tryz.prog 34 #[.agg #[.slice A n c,.int .i64 z]] w (λe w'=>e=.returned (.int .i64 z)/\Below w.heap.size w w'):=by
 obtain⟨bx1,bx2,bz⟩:=zaw w 32 #[.slice A n c,.int .i64 z]
 obtain⟨g0,g1⟩:=bx2.c2
 have HB:=lh9 bx1
 clear bx1 bx2 bz
 go_enter Tryz.func34,Tryz.ntmps34
 go_wp2
 go_ret
 exact⟨rfl,HB.out⟩
def zhF (r c:Int):Bool:=decide (0<=r)&&decide (r<=64)&&decide (0<=c)&&decide (c<=64)
theorem zlN {n m:Nat}(hn:n<=64)(hm:m<=64):zhF (n:Int) (m:Int)=true:=by
 unfold zhF
 rw [decide_eq_true (show(0:Int)<=(n:Int) by omega),decide_eq_true (show(n:Int)<=64 by omega),decide_eq_true (show(0:Int)<=(m:Int) by omega),decide_eq_true (show(m:Int)<=64 by omega)]
 rfl
theorem mat_may (r c:Int)(w:World):Calls Tryz.prog 113 #[.int .i64 r,.int .i64 c] w (λe w'=>e=.returned (.bool (zhF r c))/\w=w'):=by
 by_cases h1:0<=r
 ·have d1:decide (0<=r)=true:=decide_eq_true h1
  by_cases h2:r<=64
  ·have d2:decide (r<=64)=true:=decide_eq_true h2
   by_cases h3:0<=c
   ·have d3:decide (0<=c)=true:=decide_eq_true h3
    obtain⟨b,d4⟩:∃b,decide (c<=64)=b:=⟨_,rfl⟩
    have e:zhF r c=b:=by unfold zhF;rw [d1,d2,d3,d4];rfl
    rw [e]
    clear h1 h2 h3 e
    go_enter Tryz.func113,Tryz.ntmps113
    go_wp2
    go_ret
    exact⟨rfl,rfl⟩
   ·have d3:decide (0<=c)=false:=decide_eq_false h3
    have e:zhF r c=false:=by unfold zhF;rw [d1,d2,d3];rfl
    rw [e]
    clear h1 h2 h3 e
    go_enter Tryz.func113,Tryz.ntmps113
    go_wp2
    go_ret
    exact⟨rfl,rfl⟩
  ·have d2:decide (r<=64)=false:=decide_eq_false h2
   have e:zhF r c=false:=by unfold zhF;rw [d1,d2];rfl
   rw [e]
   clear h1 h2 e
   go_enter Tryz.func113,Tryz.ntmps113
   go_wp2
   go_ret
   exact⟨rfl,rfl⟩
 ·have d1:decide (0<=r)=false:=decide_eq_false h1
  have e:zhF r c=false:=by unfold zhF;rw [d1];rfl
  rw [e]
  clear h1 e
  go_enter Tryz.func113,Tryz.ntmps113
  go_wp2
  go_ret
  exact⟨rfl,rfl⟩
def inB (r:Int)(n:Nat):Bool:=decide (0<=r)&&decide (r<(n:Int))
theorem zkr {k n:Nat}(h:k<n):inB (k:Int) n=true:=by
 unfold inB
 rw [decide_eq_true (show(0:Int)<=(k:Int) by omega),decide_eq_true (show(k:Int)<(n:Int) by omega)]
 rfl
theorem zng (A:oA9)(n c:Nat)(z r:Int)(w:World):Calls Tryz.prog 95 #[.agg #[.slice A n c,.int .i64 z],.int .i64 r] w (λe w'=>e=.returned (.bool (inB r n))/\Below w.heap.size w w'):=by
 obtain⟨bx1,bx2,bz⟩:=zaw w 32 #[.slice A n c,.int .i64 z]
 obtain⟨g0,g1⟩:=bx2.c2
 have HB:=lh9 bx1
 clear bx1 bx2 bz
 by_cases h1:0<=r
 ·have d1:decide (0<=r)=true:=decide_eq_true h1
  obtain⟨b,d4⟩:∃b,decide (r<(n:Int))=b:=⟨_,rfl⟩
  have e:inB r n=b:=by unfold inB;rw [d1,d4];rfl
  rw [e]
  clear h1 e
  have H:=λW=>lh9 (zbu A n c z W)
  go_enter Tryz.func95,Tryz.ntmps95
  go_wp2_with fail
  refine(H _).out.mono ?_
  rintro e w1 ⟨rfl,hb⟩
  have HB2:=lh9 (zaa HB.out hb)
  clear hb
  go_wp2
  go_ret
  exact⟨rfl,HB2.out⟩
 ·have d1:decide (0<=r)=false:=decide_eq_false h1
  have e:inB r n=false:=by unfold inB;rw [d1];rfl
  rw [e]
  clear h1 e
  go_enter Tryz.func95,Tryz.ntmps95
  go_wp2
  go_ret
  exact⟨rfl,HB.out⟩
theorem znf (A:oA9)(n c m:Nat)(r:Int)(w:World):Calls Tryz.prog 105 #[.agg #[.slice A n c,.int .i64 (m:Int)],.int .i64 r] w (λe w'=>e=.returned (.bool (inB r m))/\Below w.heap.size w w'):=by
 obtain⟨bx1,bx2,bz⟩:=zaw w 32 #[.slice A n c,.int .i64 (m:Int)]
 obtain⟨g0,g1⟩:=bx2.c2
 have HB:=lh9 bx1
 clear bx1 bx2 bz
 by_cases h1:0<=r
 ·have d1:decide (0<=r)=true:=decide_eq_true h1
  obtain⟨b,d4⟩:∃b,decide (r<(m:Int))=b:=⟨_,rfl⟩
  have e:inB r m=b:=by unfold inB;rw [d1,d4];rfl
  rw [e]
  clear h1 e
  go_enter Tryz.func105,Tryz.ntmps105
  go_wp2
  go_ret
  exact⟨rfl,HB.out⟩
 ·have d1:decide (0<=r)=false:=decide_eq_false h1
  have e:inB r m=false:=by unfold inB;rw [d1];rfl
  rw [e]
  clear h1 e
  go_enter Tryz.func105,Tryz.ntmps105
  go_wp2
  go_ret
  exact⟨rfl,HB.out⟩
theorem gq0 {w w':World}{r:Rat}{b:Bool}{A E:oA9}{n c k f:Nat}(h:zai w' r b A n c E k f)(hb:Below w.heap.size w w'):zaH w r (.returned (.agg #[.bool b,.slice A n c,.slice E k f])) w':=⟨_,_,_,_,_,_,_,rfl,h,hb⟩
section
variable {A:oA9}{n c m:Nat}{M:List (List Rat)}{w:World}
theorem zmO:∀(args:Array Value) (w':World),Sem.run Tryz.prog (callFunc 72 args) w'=.ok (.enter 72 args) w':=Go.Proofs.enters_of Tryz.func72 (by kernel_rfl) rfl
theorem zoC {g i j:Nat}(h:zaS w A n c m M)(hk:Blk w g 32 #[.slice A n c,.int .i64 (m:Int)])(hi:i<n)(hj:j<m):Calls Tryz.prog 72 #[.int .i64 (j:Int),.int .i64 (i:Int),.pointer (some ⟨g,0,none⟩)] w (zaH w (atM M i j)):=by
 obtain⟨bx1,bx2,bz⟩:=zaw w 53 #[.bool false,.slice none 0 0,.slice none 0 0]
 obtain⟨ad,B,d,rfl,-,hc,ae,b1,B1,m1,d1,E1,u1,v1,rfl,-,h0,h1,h2,hq⟩:=h.place (Below.refl _ w) hi hj
 obtain⟨g0,g1⟩:=(zab bx1 hk).c2
 have hc:=zac bx1 hc
 have h0:=zac bx1 h0
 have h1:=zac bx1 h1
 have h2:=zac bx1 h2
 have i1:(0:Int)<=(i:Int):=by omega
 have i2:(i:Int)<(n:Int):=by omega
 have i3:(0:Int)<=(j:Int):=by omega
 have i4:(j:Int)<(m:Int):=by omega
 obtain⟨by1,by2,-⟩:=zaw w 53 #[.bool b1,.slice B1 m1 d1,.slice E1 u1 v1]
 obtain⟨r0,r1,r2⟩:=by2.c3
 have HG:=lh9 (gq0 (hq.below by1) by1)
 clear hq bx1 bx2 bz by1 by2 h hk
 go_enter Tryz.func72,Tryz.ntmps72
 go_wp2
 refine bodyPost_ret (v:=.agg #[.bool b1,.slice B1 m1 d1,.slice E1 u1 v1]) (by simp [results,Tryz.results72,go_sem,r0,r1,r2]) rfl ?_
 exact HG.out
theorem zls:∀(args:Array Value) (w':World),Sem.run Tryz.prog (callFunc 114 args) w'=.ok (.enter 114 args) w':=Go.Proofs.enters_of Tryz.func114 (by kernel_rfl) rfl
theorem zmC {g gv i j:Nat}{V:oA9}{cv:Nat}{xs:List Rat}(h:zaS w A n c m M)(hk:Blk w g 32 #[.slice A n c,.int .i64 (m:Int)])(hkv:Blk w gv 71 #[.slice V n cv])(hv:zaC w V n cv xs)(hi:i<n)(hj:j<m+1):
  Calls Tryz.prog 114 #[.int .i64 (i:Int),.int .i64 (j:Int),.pointer (some ⟨g,0,none⟩),.pointer (some ⟨gv,0,none⟩)] w (zaH w (if j=m then xs.getD i 0 else atM M i j)):=by
 obtain⟨bx1,bx2,bz⟩:=zaw w 53 #[.bool false,.slice none 0 0,.slice none 0 0]
 by_cases h1:j=m
 ·have e1:((j:Int)==(m:Int))=true:=by rw [beq_iff_eq];omega
  rw [if_pos h1]
  obtain⟨g0,g1⟩:=(zab bx1 hk).c2
  have y0:=(zab bx1 hkv).c1
  clear h1
  obtain⟨ae,b1,B1,m1,d1,E1,u1,v1,rfl,-,h0,h2,h3,hq⟩:=hv.get (Below.refl _ w) hi
  have h0:=zac bx1 h0
  have h1:=zac bx1 h2
  have h2:=zac bx1 h3
  have i1:(0:Int)<=(i:Int):=by omega
  have i2:(i:Int)<(n:Int):=by omega
  clear hkv
  obtain⟨by1,by2,-⟩:=zaw w 53 #[.bool b1,.slice B1 m1 d1,.slice E1 u1 v1]
  obtain⟨r0,r1,r2⟩:=by2.c3
  have HG:=lh9 (gq0 (hq.below by1) by1)
  clear hq bx1 bx2 bz by1 by2 h hk hv
  go_enter Tryz.func114,Tryz.ntmps114
  go_wp2
  refine bodyPost_ret (v:=.agg #[.bool b1,.slice B1 m1 d1,.slice E1 u1 v1]) (by simp [results,Tryz.results114,go_sem,r0,r1,r2]) rfl ?_
  exact HG.out
 ·have e1:((j:Int)==(m:Int))=false:=by rw [beq_eq_false_iff_ne];omega
  rw [if_neg h1]
  have hj:j<m:=by omega
  clear h1 hkv
  obtain⟨ad,B,d,rfl,-,hc,ae,b1,B1,m1,d1,E1,u1,v1,rfl,-,h0,h1,h2,hq⟩:=h.place (Below.refl _ w) hi hj
  obtain⟨g0,g1⟩:=(zab bx1 hk).c2
  have hc:=zac bx1 hc
  have h0:=zac bx1 h0
  have h1:=zac bx1 h1
  have h2:=zac bx1 h2
  have i1:(0:Int)<=(i:Int):=by omega
  have i2:(i:Int)<(n:Int):=by omega
  have i3:(0:Int)<=(j:Int):=by omega
  have i4:(j:Int)<(m:Int):=by omega
  obtain⟨by1,by2,-⟩:=zaw w 53 #[.bool b1,.slice B1 m1 d1,.slice E1 u1 v1]
  obtain⟨r0,r1,r2⟩:=by2.c3
  have HG:=lh9 (gq0 (hq.below by1) by1)
  clear hq bx1 bx2 bz by1 by2 h hk hv
  go_enter Tryz.func114,Tryz.ntmps114
  go_wp2
  refine bodyPost_ret (v:=.agg #[.bool b1,.slice B1 m1 d1,.slice E1 u1 v1]) (by simp [results,Tryz.results114,go_sem,r0,r1,r2]) rfl ?_
  exact HG.out
theorem en_of2:∀(args:Array Value) (w':World),Sem.run Tryz.prog (callFunc 127 args) w'=.ok (.enter 127 args) w':=Go.Proofs.enters_of Tryz.func127 (by kernel_rfl) rfl
theorem cl_of {gs i j:Nat}{Q:oA9}{q:Nat}(h:zaz (zaN zai) w Q n M)(hd:zaW M n m)(hk:Blk w gs 30 #[.slice Q n q])(hi:i<n)(hj:j<m):Calls Tryz.prog 127 #[.int .i64 (i:Int),.int .i64 (j:Int),.pointer (some ⟨gs,0,none⟩)] w (zaH w (atM M i j)):=by
 obtain⟨bx1,bx2,bz⟩:=zaw w 53 #[.bool false,.slice none 0 0,.slice none 0 0]
 obtain⟨ad,B,d,rfl,-,hc,hv⟩:=h.get (zam zaf) (Below.refl _ w) hi (hd.row hi)
 obtain⟨ae,b1,B1,m1,d1,E1,u1,v1,rfl,-,h0,h1,h2,hq⟩:=zaC.get hv (Below.refl _ w) hj
 have hc:=zac bx1 hc
 have h0:=zac bx1 h0
 have h1:=zac bx1 h1
 have h2:=zac bx1 h2
 have g0:=(zab bx1 hk).c1
 have i1:(0:Int)<=(i:Int):=by omega
 have i2:(i:Int)<(n:Int):=by omega
 have i3:(0:Int)<=(j:Int):=by omega
 have i4:(j:Int)<(m:Int):=by omega
 obtain⟨by1,by2,-⟩:=zaw w 53 #[.bool b1,.slice B1 m1 d1,.slice E1 u1 v1]
 obtain⟨r0,r1,r2⟩:=by2.c3
 have HG:=lh9 (gq0 (hq.below by1) by1)
 clear hq bx1 bx2 bz by1 by2 h hk hv hd
 go_enter Tryz.func127,Tryz.ntmps127
 go_wp2
 refine bodyPost_ret (v:=.agg #[.bool b1,.slice B1 m1 d1,.slice E1 u1 v1]) (by simp [results,Tryz.results127,go_sem,r0,r1,r2]) rfl ?_
 exact HG.out
theorem en_of1:∀(args:Array Value) (w':World),Sem.run Tryz.prog (callFunc 125 args) w'=.ok (.enter 125 args) w':=Go.Proofs.enters_of Tryz.func125 (by kernel_rfl) rfl
theorem zoB {gc k:Nat}{V:oA9}{cv:Nat}{z:Int}(hk:Blk w gc 3 #[.int .i64 z]):Calls Tryz.prog 125 #[.slice V k cv,.pointer (some ⟨gc,0,none⟩)] w (λe w'=>e=.returned (.bool (!decide ((k:Int)=z)))/\Below w.heap.size w w'):=by
 have g0:=hk.c1
 obtain⟨b,hb⟩:∃b,(!decide ((k:Int)=z))=b:=⟨_,rfl⟩
 have hb2:((k:Int) !=z)=b:=by rw [<-hb];by_cases q:(k:Int)=z<;>simp [q]
 rw [hb]
 clear hk hb
 go_enter Tryz.func125,Tryz.ntmps125
 go_wp2
 go_ret
 exact⟨rfl,Below.refl _ _⟩
end
section
variable {K:Nat}{xs:List Rat}{A:oA9}{n c:Nat}{w:World}
theorem zdW {z:Int}(hz:zcU xs=z)(hT:zaj w)(ha:zaC w A n c xs)(hx:zat K xs)(hn:n<=1073741824:=by omega)(hK:K<=67108864:=by omega):
  Calls Tryz.prog 101 #[.slice A n c] w (zcb w z):=by
 have hla:=ha.len
 have HLA:=lh9 hla
 have HZ:=lh9 hz
 have HSX:Hid (∀i,i<n->SzQ K (xs.getD i 0)):=λi hi=>hx.at_ (by omega)
 unfold zcb
 have HA:=lh9 ha
 have HT:=lh9 (λw' (hb:Below w.heap.size w w')=>hT.on hb)
 clear hT ha hx hla hz
 have hB:=Below.refl w.heap.size w
 have i0:(0:Int)<=(n:Int):=by omega
 go_enter Tryz.func101,Tryz.ntmps101
 go_wp2_with fail
 go_loopg [7] (n+1) (λg ix wr=>∃(k:Nat),k<=n/\n<g+k/\ix=.int .i64 k/\Hid (∀j,j<k->xs.getD j 0=0)/\Below w.heap.size w wr)
 case atStart=>exact⟨0,Nat.zero_le _,by omega,rfl,λj hj=>by omega,hB⟩
 case round=>
  clear hB
  obtain⟨k,hkn,hg,rfl,hz0,hB⟩:=hrel
  by_cases hlt:k<n
  ·obtain⟨ad,b1,B1,m1,d1,E1,u1,v1,rfl,-,hc0,hc1,hc2,hx⟩:=HA.out.get hB hlt
   have hd1:decide ((k:Int)<(n:Int))=true:=decide_eq_true (by omega)
   have i1:(0:Int)<=(k:Int):=by omega
   have i2:(k:Int)<(n:Int):=by omega
   obtain⟨st,d3,d4⟩:=zaw wr 53 #[.bool b1,.slice B1 m1 d1,.slice E1 u1 v1]
   obtain⟨p0,p1,p2⟩:=d3.c3
   have HX:=lh9 (hx.below st)
   have HB1:=lh9 (zaa hB st)
   clear hx hB st d3 d4
   by_cases h0:xs.getD k 0=0
   ·have HQ:=lh9 (decide_eq_true h0)
    have HZ1:Hid (∀j,j<k+1->xs.getD j 0=0):=λj hj=>by
     by_cases e:j=k
     ·rw [e];exact h0
     ·exact hz0 j (by omega)
    clear h0
    go_wp2_with fail
    (with_reducible refine(zkE HQ.out (HT.out _ HB1.out) HX.out (HSX.out k hlt) hK).mono ?_)
    rintro e w3 ⟨rfl,hb⟩
    have HB2:=lh9 (zaa HB1.out hb)
    clear hb hc0 hc1 hc2 p0 p1 p2 HX HB1
    go_wp2
    go_roundg (n - k)
    case measure=>omega
    case rel=>exact⟨k+1,by omega,by omega,by go_num,HZ1,HB2.out⟩
   ·have HQ:=lh9 (decide_eq_false h0)
    have HF:Hid ((k:Int)=z):=by
     have:=HLA.out
     show _=_
     rw [<-HZ.out,zjw (by omega) hz0.out h0]
    clear h0
    go_wp2_with fail
    (with_reducible refine(zkE HQ.out (HT.out _ HB1.out) HX.out (HSX.out k hlt) hK).mono ?_)
    rintro e w3 ⟨rfl,hb⟩
    have HB2:=lh9 (zaa HB1.out hb)
    clear hb hc0 hc1 hc2 p0 p1 p2 HX HB1
    go_wp2
    go_ret
    exact⟨by rw [<-HF.out];rfl,HB2.out⟩
  ·have hd1:decide ((k:Int)<(n:Int))=false:=decide_eq_false (by omega)
   have HF:Hid (-1=z):=by
    have:=HLA.out
    show _=_
    rw [<-HZ.out,zhp (λj hj=>hz0.out j (by omega))]
   have HB2:=lh9 hB
   clear hB
   go_wp2
   go_ret
   exact⟨by rw [<-HF.out];rfl,HB2.out⟩
theorem vec_zero {t:Bool}(e:decide (zcU xs<0)=t)(hT:zaj w)(ha:zaC w A n c xs)(hx:zat K xs)(hn:n<=1073741824:=by omega)(hK:K<=67108864:=by omega):
  Calls Tryz.prog 45 #[.slice A n c] w (λe w'=>e=.returned (.bool t)/\Below w.heap.size w w'):=by
 obtain⟨z,hz⟩:∃z,zcU xs=z:=⟨_,rfl⟩
 have H:=lh9 (zdW hz hT ha hx hn hK)
 rw [hz] at e
 subst e
 clear hz hT ha hx
 go_enter Tryz.func45,Tryz.ntmps45
 go_wp2_with fail
 refine H.out.mono ?_
 rintro e w1 ⟨rfl,hb⟩
 go_wp2
 go_ret
 exact⟨rfl,hb⟩
end
