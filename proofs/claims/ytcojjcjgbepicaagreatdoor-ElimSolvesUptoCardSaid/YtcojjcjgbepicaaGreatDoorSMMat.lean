/- What this claim leans on. -/
import Derived.Test.YtcojjcjgbepicaaGreatDoorSVVecs
namespace Go.Proofs.YtcojjcjgbepicaaGreatDoor
open Go Go.RowKit
set_option maxHeartbeats 16000000
set_option maxRecDepth 100000
set_option linter.unusedVariables false
set_option linter.unusedSimpArgs false
def NoK (k:IntKind)(cs:Array Value):Prop:=∀v ∈ cs.toList,∀z,v≠.int k z
theorem zpr {w:World}{A:oA9}{n g:Nat}{k:IntKind}{l:List Nat}{t:TypeId}{cs:Array Value}(h:zas w w.heap.size 1 A n (zax k l))(hk:Blk w g t cs)(hcs:NoK k cs):0<n->∀ad,A=some ad->ad.block≠g:=λhn ad e hg=>by
 have hl:=h.len_
 obtain⟨ad',e',_,hc⟩:=h.2 hn
 rw [e] at e'
 injection e' with e'
 subst e'
 have h0:=hc 0 (.int k (l.getD 0 0:Nat)) (zcQ k _ 0 (by omega))
 have e0:ad.add 0=ad:=by unfold Addr.add;rw [if_pos rfl]
 rw [e0] at h0
 obtain⟨bk,off,pr⟩:=ad
 simp only at hg
 subst hg
 unfold Blk at hk
 cases pr with
 |none=>
   rw [show w.cell? ⟨bk,off,none⟩=cs[off]? from cell_of_row w bk off _ t (0,0) hk,<-Array.getElem?_toList] at h0
   exact hcs _ (List.mem_of_getElem? h0) _ rfl
 |some q=>simp [World.cell?,hk] at h0
theorem zjl {w w':World}{x:Nat}{A:oA9}{n c g:Nat}{t:TypeId}{cs:Array Value}(h:zad w x A n c)(hk:Blk w g t cs)(hcs:NoK .u64 cs)(ho:zbe g w w'):zad w' x A n c:=by
 have hne:=zpr h.1 hk hcs
 refine⟨⟨h.1.1,λhn=>?_⟩,h.2⟩
 obtain⟨ad,e,hb,hc⟩:=h.1.2 hn
 refine⟨ad,e,Nat.lt_of_lt_of_le hb ho.1,λj v hv=>?_⟩
 rw [ho.2 (ad.add j) (by rw [zao];exact hb) (by rw [zao];exact hne hn ad e)]
 exact hc j v hv
theorem zcF {w w':World}{g:Nat}{t:TypeId}{cs:Array Value}(hk:Blk w g t cs)(hcs:NoK .u64 cs)(ho:zbe g w w'){r:Rat}{b:Bool}{A:oA9}{n c:Nat}{E:oA9}{k f:Nat}(h:zah w r b A n c E k f):zah w' r b A n c E k f:=by
 obtain⟨⟨h1,h2⟩,x,e,h3⟩:=h
 exact⟨⟨h1,zjl h2 hk hcs ho⟩,x,e,zjl h3 hk hcs ho⟩
theorem zoa (A:oA9)(n c:Nat)(z:Int):NoK .u64 #[.slice A n c,.int .i64 z]:=by intro v hv z9 e;simp at hv;rcases hv with rfl|rfl<;>cases e
theorem ziG (A:oA9)(n c:Nat)(z:Int):∀u ∈(#[.slice A n c,.int .i64 z]:Array Value).toList,∀b,u≠.bool b:=by intro v hv b e;simp at hv;rcases hv with rfl|rfl<;>cases e
theorem zji {w w':World}{A:oA9}{n c g:Nat}{xs:List Rat}{t:TypeId}{cs:Array Value}(h:zaC w A n c xs)(hk:Blk w g t cs)(hs:∀u ∈ cs.toList,∀b,u≠.bool b)(hcs:NoK .u64 cs)(ho:zbe g w w'):zaC w' A n c xs:=
 zon h hk hs ho (λh5=>zcF hk hcs ho h5)
def TyAt (w:World)(b:Nat)(t:TypeId):Prop:=∃cs,Blk w b t cs
theorem TyAt.below {w w':World}{b:Nat}{t:TypeId}(h:TyAt w b t)(hb:Below w.heap.size w w'):TyAt w' b t:=by
 obtain⟨cs,hk⟩:=h
 exact⟨cs,zab hb hk⟩
theorem TyAt.set_ {w:World}{b:Nat}{t:TypeId}(h:TyAt w b t)(g i:Nat)(v:Value):TyAt (w.setCell ⟨g,i,none⟩ v) b t:=by
 obtain⟨cs,hk⟩:=h
 by_cases hg:b=g
 ·subst hg;exact⟨_,hk.set_ i v⟩
 ·exact⟨cs,Blk.far (p:=⟨g,i,none⟩) hk hg v⟩
theorem TyAt.ne {w:World}{b g:Nat}{t s:TypeId}{cs:Array Value}(h:TyAt w b t)(hk:Blk w g s cs)(hn:t≠s):b≠g:=λe=>by
 obtain⟨ds,hd⟩:=h
 subst e
 unfold Blk at hd hk
 rw [hd] at hk
 injection hk with hk
 injection hk with _ hk
 exact hn hk
structure zaW (w:World)(A:oA9)(n c m:Nat)(M:List (List Rat)):Prop where
 dims:zbh M n m
 fits:n<=c
 most:c<=9223372036854775807
 hn:n<=64
 hm:m<=64
 rows:zaz (zaM zah) w A n M
 ty:∀ad,A=some ad->TyAt w ad.block 71
theorem zaW.keep {w w':World}{A:oA9}{n c m:Nat}{M:List (List Rat)}(h:zaW w A n c m M)(hb:Below w.heap.size w w'):zaW w' A n c m M:={h with rows:=h.rows.below (zam zaf) hb,ty:=λad e=>(h.ty ad e).below hb}
theorem zaW.nil (w:World):zaW w none 0 0 0 []:=⟨dims_nil 0,Nat.le_refl _,by decide,by decide,by decide,zaz.nil w none,λad e=>by cases e⟩
theorem zaW.offz {w:World}{A:oA9}{n c m g:Nat}{M:List (List Rat)}{t:TypeId}{B:oA9}{p q:Nat}{z:Int}(h:zaW w A n c m M)(hk:Blk w g t #[.slice B p q,.int .i64 z])(x y:Value)(ht:71≠t:=by decide):zaW ((w.setCell ⟨g,0,none⟩ x).setCell ⟨g,1,none⟩ y) A n c m M:=
 { h with
  rows:=h.rows.off (λad e=>(h.ty ad e).ne hk ht) (zbe.of_far (ziM _ _ _ _)) (λh3=>zji h3 hk (ziG _ _ _ _) (zoa _ _ _ _) (zbe.of_far (ziM _ _ _ _)))
  ty:=λad e=>((h.ty ad e).set_ _ _ _).set_ _ _ _}
theorem zaC.offz {w:World}{A:oA9}{n c g:Nat}{xs:List Rat}{t:TypeId}{B:oA9}{p q:Nat}{z:Int}(h:zaC w A n c xs)(hk:Blk w g t #[.slice B p q,.int .i64 z])(x y:Value):zaC ((w.setCell ⟨g,0,none⟩ x).setCell ⟨g,1,none⟩ y) A n c xs:=
 zji h hk (ziG _ _ _ _) (zoa _ _ _ _) (zbe.of_far (ziM _ _ _ _))
theorem zaW.row {w wr:World}{A:oA9}{n c m:Nat}{M:List (List Rat)}(h:zaW w A n c m M)(hb:Below w.heap.size w wr){i:Nat}(hi:i<n):∃(ad:Addr) (B:oA9) (d:Nat),A=some ad/\ad.block<w.heap.size/\wr.cell? (ad.add i)=some (.slice B m d)/\zaC wr B m d (M.getD i []):=
 h.rows.get (zam zaf) hb hi (h.dims.row hi)
theorem zaW.place {w wr:World}{A:oA9}{n c m:Nat}{M:List (List Rat)}(h:zaW w A n c m M)(hb:Below w.heap.size w wr){i j:Nat}(hi:i<n)(hj:j<m):∃(ad:Addr) (B:oA9) (d:Nat),A=some ad/\ad.block<w.heap.size/\wr.cell? (ad.add i)=some (.slice B m d)/\
  ∃(ae:Addr) (b1:Bool) (B1:oA9) (m1 d1:Nat) (E1:oA9) (u1 v1:Nat),B=some ae/\ae.block<wr.heap.size/\wr.cell? (ae.add (j*3))=some (.bool b1)/\wr.cell? ⟨(ae.add (j*3)).block,(ae.add (j*3)).off+1,none⟩=some (.slice B1 m1 d1)/\wr.cell? ⟨(ae.add (j*3)).block,(ae.add (j*3)).off+2,none⟩=some (.slice E1 u1 v1)/\zah wr (atM M i j) b1 B1 m1 d1 E1 u1 v1:=by
 obtain⟨ad,B,d,e,h1,h2,h3⟩:=h.row hb hi
 obtain⟨ae,b1,B1,m1,d1,E1,u1,v1,e4,h4,h5,h6,h7,h8⟩:=h3.get (Below.refl _ _) hj
 exact⟨ad,B,d,e,h1,h2,ae,b1,B1,m1,d1,E1,u1,v1,e4,h4,h5,h6,h7,h8⟩
def zaD (K:Nat)(M:List (List Rat)):Prop:=∀L ∈ M,zaq K L
theorem zaD.up {K K':Nat}{M:List (List Rat)}(h:zaD K M)(e:K<=K'):zaD K' M:=λL hL=>(h L hL).up e
theorem zaD.row {K i:Nat}{M:List (List Rat)}(h:zaD K M)(hi:i<M.length):zaq K (M.getD i []):=h _ (List.mem_of_getElem? (zbF hi))
theorem zaD.at_ {K n m i j:Nat}{M:List (List Rat)}(h:zaD K M)(hd:zbh M n m)(hi:i<n)(hj:j<m):SzQ K (atM M i j):=by
 have hl:=hd.rows
 have hr:=hd.row hi
 exact(h.row (i:=i) (by omega)).at_ (by omega)
theorem zaD.nil (K:Nat):zaD K []:=λL hL=>by cases hL
theorem zaD.tab {K n m:Nat}{f:Nat->Nat->Rat}(h:∀r c,r<n->c<m->SzQ K (f r c)):zaD K (zew n m f):=λL hL x hx=>by
 unfold zew at hL
 obtain⟨r,hr,rfl⟩:=List.mem_map.1 hL
 obtain⟨c,hc,rfl⟩:=List.mem_map.1 hx
 exact h r c (List.mem_range.1 hr) (List.mem_range.1 hc)
theorem zaD.col {K n m c:Nat}{M:List (List Rat)}(h:zaD K M)(hd:zbh M n m)(hc:c<m):zaq K (colM n M c):=λx hx=>by
 unfold colM at hx
 obtain⟨r,hr,rfl⟩:=List.mem_map.1 hx
 exact h.at_ hd (List.mem_range.1 hr) hc
theorem zaD.mul {K K' n k m:Nat}{A B:List (List Rat)}(hA:zaD K A)(hB:zaD K' B)(dA:zbh A n k)(dB:zbh B k m):zaD (1+k*(K+K'+1)) (mulM n k m A B):=zaD.tab λr c hr hc=>by
 have hl:=dA.rows
 exact dot_sz (dA.row hr) (colM_len k B c) (hA.row (by omega)) (hB.col dB hc)
def zcS (w:World)(n m:Nat)(M:List (List Rat))(e:Ending)(w':World):Prop:=∃(A:oA9) (c:Nat),e=.returned (.agg #[.slice A n c,.int .i64 (m:Int)])/\zaW w' A n c m M/\(∀ad,A=some ad->w.heap.size<=ad.block)/\Below w.heap.size w w'
def zem (w:World)(n m:Nat)(M:List (List Rat))(e:Ending)(w':World):Prop:=∃(A:oA9) (c:Nat),e=.returned (.tuple #[.agg #[.slice A n c,.int .i64 (m:Int)],.bool true])/\zaW w' A n c m M/\(∀ad,A=some ad->w.heap.size<=ad.block)/\Below w.heap.size w w'
def zjz (w:World)(e:Ending)(w':World):Prop:=e=.returned (.tuple #[.agg #[.slice none 0 0,.int .i64 0],.bool false])/\Below w.heap.size w w'
theorem gm2 {w W:World}{A B:oA9}{n c m g p q:Nat}{z:Int}{M:List (List Rat)}(h:zaW W A n c m M)(hf:∀ad,A=some ad->g<ad.block)(k:Blk W g 32 #[.slice B p q,.int .i64 z])(hB:Below w.heap.size w W)(hg:w.heap.size<=g):
  zcS w n m M (.returned (.agg #[.slice A n c,.int .i64 (m:Int)])) ((W.setCell ⟨g,0,none⟩ (.slice A n c)).setCell ⟨g,1,none⟩ (.int .i64 (m:Int))):=
 ⟨A,c,rfl,h.offz k _ _,λad e=>by have:=hf ad e;omega,bl2 _ _ hg hB⟩
theorem gmb2 {w W:World}{A B:oA9}{n c m g p q:Nat}{z:Int}{M:List (List Rat)}(h:zaW W A n c m M)(hf:∀ad,A=some ad->g<ad.block)(k:Blk W g 32 #[.slice B p q,.int .i64 z])(hB:Below w.heap.size w W)(hg:w.heap.size<=g):
  zem w n m M (.returned (.tuple #[.agg #[.slice A n c,.int .i64 (m:Int)],.bool true])) ((W.setCell ⟨g,0,none⟩ (.slice A n c)).setCell ⟨g,1,none⟩ (.int .i64 (m:Int))):=
 ⟨A,c,rfl,h.offz k _ _,λad e=>by have:=hf ad e;omega,bl2 _ _ hg hB⟩
theorem gmn2 {w W:World}{g:Nat}(hB:Below w.heap.size w W)(hg:w.heap.size<=g):
  zjz w (.returned (.tuple #[.agg #[.slice none 0 0,.int .i64 0],.bool false])) ((W.setCell ⟨g,0,none⟩ (.slice none 0 0)).setCell ⟨g,1,none⟩ (.int .i64 0)):=⟨rfl,bl2 _ _ hg hB⟩
theorem zcC (A:oA9)(n c:Nat)(z:Int)(w:World):Calls Tryz.prog 29 #[.agg #[.slice A n c,.int .i64 z]] w (λe w'=>e=.returned (.int .i64 (n:Int))/\Below w.heap.size w w'):=by
 obtain⟨bx1,bx2,bz⟩:=zaw w 32 #[.slice A n c,.int .i64 z]
 obtain⟨g0,g1⟩:=bx2.c2
 have HB:=lh9 bx1
 clear bx1 bx2 bz
 go_enter Tryz.func29,Tryz.ntmps29
 go_wp2
 go_ret
 exact⟨rfl,HB.out⟩
theorem zbp (A:oA9)(n c:Nat)(z:Int)(w:World):Calls Tryz.prog 34 #[.agg #[.slice A n c,.int .i64 z]] w (λe w'=>e=.returned (.int .i64 z)/\Below w.heap.size w w'):=by
 obtain⟨bx1,bx2,bz⟩:=zaw w 32 #[.slice A n c,.int .i64 z]
 obtain⟨g0,g1⟩:=bx2.c2
 have HB:=lh9 bx1
 clear bx1 bx2 bz
 go_enter Tryz.func34,Tryz.ntmps34
 go_wp2
 go_ret
 exact⟨rfl,HB.out⟩
def zhO (r c:Int):Bool:=decide (0<=r)&&decide (r<=64)&&decide (0<=c)&&decide (c<=64)
theorem zlS {n m:Nat}(hn:n<=64)(hm:m<=64):zhO (n:Int) (m:Int)=true:=by
 unfold zhO
 rw [decide_eq_true (show(0:Int)<=(n:Int) by omega),decide_eq_true (show(n:Int)<=64 by omega),decide_eq_true (show(0:Int)<=(m:Int) by omega),decide_eq_true (show(m:Int)<=64 by omega)]
 rfl
theorem mat_may (r c:Int)(w:World):Calls Tryz.prog 113 #[.int .i64 r,.int .i64 c] w (λe w'=>e=.returned (.bool (zhO r c))/\w=w'):=by
 by_cases h1:0<=r
 ·have d1:decide (0<=r)=true:=decide_eq_true h1
  by_cases h2:r<=64
  ·have d2:decide (r<=64)=true:=decide_eq_true h2
   by_cases h3:0<=c
   ·have d3:decide (0<=c)=true:=decide_eq_true h3
    obtain⟨b,d4⟩:∃b,decide (c<=64)=b:=⟨_,rfl⟩
    have e:zhO r c=b:=by unfold zhO;rw [d1,d2,d3,d4];rfl
    rw [e]
    clear h1 h2 h3 e
    go_enter Tryz.func113,Tryz.ntmps113
    go_wp2
    go_ret
    exact⟨rfl,rfl⟩
   ·have d3:decide (0<=c)=false:=decide_eq_false h3
    have e:zhO r c=false:=by unfold zhO;rw [d1,d2,d3];rfl
    rw [e]
    clear h1 h2 h3 e
    go_enter Tryz.func113,Tryz.ntmps113
    go_wp2
    go_ret
    exact⟨rfl,rfl⟩
  ·have d2:decide (r<=64)=false:=decide_eq_false h2
   have e:zhO r c=false:=by unfold zhO;rw [d1,d2];rfl
   rw [e]
   clear h1 h2 e
   go_enter Tryz.func113,Tryz.ntmps113
   go_wp2
   go_ret
   exact⟨rfl,rfl⟩
 ·have d1:decide (0<=r)=false:=decide_eq_false h1
  have e:zhO r c=false:=by unfold zhO;rw [d1];rfl
  rw [e]
  clear h1 e
  go_enter Tryz.func113,Tryz.ntmps113
  go_wp2
  go_ret
  exact⟨rfl,rfl⟩
def inB (r:Int)(n:Nat):Bool:=decide (0<=r)&&decide (r<(n:Int))
theorem zkD {k n:Nat}(h:k<n):inB (k:Int) n=true:=by
 unfold inB
 rw [decide_eq_true (show(0:Int)<=(k:Int) by omega),decide_eq_true (show(k:Int)<(n:Int) by omega)]
 rfl
theorem znj (A:oA9)(n c:Nat)(z r:Int)(w:World):Calls Tryz.prog 95 #[.agg #[.slice A n c,.int .i64 z],.int .i64 r] w (λe w'=>e=.returned (.bool (inB r n))/\Below w.heap.size w w'):=by
 obtain⟨bx1,bx2,bz⟩:=zaw w 32 #[.slice A n c,.int .i64 z]
 obtain⟨g0,g1⟩:=bx2.c2
 have HB:=lh9 bx1
 clear bx1 bx2 bz
 by_cases h1:0<=r
 ·have d1:decide (0<=r)=true:=decide_eq_true h1
  obtain⟨b,d4⟩:∃b,decide (r<(n:Int))=b:=⟨_,rfl⟩
  have e:inB r n=b:=by unfold inB;rw [d1,d4];rfl
  rw [e]
  clear h1 e
  have H:=λW=>lh9 (zcC A n c z W)
  go_enter Tryz.func95,Tryz.ntmps95
  go_wp2_with fail
  refine(H _).out.mono ?_
  rintro e w1 ⟨rfl,hb⟩
  have HB2:=lh9 (zaa HB.out hb)
  clear hb
  go_wp2
  go_ret
  exact⟨rfl,HB2.out⟩
 ·have d1:decide (0<=r)=false:=decide_eq_false h1
  have e:inB r n=false:=by unfold inB;rw [d1];rfl
  rw [e]
  clear h1 e
  go_enter Tryz.func95,Tryz.ntmps95
  go_wp2
  go_ret
  exact⟨rfl,HB.out⟩
theorem zni (A:oA9)(n c m:Nat)(r:Int)(w:World):Calls Tryz.prog 105 #[.agg #[.slice A n c,.int .i64 (m:Int)],.int .i64 r] w (λe w'=>e=.returned (.bool (inB r m))/\Below w.heap.size w w'):=by
 obtain⟨bx1,bx2,bz⟩:=zaw w 32 #[.slice A n c,.int .i64 (m:Int)]
 obtain⟨g0,g1⟩:=bx2.c2
 have HB:=lh9 bx1
 clear bx1 bx2 bz
 by_cases h1:0<=r
 ·have d1:decide (0<=r)=true:=decide_eq_true h1
  obtain⟨b,d4⟩:∃b,decide (r<(m:Int))=b:=⟨_,rfl⟩
  have e:inB r m=b:=by unfold inB;rw [d1,d4];rfl
  rw [e]
  clear h1 e
  go_enter Tryz.func105,Tryz.ntmps105
  go_wp2
  go_ret
  exact⟨rfl,HB.out⟩
 ·have d1:decide (0<=r)=false:=decide_eq_false h1
  have e:inB r m=false:=by unfold inB;rw [d1];rfl
  rw [e]
  clear h1 e
  go_enter Tryz.func105,Tryz.ntmps105
  go_wp2
  go_ret
  exact⟨rfl,HB.out⟩
