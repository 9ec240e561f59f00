/- What this claim leans on. -/
import Derived.Test.YtghpdeciaaagnaaGreatDoorIMRow
namespace Go.Proofs.YtghpdeciaaagnaaGreatDoor
open Go Go.RowKit
set_option maxHeartbeats 16000000
set_option maxRecDepth 100000
set_option linter.unusedVariables false
set_option linter.unusedSimpArgs false
def NoK (k:IntKind)(cs:Array Value):Prop:=∀v ∈ cs.toList,∀z,v≠.int k z
theorem zqU {w:World}{A:oA9}{n g:Nat}{k:IntKind}{l:List Nat}{t:TypeId}{cs:Array Value}(h:zas w w.heap.size 1 A n (zaA k l))(hk:Blk w g t cs)(hcs:NoK k cs):0<n->∀ad,A=some ad->ad.block≠g:=λhn ad e hg=>by
 have hl:=h.len_
 obtain⟨ad',e',_,hc⟩:=h.2 hn
 rw [e] at e'
 injection e' with e'
 subst e'
 have h0:=hc 0 (.int k (l.getD 0 0:Nat)) (zcX k _ 0 (by omega))
 have e0:ad.add 0=ad:=by unfold Addr.add;rw [if_pos rfl]
 rw [e0] at h0
 obtain⟨bk,off,pr⟩:=ad
 simp only at hg
 subst hg
 unfold Blk at hk
 cases pr with
 |none=>
   rw [show w.cell? ⟨bk,off,none⟩=cs[off]? from cell_of_row w bk off _ t (0,0) hk,<-Array.getElem?_toList] at h0
   exact hcs _ (List.mem_of_getElem? h0) _ rfl
 |some q=>simp [World.cell?,hk] at h0
theorem zkn {w w':World}{x:Nat}{A:oA9}{n c g:Nat}{t:TypeId}{cs:Array Value}(h:zad w x A n c)(hk:Blk w g t cs)(hcs:NoK .u64 cs)(ho:zbl g w w'):zad w' x A n c:=by
 have hne:=zqU h.1 hk hcs
 refine⟨⟨h.1.1,λhn=>?_⟩,h.2⟩
 obtain⟨ad,e,hb,hc⟩:=h.1.2 hn
 refine⟨ad,e,Nat.lt_of_lt_of_le hb ho.1,λj v hv=>?_⟩
 rw [ho.2 (ad.add j) (by rw [zap];exact hb) (by rw [zap];exact hne hn ad e)]
 exact hc j v hv
theorem zcO {w w':World}{g:Nat}{t:TypeId}{cs:Array Value}(hk:Blk w g t cs)(hcs:NoK .u64 cs)(ho:zbl g w w'){r:Rat}{b:Bool}{A:oA9}{n c:Nat}{E:oA9}{k f:Nat}(h:zah w r b A n c E k f):zah w' r b A n c E k f:=by
 obtain⟨⟨h1,h2⟩,x,e,h3⟩:=h
 exact⟨⟨h1,zkn h2 hk hcs ho⟩,x,e,zkn h3 hk hcs ho⟩
theorem zpw (A:oA9)(n c:Nat)(z:Int):NoK .u64 #[.slice A n c,.int .i64 z]:=by intro v hv z9 e;simp at hv;rcases hv with rfl|rfl<;>cases e
theorem zjy (A:oA9)(n c:Nat)(z:Int):∀u ∈(#[.slice A n c,.int .i64 z]:Array Value).toList,∀b,u≠.bool b:=by intro v hv b e;simp at hv;rcases hv with rfl|rfl<;>cases e
theorem zkk {w w':World}{A:oA9}{n c g:Nat}{xs:List Rat}{t:TypeId}{cs:Array Value}(h:zaz w A n c xs)(hk:Blk w g t cs)(hs:∀u ∈ cs.toList,∀b,u≠.bool b)(hcs:NoK .u64 cs)(ho:zbl g w w'):zaz w' A n c xs:=
 zpJ h hk hs ho (λh5=>zcO hk hcs ho h5)
def TyAt (w:World)(b:Nat)(t:TypeId):Prop:=∃cs,Blk w b t cs
theorem TyAt.below {w w':World}{b:Nat}{t:TypeId}(h:TyAt w b t)(hb:Below w.heap.size w w'):TyAt w' b t:=by
 obtain⟨cs,hk⟩:=h
 exact⟨cs,zaa hb hk⟩
theorem TyAt.set_ {w:World}{b:Nat}{t:TypeId}(h:TyAt w b t)(g i:Nat)(v:Value):TyAt (w.setCell ⟨g,i,none⟩ v) b t:=by
 obtain⟨cs,hk⟩:=h
 by_cases hg:b=g
 ·subst hg;exact⟨_,hk.set_ i v⟩
 ·exact⟨cs,Blk.far (p:=⟨g,i,none⟩) hk hg v⟩
theorem TyAt.ne {w:World}{b g:Nat}{t s:TypeId}{cs:Array Value}(h:TyAt w b t)(hk:Blk w g s cs)(hn:t≠s):b≠g:=λe=>by
 obtain⟨ds,hd⟩:=h
 subst e
 unfold Blk at hd hk
 rw [hd] at hk
 injection hk with hk
 injection hk with _ hk
 exact hn hk
structure zaR (w:World)(A:oA9)(n c m:Nat)(M:List (List Rat)):Prop where
 dims:zaN M n m
 fits:n<=c
 most:c<=9223372036854775807
 hn:n<=64
 hm:m<=64
 rows:zaB (zaI zah) w A n M
 ty:∀ad,A=some ad->TyAt w ad.block 61
theorem zaR.keep {w w':World}{A:oA9}{n c m:Nat}{M:List (List Rat)}(h:zaR w A n c m M)(hb:Below w.heap.size w w'):zaR w' A n c m M:={h with rows:=h.rows.below (zam zaf) hb,ty:=λad e=>(h.ty ad e).below hb}
theorem zaR.nil (w:World):zaR w none 0 0 0 []:=⟨dims_nil 0,Nat.le_refl _,by decide,by decide,by decide,zaB.nil w none,λad e=>by cases e⟩
theorem zaR.offz {w:World}{A:oA9}{n c m g:Nat}{M:List (List Rat)}{t:TypeId}{B:oA9}{p q:Nat}{z:Int}(h:zaR w A n c m M)(hk:Blk w g t #[.slice B p q,.int .i64 z])(x y:Value)(ht:61≠t:=by decide):zaR ((w.setCell ⟨g,0,none⟩ x).setCell ⟨g,1,none⟩ y) A n c m M:=
 { h with
  rows:=h.rows.off (λad e=>(h.ty ad e).ne hk ht) (zbl.of_far (zgM _ _ _ _)) (λh3=>zkk h3 hk (zjy _ _ _ _) (zpw _ _ _ _) (zbl.of_far (zgM _ _ _ _)))
  ty:=λad e=>((h.ty ad e).set_ _ _ _).set_ _ _ _}
theorem zaz.offz {w:World}{A:oA9}{n c g:Nat}{xs:List Rat}{t:TypeId}{B:oA9}{p q:Nat}{z:Int}(h:zaz w A n c xs)(hk:Blk w g t #[.slice B p q,.int .i64 z])(x y:Value):zaz ((w.setCell ⟨g,0,none⟩ x).setCell ⟨g,1,none⟩ y) A n c xs:=
 zkk h hk (zjy _ _ _ _) (zpw _ _ _ _) (zbl.of_far (zgM _ _ _ _))
theorem zaR.row {w wr:World}{A:oA9}{n c m:Nat}{M:List (List Rat)}(h:zaR w A n c m M)(hb:Below w.heap.size w wr){i:Nat}(hi:i<n):∃(ad:Addr) (B:oA9) (d:Nat),A=some ad/\ad.block<w.heap.size/\wr.cell? (ad.add i)=some (.slice B m d)/\zaz wr B m d (M.getD i []):=
 h.rows.get (zam zaf) hb hi (h.dims.row hi)
theorem zaR.place {w wr:World}{A:oA9}{n c m:Nat}{M:List (List Rat)}(h:zaR w A n c m M)(hb:Below w.heap.size w wr){i j:Nat}(hi:i<n)(hj:j<m):∃(ad:Addr) (B:oA9) (d:Nat),A=some ad/\ad.block<w.heap.size/\wr.cell? (ad.add i)=some (.slice B m d)/\
  ∃(ae:Addr) (b1:Bool) (B1:oA9) (m1 d1:Nat) (E1:oA9) (u1 v1:Nat),B=some ae/\ae.block<wr.heap.size/\wr.cell? (ae.add (j*3))=some (.bool b1)/\wr.cell? ⟨(ae.add (j*3)).block,(ae.add (j*3)).off+1,none⟩=some (.slice B1 m1 d1)/\wr.cell? ⟨(ae.add (j*3)).block,(ae.add (j*3)).off+2,none⟩=some (.slice E1 u1 v1)/\zah wr (atM M i j) b1 B1 m1 d1 E1 u1 v1:=by
 obtain⟨ad,B,d,e,h1,h2,h3⟩:=h.row hb hi
 obtain⟨ae,b1,B1,m1,d1,E1,u1,v1,e4,h4,h5,h6,h7,h8⟩:=h3.get (Below.refl _ _) hj
 exact⟨ad,B,d,e,h1,h2,ae,b1,B1,m1,d1,E1,u1,v1,e4,h4,h5,h6,h7,h8⟩
def zax (K:Nat)(M:List (List Rat)):Prop:=∀L ∈ M,zau K L
theorem zax.up {K K':Nat}{M:List (List Rat)}(h:zax K M)(e:K<=K'):zax K' M:=λL hL=>(h L hL).up e
theorem zax.row {K i:Nat}{M:List (List Rat)}(h:zax K M)(hi:i<M.length):zau K (M.getD i []):=h _ (List.mem_of_getElem? (zbE hi))
theorem zax.at_ {K n m i j:Nat}{M:List (List Rat)}(h:zax K M)(hd:zaN M n m)(hi:i<n)(hj:j<m):SzQ K (atM M i j):=by
 have hl:=hd.rows
 have hr:=hd.row hi
 exact(h.row (i:=i) (by omega)).at_ (by omega)
theorem zax.nil (K:Nat):zax K []:=λL hL=>by cases hL
theorem zax.tab {K n m:Nat}{f:Nat->Nat->Rat}(h:∀r c,r<n->c<m->SzQ K (f r c)):zax K (zdh n m f):=λL hL x hx=>by
 unfold zdh at hL
 obtain⟨r,hr,rfl⟩:=List.mem_map.1 hL
 obtain⟨c,hc,rfl⟩:=List.mem_map.1 hx
 exact h r c (List.mem_range.1 hr) (List.mem_range.1 hc)
theorem zax.turn {K n m:Nat}{M:List (List Rat)}(h:zax K M)(hd:zaN M n m):zax K (zcW n m M):=zax.tab λr c hr hc=>h.at_ hd hc hr
theorem zax.col {K n m c:Nat}{M:List (List Rat)}(h:zax K M)(hd:zaN M n m)(hc:c<m):zau K (zhd n M c):=λx hx=>by
 unfold zhd at hx
 obtain⟨r,hr,rfl⟩:=List.mem_map.1 hx
 exact h.at_ hd (List.mem_range.1 hr) hc
theorem zax.mul {K K' n k m:Nat}{A B:List (List Rat)}(hA:zax K A)(hB:zax K' B)(dA:zaN A n k)(dB:zaN B k m):zax (1+k*(K+K'+1)) (zfs n k m A B):=zax.tab λr c hr hc=>by
 have hl:=dA.rows
 exact dot_sz (dA.row hr) (zhe k B c) (hA.row (by omega)) (hB.col dB hc)
def zcm (w:World)(n m:Nat)(M:List (List Rat))(e:Ending)(w':World):Prop:=∃(A:oA9) (c:Nat),e=.returned (.agg #[.slice A n c,.int .i64 (m:Int)])/\zaR w' A n c m M/\(∀ad,A=some ad->w.heap.size<=ad.block)/\Below w.heap.size w w'
def zcU (w:World)(n m:Nat)(M:List (List Rat))(e:Ending)(w':World):Prop:=∃(A:oA9) (c:Nat),e=.returned (.tuple #[.agg #[.slice A n c,.int .i64 (m:Int)],.bool true])/\zaR w' A n c m M/\(∀ad,A=some ad->w.heap.size<=ad.block)/\Below w.heap.size w w'
def zhI (w:World)(e:Ending)(w':World):Prop:=e=.returned (.tuple #[.agg #[.slice none 0 0,.int .i64 0],.bool false])/\Below w.heap.size w w'
theorem gm2 {w W:World}{A B:oA9}{n c m g p q:Nat}{z:Int}{M:List (List Rat)}(h:zaR W A n c m M)(hf:∀ad,A=some ad->g<ad.block)(k:Blk W g 28 #[.slice B p q,.int .i64 z])(hB:Below w.heap.size w W)(hg:w.heap.size<=g):
  zcm w n m M (.returned (.agg #[.slice A n c,.int .i64 (m:Int)])) ((W.setCell ⟨g,0,none⟩ (.slice A n c)).setCell ⟨g,1,none⟩ (.int .i64 (m:Int))):=
 ⟨A,c,rfl,h.offz k _ _,λad e=>by have:=hf ad e;omega,bl2 _ _ hg hB⟩
theorem gmb2 {w W:World}{A B:oA9}{n c m g p q:Nat}{z:Int}{M:List (List Rat)}(h:zaR W A n c m M)(hf:∀ad,A=some ad->g<ad.block)(k:Blk W g 28 #[.slice B p q,.int .i64 z])(hB:Below w.heap.size w W)(hg:w.heap.size<=g):
  zcU w n m M (.returned (.tuple #[.agg #[.slice A n c,.int .i64 (m:Int)],.bool true])) ((W.setCell ⟨g,0,none⟩ (.slice A n c)).setCell ⟨g,1,none⟩ (.int .i64 (m:Int))):=
 ⟨A,c,rfl,h.offz k _ _,λad e=>by have:=hf ad e;omega,bl2 _ _ hg hB⟩
theorem zbd (A:oA9)(n c:Nat)(z:Int)(w:World):Calls Tryz.prog 22 #[.agg #[.slice A n c,.int .i64 z]] w (λe w'=>e=.returned (.int .i64 (n:Int))/\Below w.heap.size w w'):=by
 obtain⟨bx1,bx2,bz⟩:=zav w 28 #[.slice A n c,.int .i64 z]
 obtain⟨g0,g1⟩:=bx2.c2
 have HB:=lh9 bx1
 clear bx1 bx2 bz
 go_enter Tryz.func22,Tryz.ntmps22
 go_wp2
 go_ret
 exact⟨rfl,HB.out⟩
theorem zbr (A:oA9)(n c:Nat)(z:Int)(w:World):Calls Tryz.prog 27 #[.agg #[.slice A n c,.int .i64 z]] w (λe w'=>e=.returned (.int .i64 z)/\Below w.heap.size w w'):=by
 obtain⟨bx1,bx2,bz⟩:=zav w 28 #[.slice A n c,.int .i64 z]
 obtain⟨g0,g1⟩:=bx2.c2
 have HB:=lh9 bx1
 clear bx1 bx2 bz
 go_enter Tryz.func27,Tryz.ntmps27
 go_wp2
 go_ret
 exact⟨rfl,HB.out⟩
def ziz (r c:Int):Bool:=decide (0<=r)&&decide (r<=64)&&decide (0<=c)&&decide (c<=64)
theorem zjC {n m:Nat}(hn:n<=64)(hm:m<=64):ziz (n:Int) (m:Int)=true:=by
 unfold ziz
 rw [decide_eq_true (show(0:Int)<=(n:Int) by omega),decide_eq_true (show(n:Int)<=64 by omega),decide_eq_true (show(0:Int)<=(m:Int) by omega),decide_eq_true (show(m:Int)<=64 by omega)]
 rfl
theorem mat_may (r c:Int)(w:World):Calls Tryz.prog 93 #[.int .i64 r,.int .i64 c] w (λe w'=>e=.returned (.bool (ziz r c))/\w=w'):=by
 by_cases h1:0<=r
 ·have d1:decide (0<=r)=true:=decide_eq_true h1
  by_cases h2:r<=64
  ·have d2:decide (r<=64)=true:=decide_eq_true h2
   by_cases h3:0<=c
   ·have d3:decide (0<=c)=true:=decide_eq_true h3
    obtain⟨b,d4⟩:∃b,decide (c<=64)=b:=⟨_,rfl⟩
    have e:ziz r c=b:=by unfold ziz;rw [d1,d2,d3,d4];rfl
    rw [e]
    clear h1 h2 h3 e
    go_enter Tryz.func93,Tryz.ntmps93
    go_wp2
    go_ret
    exact⟨rfl,rfl⟩
   ·have d3:decide (0<=c)=false:=decide_eq_false h3
    have e:ziz r c=false:=by unfold ziz;rw [d1,d2,d3];rfl
    rw [e]
    clear h1 h2 h3 e
    go_enter Tryz.func93,Tryz.ntmps93
    go_wp2
    go_ret
    exact⟨rfl,rfl⟩
  ·have d2:decide (r<=64)=false:=decide_eq_false h2
   have e:ziz r c=false:=by unfold ziz;rw [d1,d2];rfl
   rw [e]
   clear h1 h2 e
   go_enter Tryz.func93,Tryz.ntmps93
   go_wp2
   go_ret
   exact⟨rfl,rfl⟩
 ·have d1:decide (0<=r)=false:=decide_eq_false h1
  have e:ziz r c=false:=by unfold ziz;rw [d1];rfl
  rw [e]
  clear h1 e
  go_enter Tryz.func93,Tryz.ntmps93
  go_wp2
  go_ret
  exact⟨rfl,rfl⟩
def inB (r:Int)(n:Nat):Bool:=decide (0<=r)&&decide (r<(n:Int))
theorem zlK {k n:Nat}(h:k<n):inB (k:Int) n=true:=by
 unfold inB
 rw [decide_eq_true (show(0:Int)<=(k:Int) by omega),decide_eq_true (show(k:Int)<(n:Int) by omega)]
 rfl
theorem zoB (A:oA9)(n c:Nat)(z r:Int)(w:World):Calls Tryz.prog 84 #[.agg #[.slice A n c,.int .i64 z],.int .i64 r] w (λe w'=>e=.returned (.bool (inB r n))/\Below w.heap.size w w'):=by
 obtain⟨bx1,bx2,bz⟩:=zav w 28 #[.slice A n c,.int .i64 z]
 obtain⟨g0,g1⟩:=bx2.c2
 have HB:=lh9 bx1
 clear bx1 bx2 bz
 by_cases h1:0<=r
 ·have d1:decide (0<=r)=true:=decide_eq_true h1
  obtain⟨b,d4⟩:∃b,decide (r<(n:Int))=b:=⟨_,rfl⟩
  have e:inB r n=b:=by unfold inB;rw [d1,d4];rfl
  rw [e]
  clear h1 e
  have H:=λW=>lh9 (zbd A n c z W)
  go_enter Tryz.func84,Tryz.ntmps84
  go_wp2_with fail
  refine(H _).out.mono ?_
  rintro e w1 ⟨rfl,hb⟩
  have HB2:=lh9 (zab HB.out hb)
  clear hb
  go_wp2
  go_ret
  exact⟨rfl,HB2.out⟩
 ·have d1:decide (0<=r)=false:=decide_eq_false h1
  have e:inB r n=false:=by unfold inB;rw [d1];rfl
  rw [e]
  clear h1 e
  go_enter Tryz.func84,Tryz.ntmps84
  go_wp2
  go_ret
  exact⟨rfl,HB.out⟩
theorem zoA (A:oA9)(n c m:Nat)(r:Int)(w:World):Calls Tryz.prog 121 #[.agg #[.slice A n c,.int .i64 (m:Int)],.int .i64 r] w (λe w'=>e=.returned (.bool (inB r m))/\Below w.heap.size w w'):=by
 obtain⟨bx1,bx2,bz⟩:=zav w 28 #[.slice A n c,.int .i64 (m:Int)]
 obtain⟨g0,g1⟩:=bx2.c2
 have HB:=lh9 bx1
 clear bx1 bx2 bz
 by_cases h1:0<=r
 ·have d1:decide (0<=r)=true:=decide_eq_true h1
  obtain⟨b,d4⟩:∃b,decide (r<(m:Int))=b:=⟨_,rfl⟩
  have e:inB r m=b:=by unfold inB;rw [d1,d4];rfl
  rw [e]
  clear h1 e
  go_enter Tryz.func121,Tryz.ntmps121
  go_wp2
  go_ret
  exact⟨rfl,HB.out⟩
 ·have d1:decide (0<=r)=false:=decide_eq_false h1
  have e:inB r m=false:=by unfold inB;rw [d1];rfl
  rw [e]
  clear h1 e
  go_enter Tryz.func121,Tryz.ntmps121
  go_wp2
  go_ret
  exact⟨rfl,HB.out⟩
def LI (K:Nat)(x:Rat):Prop:=∃z:Int,x=(z:Rat)/\Sz K z.natAbs
theorem LI.up {K K':Nat}{x:Rat}(h:LI K x)(hk:K<=K'):LI K' x:=by
 obtain⟨z,e,hz⟩:=h;exact⟨z,e,hz.up hk⟩
theorem LI.one:LI 1 1:=⟨1,by decide+kernel,by show 1<18446744073709551616^1;rw [Nat.pow_one];decide⟩
theorem LI.zero (K:Nat):LI K 0:=⟨0,by decide+kernel,Nat.pow_pos (by decide)⟩
theorem LI.mul {K K':Nat}{x y:Rat}(h:LI K x)(k:LI K' y):LI (K+K') (x*y):=by
 obtain⟨z,rfl,hz⟩:=h;obtain⟨t,rfl,ht⟩:=k
 exact⟨z*t,(Rat.intCast_mul z t).symm,by rw [Int.natAbs_mul];exact hz.mul ht⟩
theorem LI.neg {K:Nat}{x:Rat}(h:LI K x):LI K (-x):=by
 obtain⟨z,rfl,hz⟩:=h;exact⟨-z,(Rat.intCast_neg z).symm,by rw [Int.natAbs_neg];exact hz⟩
theorem LI.add {K:Nat}{x y:Rat}(h:LI K x)(k:LI K y):LI (K+1) (x+y):=by
 obtain⟨z,rfl,hz⟩:=h;obtain⟨t,rfl,ht⟩:=k
 refine⟨z+t,(Rat.intCast_add z t).symm,?_⟩
 have:=Int.natAbs_add_le z t
 unfold Sz at*
 rw [Nat.pow_succ]
 omega
theorem LI.sub {K:Nat}{x y:Rat}(h:LI K x)(k:LI K y):LI (K+1) (x - y):=by
 rw [Rat.sub_eq_add_neg];exact h.add k.neg
theorem LI.sum {K k:Nat}{f:Nat->Rat}(hk:k<=18446744073709551616)(h:∀i,i<k->LI K (f i)):LI (K+1) (zaw k f):=by
 have:∀q,q<=k->∃z:Int,zaw q f=(z:Rat)/\z.natAbs<=q*(18446744073709551616^K - 1):=by
  intro q
  induction q with
  |zero=>intro _;exact⟨0,by rw [zhX];decide+kernel,by omega⟩
  |succ q ih=>
    intro hq
    obtain⟨z,e,hz⟩:=ih (by omega)
    obtain⟨t,e2,ht⟩:=h q (by omega)
    refine⟨z+t,by rw [zaL,e,e2,Rat.intCast_add],?_⟩
    have h1:=Int.natAbs_add_le z t
    unfold Sz at ht
    rw [Nat.succ_mul]
    omega
 obtain⟨z,e,hz⟩:=this k (Nat.le_refl _)
 refine⟨z,e,?_⟩
 unfold Sz
 rw [Nat.pow_succ,Nat.mul_comm]
 have h0:0<18446744073709551616^K:=Nat.pow_pos (by decide)
 refine Nat.lt_of_le_of_lt hz (Nat.lt_of_le_of_lt (Nat.mul_le_mul_right _ hk) ?_)
 exact Nat.mul_lt_mul_of_pos_left (by omega) (by decide)
theorem LI.sg_ {K c:Nat}{x:Rat}(h:LI K x):LI K (sg c*x):=by
 unfold sg
 split
 ·rw [Rat.one_mul];exact h
 ·rw [Rat.neg_mul,Rat.one_mul];exact h.neg
theorem LI.det_ {K:Nat}:∀{n:Nat} {M:Nat->Nat->Rat},n<=64->(∀i,i<n->∀j,j<n->LI K (M i j))->LI (1+n*(K+1)) (zaF n M)
 |0,_,_,_=>LI.one.up (by omega)
 |n+1,M,hn,h=>by
   rw [zaX]
   refine(LI.sum (K:=K+(1+n*(K+1))) (by omega) λc hc=>?_).up (by rw [Nat.succ_mul];omega)
   exact(LI.sg_ (h 0 (by omega) c hc)).mul (LI.det_ (by omega) λi hi j hj=>h (i+1) (by omega) _ (skp_lt hj))
theorem zcK.lead_sz {n m c K:Nat}{a s:Nat->Nat->Rat}{ld:List Nat}{p:Rat}(h:zcK n m c a s ld p)(hn:n<=64)(ha:∀i,i<n->∀j,j<m->LI K (a i j)):LI (1+64*(K+1)) p:=by
 have h1:=h.len
 rw [h.det]
 refine(LI.det_ (K:=K) (by omega) λi hi j hj=>ha i (by omega) _ ?_).up (Nat.add_le_add_left (Nat.mul_le_mul_right _ (by omega)) _)
 have:=h.lt j hj;have:=h.cm;omega
theorem zcK.top_sz {n m c K:Nat}{a s:Nat->Nat->Rat}{ld:List Nat}{p:Rat}(h:zcK n m c a s ld p)(hn:n<=64)(ha:∀i,i<n->∀j,j<m->LI K (a i j)){l j:Nat}(hl:l<ld.length)(hj:j<m):LI (1+64*(K+1)) (s l j):=by
 have h1:=h.len
 rw [h.col hl hj]
 refine(LI.det_ (K:=K) (by omega) λi hi j' hj'=>?_).up (Nat.add_le_add_left (Nat.mul_le_mul_right _ (by omega)) _)
 by_cases e:j'=l
 ·rw [e,zbk];exact ha i (by omega) j hj
 ·rw [zbp _ e];refine ha i (by omega) _ ?_
  have:=h.lt j' hj';have:=h.cm;omega
theorem zcK.sz {n m c K:Nat}{a s:Nat->Nat->Rat}{ld:List Nat}{p:Rat}(h:zcK n m c a s ld p)(hn:n<=64)(ha:∀i,i<n->∀j,j<m->LI K (a i j)){i j:Nat}(hi:i<n)(hj:j<m):LI (67+65*K) (s i j):=by
 have h1:=h.len
 by_cases hl:i<ld.length
 ·exact(h.top_sz hn ha hl hj).up (by omega)
 ·have e:=h.back i hi j hj
  rw [if_pos (by omega)] at e
  have e2:s i j=p*a i j - zaw ld.length (λl=>a i (ld.getD l 0)*s l j):=by grind
  rw [e2]
  have b1:=(h.lead_sz hn ha).mul (ha i hi j hj)
  have b2:LI (K+(1+64*(K+1))+1) (zaw ld.length (λl=>a i (ld.getD l 0)*s l j)):=LI.sum (by omega) λl hl=>(ha i hi _ (by have:=h.lt l hl;have:=h.cm;omega)).mul (h.top_sz hn ha hl hj)
  exact((b1.up (K':=K+(1+64*(K+1))+1) (by omega)).sub b2).up (by omega)
theorem zcK.lead_sz' {n m c K:Nat}{a s:Nat->Nat->Rat}{ld:List Nat}{p:Rat}(h:zcK n m c a s ld p)(hn:n<=64)(ha:∀i,i<n->∀j,j<m->LI K (a i j)):LI (67+65*K) p:=(h.lead_sz hn ha).up (by omega)
inductive ziv (n : Nat) (a0 : Nat → Nat → Rat) : (Nat → Nat → Rat) → Prop
 |refl:ziv n a0 a0
 |sw {a r q}:ziv n a0 a->r<q->q<n->ziv n a0 (swp r q a)
theorem ziv.li {n m K:Nat}{a0 a:Nat->Nat->Rat}(h:ziv n a0 a)(h0:∀i,i<n->∀j,j<m->LI K (a0 i j)):∀i,i<n->∀j,j<m->LI K (a i j):=by
 induction h with
 |refl=>exact h0
 |sw h1 h2 h3 ih=>
   intro i hi j hj
   unfold swp
   split
   ·exact ih _ h3 j hj
   ·split
    ·exact(ih _ (by omega) j hj).neg
    ·exact ih i hi j hj
theorem ziv.rows {n:Nat}{a0 a:Nat->Nat->Rat}(h:ziv n a0 a):(∀i,i<n->∃i',i'<n/\∃e:Rat,e*e=1/\∀j,a i j=e*a0 i' j)/\(∀i,i<n->∃i',i'<n/\∃e:Rat,e*e=1/\∀j,a0 i j=e*a i' j):=by
 induction h with
 |refl=>exact⟨λi hi=>⟨i,hi,1,by decide+kernel,λj=>(Rat.one_mul _).symm⟩,λi hi=>⟨i,hi,1,by decide+kernel,λj=>(Rat.one_mul _).symm⟩⟩
 | @sw a r q h1 h2 h3 ih=>
   constructor
   ·intro i hi
    by_cases e1:i=r
    ·obtain⟨i',k1,e,k2,k3⟩:=ih.1 q h3
     exact⟨i',k1,e,k2,λj=>by unfold swp;rw [if_pos e1];exact k3 j⟩
    ·by_cases e2:i=q
     ·obtain⟨i',k1,e,k2,k3⟩:=ih.1 r (by omega)
      exact⟨i',k1,-e,by grind,λj=>by unfold swp;rw [if_neg e1,if_pos e2,k3 j,Rat.neg_mul]⟩
     ·obtain⟨i',k1,e,k2,k3⟩:=ih.1 i hi
      exact⟨i',k1,e,k2,λj=>by unfold swp;rw [if_neg e1,if_neg e2];exact k3 j⟩
   ·intro i hi
    obtain⟨i',k1,e,k2,k3⟩:=ih.2 i hi
    by_cases e1:i'=q
    ·exact⟨r,by omega,e,k2,λj=>by unfold swp;rw [if_pos rfl,k3 j,e1]⟩
    ·by_cases e2:i'=r
     ·exact⟨q,h3,-e,by grind,λj=>by unfold swp;rw [if_neg (by omega),if_pos rfl,k3 j,e2];grind⟩
     ·exact⟨i',k1,e,k2,λj=>by unfold swp;rw [if_neg e2,if_neg e1];exact k3 j⟩
structure ESt where
 S:List (List Rat)
 ld:List Nat
 p:Rat
def swpL (r q:Nat)(S:List (List Rat)):List (List Rat):=(S.set r (S.getD q [])).set q (zaS (-1) (S.getD r []))
def zdl (p:Rat)(row by_:List Rat)(c:Nat):List Rat:=zaS p⁻¹ (zib (zaS (by_.getD c 0) row) (-row.getD c 0) by_)
def zhL (r c:Nat)(p:Rat)(S:List (List Rat)):List (List Rat):=S.mapIdx λi row=>if i=r then row else zdl p row (S.getD r []) c
def zbn (c:Nat)(e:ESt):Nat:=(e.S.drop e.ld.length).findIdx λrow=> !decide (row.getD c 0=0)
def zfL (c:Nat)(e:ESt):List (List Rat):=if zbn c e=0 then e.S else swpL e.ld.length (e.ld.length+zbn c e) e.S
def zfJ (c:Nat)(e:ESt):ESt:=
 if zbn c e<e.S.length - e.ld.length then⟨zhL e.ld.length c e.p (zfL c e),e.ld++[c],atM (zfL c e) e.ld.length c⟩ else e
theorem zfD {S:List (List Rat)}{r i:Nat}(v:List Rat)(h:i≠r):(S.set r v).getD i []=S.getD i []:=by
 rw [List.getD_eq_getElem?_getD,List.getElem?_set_ne (Ne.symm h),<-List.getD_eq_getElem?_getD]
theorem zii {S:List (List Rat)}{r:Nat}(v:List Rat)(h:r<S.length):(S.set r v).getD r []=v:=by
 rw [List.getD_eq_getElem?_getD,List.getElem?_set_self h];rfl
theorem zeI {r:Rat}{xs:List Rat}(j:Nat):(zaS r xs).getD j 0=r*xs.getD j 0:=by
 unfold zaS
 rw [List.getD_eq_getElem?_getD,List.getD_eq_getElem?_getD,List.getElem?_map]
 cases xs[j]? with
 |none=>exact(Rat.mul_zero r).symm
 |some x=>rfl
theorem addTL_at {r:Rat}{xs ys:List Rat}{j:Nat}(hx:j<xs.length)(hy:j<ys.length):(zib xs r ys).getD j 0=xs.getD j 0+r*ys.getD j 0:=by
 unfold zib
 rw [List.getD_eq_getElem?_getD,List.getD_eq_getElem?_getD,List.getD_eq_getElem?_getD,List.getElem?_zipWith,List.getElem?_eq_getElem hx,List.getElem?_eq_getElem hy]
 rfl
theorem zre {S:List (List Rat)}{n m r q:Nat}(h:zaN S n m)(hr:r<n)(hq:q<n):zaN (swpL r q S) n m:=by
 refine⟨by unfold swpL;rw [List.length_set,List.length_set];exact h.rows,λL hL=>?_⟩
 unfold swpL at hL
 rcases List.mem_or_eq_of_mem_set hL with hL|rfl
 ·rcases List.mem_or_eq_of_mem_set hL with hL|rfl
  ·exact h.cols L hL
  ·exact h.row hq
 ·unfold zaS;rw [List.length_map];exact h.row hr
theorem swpL_at {S:List (List Rat)}{r q:Nat}(hr:r<S.length)(hq:q<S.length)(hne:r≠q):atM (swpL r q S)=swp r q (atM S):=by
 funext i j
 unfold atM swpL swp
 by_cases e1:i=r
 ·subst e1
  rw [if_pos rfl,zfD _ hne,zii _ hr]
 ·rw [if_neg e1]
  by_cases e2:i=q
  ·subst e2
   rw [if_pos rfl,zii _ (by rw [List.length_set];exact hq),zeI,Rat.neg_mul,Rat.one_mul]
  ·rw [if_neg e2,zfD _ e2,zfD _ e1]
theorem zje {p:Rat}{row by_:List Rat}{c m:Nat}(h:row.length=m)(k:by_.length=m):(zdl p row by_ c).length=m:=by
 unfold zdl zaS zib
 rw [List.length_map,List.length_zipWith,List.length_map,h,k,Nat.min_self]
theorem zqb {S:List (List Rat)}{n m r c:Nat}{p:Rat}(h:zaN S n m)(hr:r<n):zaN (zhL r c p S) n m:=by
 refine⟨by unfold zhL;rw [List.length_mapIdx];exact h.rows,λL hL=>?_⟩
 unfold zhL at hL
 obtain⟨i,hi,rfl⟩:=List.mem_mapIdx.1 hL
 split
 ·exact h.cols _ (List.getElem_mem _)
 ·exact zje (h.cols _ (List.getElem_mem _)) (h.row hr)
theorem zmA {S:List (List Rat)}{r c i:Nat}{p:Rat}(hi:i<S.length):(zhL r c p S).getD i []=if i=r then S.getD i [] else zdl p (S.getD i []) (S.getD r []) c:=by
 unfold zhL
 rw [List.getD_eq_getElem?_getD,List.getElem?_mapIdx,List.getElem?_eq_getElem hi]
 show(if i=r then _ else _)=_
 rw [show S.getD i []=S[i] by rw [List.getD_eq_getElem?_getD,List.getElem?_eq_getElem hi];rfl]
theorem clrL_at {S:List (List Rat)}{n m r c i j:Nat}{p:Rat}(h:zaN S n m)(hr:r<n)(hi:i<n)(hj:j<m):atM (zhL r c p S) i j=clr r c p (atM S) i j:=by
 unfold atM clr
 rw [zmA (by rw [h.rows];exact hi)]
 by_cases e:i=r
 ·rw [if_pos e,if_pos e,e]
 ·rw [if_neg e,if_neg e]
  unfold zdl
  rw [zeI,addTL_at (by unfold zaS;rw [List.length_map,h.row hi];exact hj) (by rw [h.row hr];exact hj),zeI]
theorem zcK.congr {n m c:Nat}{a s s':Nat->Nat->Rat}{ld:List Nat}{p:Rat}(h:zcK n m c a s ld p)(e:∀i,i<n->∀j,j<m->s' i j=s i j):zcK n m c a s' ld p:=
 have hk:=h.len
 have hm:=h.cm
 { h with
  piv:=λl hl i hi=>by rw [e i hi _ (by have:=h.lt l hl;omega)];exact h.piv l hl i hi
  low:=λi h1 h2 j hj=>by rw [e i h2 j (by omega)];exact h.low i h1 h2 j hj
  fore:=λl hl j hj=>by rw [e l (by omega) j (by have:=h.lt l hl;omega)];exact h.fore l hl j hj
  back:=λi hi j hj=>by
   rw [h.back i hi j hj,e i hi j hj]
   congr 1
   exact zan λl hl=>by rw [e l (by omega) j hj]}
structure EOk (n m c:Nat)(a0:Nat->Nat->Rat)(e:ESt):Prop where
 dims:zaN e.S n m
 inv:∃a,ziv n a0 a/\zcK n m c a (atM e.S) e.ld e.p
theorem EOk.start {n m:Nat}{S:List (List Rat)}(h:zaN S n m):EOk n m 0 (atM S) ⟨S,[],1⟩:=⟨h,_,.refl,zcK.start _ _ _⟩
theorem zgw {S:List (List Rat)}{r i:Nat}(h:i<(S.drop r).length):(S.drop r)[i]=S.getD (r+i) []:=by
 rw [List.length_drop] at h
 rw [List.getElem_drop,List.getD_eq_getElem?_getD,List.getElem?_eq_getElem (by omega)];rfl
theorem zmw {c:Nat}{e:ESt}(h:¬ zbn c e<e.S.length - e.ld.length){i:Nat}(h1:e.ld.length<=i)(h2:i<e.S.length):atM e.S i c=0:=by
 have hl:(e.S.drop e.ld.length).length=e.S.length - e.ld.length:=List.length_drop
 have:=List.not_of_lt_findIdx (p:=λrow:List Rat=> !decide (row.getD c 0=0)) (xs:=e.S.drop e.ld.length) (i:=i - e.ld.length) (by show _<zbn c e;omega)
 rw [zgw (by omega),show e.ld.length+(i - e.ld.length)=i by omega] at this
 simpa [atM] using this
theorem zmx {c:Nat}{e:ESt}(h:zbn c e<e.S.length - e.ld.length):atM e.S (e.ld.length+zbn c e) c≠0:=by
 have hl:(e.S.drop e.ld.length).length=e.S.length - e.ld.length:=List.length_drop
 have:=List.findIdx_getElem (p:=λrow:List Rat=> !decide (row.getD c 0=0)) (xs:=e.S.drop e.ld.length) (w:=by show zbn c e<_;omega)
 rw [zgw (by show zbn c e<_;omega)] at this
 simpa [atM,zbn] using this
theorem EOk.pick {n m c:Nat}{a0:Nat->Nat->Rat}{e:ESt}(h:EOk n m c a0 e)(hb:zbn c e<n - e.ld.length):zaN (zfL c e) n m/\(∃a,ziv n a0 a/\zcK n m c a (atM (zfL c e)) e.ld e.p)/\atM (zfL c e) e.ld.length c≠0:=by
 obtain⟨hd,a,hs,hi⟩:=h
 have hb':zbn c e<e.S.length - e.ld.length:=by rw [hd.rows];exact hb
 have hne:=zmx hb'
 unfold zfL
 by_cases h0:zbn c e=0
 ·rw [if_pos h0];rw [h0,Nat.add_zero] at hne;exact⟨hd,⟨a,hs,hi⟩,hne⟩
 ·rw [if_neg h0]
  have hr:=hd.rows
  have e1:=swpL_at (S:=e.S) (r:=e.ld.length) (q:=e.ld.length+zbn c e) (by omega) (by omega) (by omega)
  refine⟨zre hd (by omega) (by omega),⟨swp e.ld.length (e.ld.length+zbn c e) a,hs.sw (by omega) (by omega),by rw [e1];exact hi.swap (by omega) (by omega)⟩,?_⟩
  rw [e1]
  unfold swp
  rw [if_pos rfl];exact hne
theorem EOk.next {n m c:Nat}{a0:Nat->Nat->Rat}{e:ESt}(h:EOk n m c a0 e)(hc:c<m):EOk n m (c+1) a0 (zfJ c e):=by
 have hr:=h.dims.rows
 unfold zfJ
 by_cases hb:zbn c e<e.S.length - e.ld.length
 ·rw [if_pos hb]
  obtain⟨hd,⟨a,hs,hi⟩,hne⟩:=h.pick (by rw [<-hr];exact hb)
  exact⟨zqb hd (by omega),a,hs,(hi.clear hc (by omega) hne).congr λi hi' j hj=>clrL_at hd (by omega) hi' hj⟩
 ·rw [if_neg hb]
  obtain⟨hd,a,hs,hi⟩:=h
  exact⟨hd,a,hs,hi.skip hc λi h1 h2=>zmw hb h1 (by omega)⟩
def zeD (c:Nat)(S:List (List Rat)):ESt:=(List.range c).foldl (λe c=>zfJ c e) ⟨S,[],1⟩
theorem zjk (c:Nat)(S:List (List Rat)):zeD (c+1) S=zfJ c (zeD c S):=by
 unfold zeD;rw [List.range_succ,List.foldl_append];rfl
theorem ziH {n m:Nat}{S:List (List Rat)}(h:zaN S n m):∀{c:Nat},c<=m->EOk n m c (atM S) (zeD c S)
 |0,_=>EOk.start h
 |c+1,hc=>by rw [zjk];exact(ziH h (by omega)).next (by omega)
