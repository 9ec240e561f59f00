/- What this claim leans on. -/
import Derived.Test.YtipmllfnpldbdaaGreatDoorFVVecs
set_option linter.unusedVariables false
set_option linter.unusedSimpArgs false
namespace Go.Proofs.YtipmllfnpldbdaaGreatDoor
open Go Go.RowKit Go.Proofs.Tryz
set_option maxHeartbeats 16000000
set_option maxRecDepth 100000
variable {cs:Array Value}{z:Int}{M:List (List Rat)}{xs:List Rat}{K b c g m n p:Nat}{t:TypeId}{W w w' wr:World}{A B:zf}
def vE (k:IntKind)(cs:Array Value):Prop:=∀v ∈ cs.toList,∀z,v≠.int k z
theorem Wp {k:IntKind}{l:List Nat}(h:zE w w.heap.size 1 A n (zv k l))(hk:zi w g t cs)(a:vE k cs):0<n->∀ad,A=some ad->ad.block≠g:=λhn ad e hg=>by
 have hl:=h.len_;obtain⟨ad',e',_,hc⟩:=h.2 hn;rw [e] at e';injection e' with e';subst e';have h0:=hc 0 (.int k (l.getD 0 0:Nat)) (ot k _ 0 za);have e0:ad.add 0=ad:=by unfold Addr.add;rw [if_pos rfl]
 rw [e0] at h0;obtain⟨bk,off,pr⟩:=ad;simp only at hg;subst hg;unfold zi at hk;cases pr with
 |none=>
   rw [show w.cell? ⟨bk,off,none⟩=cs[off]? from cell_of_row w bk off _ t (0,0) hk,<-QL] at h0;exact a _ (QA h0) _ rfl
 |some q=>simp [World.cell?,hk] at h0
theorem fN {x:Nat}(h:zo w x A n c)(hk:zi w g t cs)(a:vE .u64 cs)(ho:zZ g w w'):zo w' x A n c:=by
 have d:=Wp h.1 hk a;refine⟨⟨h.1.1,λhn=>?_⟩,h.2⟩;obtain⟨ad,e,hb,hc⟩:=h.1.2 hn;refine⟨ad,e,qJ hb ho.1,λj v hv=>?_⟩;rw [ho.2 (ad.add j) (by rw [y9];exact hb) (by rw [y9];exact d hn ad e)];exact hc j v hv
theorem nL {t:TypeId}{cs:Array Value}(hk:zi w g t cs)(a:vE .u64 cs)(ho:zZ g w w'){r:Rat}{b:Bool}{A:zf}{n c:Nat}{E:zf}{k f:Nat}(h:zt w r b A n c E k f):zt w' r b A n c E k f:=by
 obtain⟨⟨h1,h2⟩,x,e,h3⟩:=h;exact⟨⟨h1,fN h2 hk a ho⟩,x,e,fN h3 hk a ho⟩
theorem bP (A:zf)(n c:Nat)(z:Int):vE .u64 #[.slice A n c,.int .i64 z]:=by intro v hv z9 e;simp at hv;rcases hv with rfl|rfl<;>cases e
theorem fZ (A:zf)(n c:Nat)(z:Int):∀u ∈(#[.slice A n c,.int .i64 z]:Array Value).toList,∀b,u≠.bool b:=by intro v hv b e;simp at hv;rcases hv with rfl|rfl<;>cases e
theorem nO (h:zy w A n c xs)(hk:zi w g t cs)(hs:∀u ∈ cs.toList,∀b,u≠.bool b)(a:vE .u64 cs)(ho:zZ g w w'):zy w' A n c xs:=
 cT h hk hs ho (λh5=>nL hk a ho h5)
def yv (w:World)(b:Nat)(t:TypeId):Prop:=∃cs,zi w b t cs
theorem yv.below (h:yv w b t)(hb:Below w.heap.size w w'):yv w' b t:=by
 obtain⟨cs,hk⟩:=h;exact⟨cs,zj hb hk⟩
theorem yv.set_ (h:yv w b t)(g i:Nat)(v:Value):yv (w.setCell ⟨g,i,none⟩ v) b t:=by
 obtain⟨cs,hk⟩:=h;by_cases hg:b=g
 ·subst hg;exact⟨_,hk.set_ i v⟩
 ·exact⟨cs,zi.far (p:=⟨g,i,none⟩) hk hg v⟩
theorem yv.ne {s:TypeId}(h:yv w b t)(hk:zi w g s cs)(hn:t≠s):b≠g:=λe=>by
 obtain⟨ds,hd⟩:=h;subst e;unfold zi at hd hk;rw [hd] at hk;injection hk with hk;injection hk with _ hk;exact hn hk
structure xl (w:World)(A:zf)(n c m:Nat)(M:List (List Rat)):Prop where
 dims:wZ M n m
 fits:n<=c
 most:c<=9223372036854775807
 hn:n<=64
 hm:m<=64
 rows:wf (yh zt) w A n M
 ty:∀ad,A=some ad->yv w ad.block 32
theorem xl.keep {w':World}(h:xl w A n c m M)(hb:Below w.heap.size w w'):xl w' A n c m M:={h with rows:=h.rows.below (vO yx) hb,ty:=λad e=>(h.ty ad e).below hb}
theorem xl.nil (w:World):xl w none 0 0 0 []:=⟨th 0,qX _,zh,zh,zh,wf.nil w none,λad e=>by cases e⟩
theorem xl.offz {q:Nat}(h:xl w A n c m M)(hk:zi w g t #[.slice B p q,.int .i64 z])(x y:Value)(ht:32≠t:=by decide):xl ((w.setCell ⟨g,0,none⟩ x).setCell ⟨g,1,none⟩ y) A n c m M:=
 { h with
  rows:=h.rows.off (λad e=>(h.ty ad e).ne hk ht) (zZ.of_far (wU _ _ _ _)) (λh3=>nO h3 hk (fZ _ _ _ _) (bP _ _ _ _) (zZ.of_far (wU _ _ _ _)))
  ty:=λad e=>((h.ty ad e).set_ _ _ _).set_ _ _ _}
theorem zy.offz {q:Nat}(h:zy w A n c xs)(hk:zi w g t #[.slice B p q,.int .i64 z])(x y:Value):zy ((w.setCell ⟨g,0,none⟩ x).setCell ⟨g,1,none⟩ y) A n c xs:=
 nO h hk (fZ _ _ _ _) (bP _ _ _ _) (zZ.of_far (wU _ _ _ _))
theorem xl.row (h:xl w A n c m M)(hb:Below w.heap.size w wr){i:Nat}(hi:i<n):∃(ad:Addr) (B:zf) (d:Nat),A=some ad/\ad.block<w.heap.size/\wr.cell? (ad.add i)=some (.slice B m d)/\zy wr B m d (M.getD i []):=
 h.rows.get (vO yx) hb hi (h.dims.row hi)
theorem xl.place (h:xl w A n c m M)(hb:Below w.heap.size w wr){i j:Nat}(hi:i<n)(hj:j<m):∃(ad:Addr) (B:zf) (d:Nat),A=some ad/\ad.block<w.heap.size/\wr.cell? (ad.add i)=some (.slice B m d)/\
  ∃(ae:Addr) (b1:Bool) (B1:zf) (m1 d1:Nat) (E1:zf) (u1 v1:Nat),B=some ae/\ae.block<wr.heap.size/\wr.cell? (ae.add (j*3))=some (.bool b1)/\wr.cell? ⟨(ae.add (j*3)).block,(ae.add (j*3)).off+1,none⟩=some (.slice B1 m1 d1)/\wr.cell? ⟨(ae.add (j*3)).block,(ae.add (j*3)).off+2,none⟩=some (.slice E1 u1 v1)/\zt wr (vI M i j) b1 B1 m1 d1 E1 u1 v1:=by
 obtain⟨ad,B,d,e,h1,h2,h3⟩:=h.row hb hi;obtain⟨ae,b1,B1,m1,d1,E1,u1,v1,e4,h4,h5,h6,h7,h8⟩:=h3.get (qY _ _) hj;exact⟨ad,B,d,e,h1,h2,ae,b1,B1,m1,d1,E1,u1,v1,e4,h4,h5,h6,h7,h8⟩
def wQ (K:Nat)(M:List (List Rat)):Prop:=∀L ∈ M,zH K L
theorem wQ.up {K':Nat}(h:wQ K M)(e:K<=K'):wQ K' M:=λL hL=>(h L hL).up e
theorem wQ.row {i:Nat}(h:wQ K M)(hi:i<M.length):zH K (M.getD i []):=h _ (QA (nJ hi))
theorem wQ.at_ {i j:Nat}(h:wQ K M)(hd:wZ M n m)(hi:i<n)(hj:j<m):zp K (vI M i j):=by
 have hl:=hd.rows;have hr:=hd.row hi;exact(h.row (i:=i) za).at_ za
theorem wQ.nil (K:Nat):wQ K []:=λL hL=>by cases hL
def lI (w:World)(n m:Nat)(M:List (List Rat))(e:Ending)(w':World):Prop:=∃(A:zf) (c:Nat),e=.returned (.agg #[.slice A n c,.int .i64 (m:Int)])/\xl w' A n c m M/\(∀ad,A=some ad->w.heap.size<=ad.block)/\Below w.heap.size w w'
def eA (w:World)(n m:Nat)(M:List (List Rat))(e:Ending)(w':World):Prop:=∃(A:zf) (c:Nat),e=.returned (.tuple #[.agg #[.slice A n c,.int .i64 (m:Int)],.bool true])/\xl w' A n c m M/\(∀ad,A=some ad->w.heap.size<=ad.block)/\Below w.heap.size w w'
theorem aC {q:Nat}(h:xl W A n c m M)(hf:∀ad,A=some ad->g<ad.block)(k:zi W g 30 #[.slice B p q,.int .i64 z])(hB:Below w.heap.size w W)(hg:w.heap.size<=g):
  lI w n m M (.returned (.agg #[.slice A n c,.int .i64 (m:Int)])) ((W.setCell ⟨g,0,none⟩ (.slice A n c)).setCell ⟨g,1,none⟩ (.int .i64 (m:Int))):=
 ⟨A,c,rfl,h.offz k _ _,λad e=>by have:=hf ad e;omega,rl _ _ hg hB⟩
theorem ju {q:Nat}(h:xl W A n c m M)(hf:∀ad,A=some ad->g<ad.block)(k:zi W g 30 #[.slice B p q,.int .i64 z])(hB:Below w.heap.size w W)(hg:w.heap.size<=g):
  eA w n m M (.returned (.tuple #[.agg #[.slice A n c,.int .i64 (m:Int)],.bool true])) ((W.setCell ⟨g,0,none⟩ (.slice A n c)).setCell ⟨g,1,none⟩ (.int .i64 (m:Int))):=
 ⟨A,c,rfl,h.offz k _ _,λad e=>by have:=hf ad e;omega,rl _ _ hg hB⟩
theorem tP (A:zf)(n c:Nat)(z:Int)(w:World):Calls prog 14 #[.agg #[.slice A n c,.int .i64 z]] w (λe w'=>e=.returned (.int .i64 (n:Int))/\Below w.heap.size w w'):=by
 obtain⟨a,d,bz⟩:=zF w 30 #[.slice A n c,.int .i64 z];obtain⟨g0,g1⟩:=d.c2;have HB:=zd a;clear a d bz;go_enter func14,ntmps14;go_wp2;go_ret;exact⟨rfl,HB.o⟩
theorem tM (A:zf)(n c:Nat)(z:Int)(w:World):Calls prog 15 #[.agg #[.slice A n c,.int .i64 z]] w (λe w'=>e=.returned (.int .i64 z)/\Below w.heap.size w w'):=by
 obtain⟨a,d,bz⟩:=zF w 30 #[.slice A n c,.int .i64 z];obtain⟨g0,g1⟩:=d.c2;have HB:=zd a;clear a d bz;go_enter func15,ntmps15;go_wp2;go_ret;exact⟨rfl,HB.o⟩
def uF (r c:Int):Bool:=decide (0<=r)&&decide (r<=64)&&decide (0<=c)&&decide (c<=64)
theorem tQ (hn:n<=64)(hm:m<=64):uF (n:Int) (m:Int)=true:=by
 unfold uF;rw [decide_eq_true (show(0:Int)<=(n:Int) by omega),decide_eq_true (show(n:Int)<=64 by omega),decide_eq_true (show(0:Int)<=(m:Int) by omega),decide_eq_true (show(m:Int)<=64 by omega)];rfl
theorem qo (r c:Int)(w:World):Calls prog 81 #[.int .i64 r,.int .i64 c] w (λe w'=>e=.returned (.bool (uF r c))/\w=w'):=by
 by_cases h1:0<=r
 ·have d1:decide (0<=r)=true:=decide_eq_true h1;by_cases h2:r<=64
  ·have d2:decide (r<=64)=true:=decide_eq_true h2;by_cases h3:0<=c
   ·have d3:decide (0<=c)=true:=decide_eq_true h3;obtain⟨b,d4⟩:∃b,decide (c<=64)=b:=⟨_,rfl⟩;have e:uF r c=b:=by unfold uF;rw [d1,d2,d3,d4];rfl
    rw [e];clear h1 h2 h3 e;go_enter func81,ntmps81;go_wp2;go_ret;exact⟨rfl,rfl⟩
   ·have d3:decide (0<=c)=false:=decide_eq_false h3;have e:uF r c=false:=by unfold uF;rw [d1,d2,d3];rfl
    rw [e];clear h1 h2 h3 e;go_enter func81,ntmps81;go_wp2;go_ret;exact⟨rfl,rfl⟩
  ·have d2:decide (r<=64)=false:=decide_eq_false h2;have e:uF r c=false:=by unfold uF;rw [d1,d2];rfl
   rw [e];clear h1 h2 e;go_enter func81,ntmps81;go_wp2;go_ret;exact⟨rfl,rfl⟩
 ·have d1:decide (0<=r)=false:=decide_eq_false h1;have e:uF r c=false:=by unfold uF;rw [d1];rfl
  rw [e];clear h1 e;go_enter func81,ntmps81;go_wp2;go_ret;exact⟨rfl,rfl⟩
def xm (r:Int)(n:Nat):Bool:=decide (0<=r)&&decide (r<(n:Int))
theorem iD {r:Int}(h:xm r n=true):∃k:Nat,r=(k:Int)/\k<n:=by
 unfold xm at h;simp only [Bool.and_eq_true,decide_eq_true_eq] at h;exact⟨r.toNat,za,za⟩
theorem bL {k:Nat}(h:k<n):xm (k:Int) n=true:=by
 unfold xm;rw [decide_eq_true (show(0:Int)<=(k:Int) by omega),decide_eq_true (show(k:Int)<(n:Int) by omega)];rfl
theorem Xd (A:zf)(n c:Nat)(z r:Int)(w:World):Calls prog 53 #[.agg #[.slice A n c,.int .i64 z],.int .i64 r] w (λe w'=>e=.returned (.bool (xm r n))/\Below w.heap.size w w'):=by
 obtain⟨a,d,bz⟩:=zF w 30 #[.slice A n c,.int .i64 z];obtain⟨g0,g1⟩:=d.c2;have HB:=zd a;clear a d bz;by_cases h1:0<=r
 ·have d1:decide (0<=r)=true:=decide_eq_true h1;obtain⟨b,d4⟩:∃b,decide (r<(n:Int))=b:=⟨_,rfl⟩;have e:xm r n=b:=by unfold xm;rw [d1,d4];rfl
  rw [e];clear h1 e;have H:=λW=>zd (tP A n c z W);go_enter func53,ntmps53;go_wp2_with fail;refine(H _).o.mono ?_;rintro e w1 ⟨rfl,hb⟩;have g:=zd (ze HB.o hb);clear hb;go_wp2;go_ret;exact⟨rfl,g.o⟩
 ·have d1:decide (0<=r)=false:=decide_eq_false h1;have e:xm r n=false:=by unfold xm;rw [d1];rfl
  rw [e];clear h1 e;go_enter func53,ntmps53;go_wp2;go_ret;exact⟨rfl,HB.o⟩
theorem Xc (A:zf)(n c m:Nat)(r:Int)(w:World):Calls prog 54 #[.agg #[.slice A n c,.int .i64 (m:Int)],.int .i64 r] w (λe w'=>e=.returned (.bool (xm r m))/\Below w.heap.size w w'):=by
 obtain⟨a,d,bz⟩:=zF w 30 #[.slice A n c,.int .i64 (m:Int)];obtain⟨g0,g1⟩:=d.c2;have HB:=zd a;clear a d bz;by_cases h1:0<=r
 ·have d1:decide (0<=r)=true:=decide_eq_true h1;obtain⟨b,d4⟩:∃b,decide (r<(m:Int))=b:=⟨_,rfl⟩;have e:xm r m=b:=by unfold xm;rw [d1,d4];rfl
  rw [e];clear h1 e;go_enter func54,ntmps54;go_wp2;go_ret;exact⟨rfl,HB.o⟩
 ·have d1:decide (0<=r)=false:=decide_eq_false h1;have e:xm r m=false:=by unfold xm;rw [d1];rfl
  rw [e];clear h1 e;go_enter func54,ntmps54;go_wp2;go_ret;exact⟨rfl,HB.o⟩
