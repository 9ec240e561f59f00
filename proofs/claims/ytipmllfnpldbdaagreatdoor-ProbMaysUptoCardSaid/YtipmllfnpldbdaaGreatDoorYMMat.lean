/- What this claim leans on. -/
import Derived.Test.YtipmllfnpldbdaaGreatDoorYVMade
import Derived.Test.YtipmllfnpldbdaaGreatDoorYVVecs
import Derived.Laws.CopyRow
set_option linter.unusedVariables false
set_option linter.unusedSimpArgs false
namespace Go.Proofs.YtipmllfnpldbdaaGreatDoor
open Go Go.RowKit Go.Proofs.Tryz
set_option maxHeartbeats 16000000
set_option maxRecDepth 100000
variable {cs:Array Value}{z:Int}{M:List (List Rat)}{xs:List Rat}{K b c g m p:Nat}{t:TypeId}{W w w' wr:World}{A B:zf}
def vB (k:IntKind)(cs:Array Value):Prop:=∀v ∈ cs.toList,∀z,v≠.int k z
theorem VN {n:Nat}{k:IntKind}{l:List Nat}(h:zE w w.heap.size 1 A n (zw k l))(hk:zi w g t cs)(a:vB k cs):0<n->∀ad,A=some ad->ad.block≠g:=λhn ad e hg=>by
 have hl:=h.len_;obtain⟨ad',e',_,hc⟩:=h.2 hn;rw [e] at e';injection e' with e';subst e';have h0:=hc 0 (.int k (l.getD 0 0:Nat)) (oD k _ 0 za);have e0:ad.add 0=ad:=by unfold Addr.add;rw [if_pos rfl]
 rw [e0] at h0;obtain⟨bk,off,pr⟩:=ad;simp only at hg;subst hg;unfold zi at hk;cases pr with
 |none=>
   rw [show w.cell? ⟨bk,off,none⟩=cs[off]? from cell_of_row w bk off _ t (0,0) hk,<-QP] at h0;exact a _ (QN h0) _ rfl
 |some q=>simp [World.cell?,hk] at h0
theorem cI {x:Nat}{n:Nat}(h:zp w x A n c)(hk:zi w g t cs)(a:vB .u64 cs)(ho:zY g w w'):zp w' x A n c:=by
 have d:=VN h.1 hk a;refine⟨⟨h.1.1,λhn=>?_⟩,h.2⟩;obtain⟨ad,e,hb,hc⟩:=h.1.2 hn;refine⟨ad,e,qJ hb ho.1,λj v hv=>?_⟩;rw [ho.2 (ad.add j) (by rw [y9];exact hb) (by rw [y9];exact d hn ad e)];exact hc j v hv
theorem nZ {t:TypeId}{cs:Array Value}(hk:zi w g t cs)(a:vB .u64 cs)(ho:zY g w w'){r:Rat}{b:Bool}{A:zf}{n c:Nat}{E:zf}{k f:Nat}(h:zu w r b A n c E k f):zu w' r b A n c E k f:=by
 obtain⟨⟨h1,h2⟩,x,e,h3⟩:=h;exact⟨⟨h1,cI h2 hk a ho⟩,x,e,cI h3 hk a ho⟩
theorem Ze (A:zf)(n c:Nat)(z:Int):vB .u64 #[.slice A n c,.int .i64 z]:=by intro v hv z9 e;simp at hv;rcases hv with rfl|rfl<;>cases e
theorem eF (A:zf)(n c:Nat)(z:Int):∀u ∈(#[.slice A n c,.int .i64 z]:Array Value).toList,∀b,u≠.bool b:=by intro v hv b e;simp at hv;rcases hv with rfl|rfl<;>cases e
theorem mc {n:Nat}(h:zF w A n c xs)(hk:zi w g t cs)(hs:∀u ∈ cs.toList,∀b,u≠.bool b)(a:vB .u64 cs)(ho:zY g w w'):zF w' A n c xs:=
 aJ h hk hs ho (λh5=>nZ hk a ho h5)
def yv (w:World)(b:Nat)(t:TypeId):Prop:=∃cs,zi w b t cs
theorem yv.below (h:yv w b t)(hb:Below w.heap.size w w'):yv w' b t:=by
 obtain⟨cs,hk⟩:=h;exact⟨cs,zj hb hk⟩
theorem yv.set_ (h:yv w b t)(g i:Nat)(v:Value):yv (w.setCell ⟨g,i,none⟩ v) b t:=by
 obtain⟨cs,hk⟩:=h;by_cases hg:b=g
 ·subst hg;exact⟨_,hk.set_ i v⟩
 ·exact⟨cs,zi.far (p:=⟨g,i,none⟩) hk hg v⟩
theorem yv.ne {s:TypeId}(h:yv w b t)(hk:zi w g s cs)(hn:t≠s):b≠g:=λe=>by
 obtain⟨ds,hd⟩:=h;subst e;unfold zi at hd hk;rw [hd] at hk;injection hk with hk;injection hk with _ hk;exact hn hk
structure xo (w:World)(A:zf)(n c m:Nat)(M:List (List Rat)):Prop where
 dims:wW M n m
 fits:n<=c
 most:c<=9223372036854775807
 hn:n<=64
 hm:m<=64
 rows:wf (yf zu) w A n M
 ty:∀ad,A=some ad->yv w ad.block 32
theorem xo.keep {w':World}{n:Nat}(h:xo w A n c m M)(hb:Below w.heap.size w w'):xo w' A n c m M:={h with rows:=h.rows.below (vK y6) hb,ty:=λad e=>(h.ty ad e).below hb}
theorem xo.nil (w:World):xo w none 0 0 0 []:=⟨tw 0,qX _,zh,zh,zh,wf.nil w none,λad e=>by cases e⟩
theorem xo.offz {n:Nat}{q:Nat}(h:xo w A n c m M)(hk:zi w g t #[.slice B p q,.int .i64 z])(x y:Value)(ht:32≠t:=by decide):xo ((w.setCell ⟨g,0,none⟩ x).setCell ⟨g,1,none⟩ y) A n c m M:=
 { h with
  rows:=h.rows.off (λad e=>(h.ty ad e).ne hk ht) (zY.of_far (wS _ _ _ _)) (λh3=>mc h3 hk (eF _ _ _ _) (Ze _ _ _ _) (zY.of_far (wS _ _ _ _)))
  ty:=λad e=>((h.ty ad e).set_ _ _ _).set_ _ _ _}
theorem zF.offz {n:Nat}{q:Nat}(h:zF w A n c xs)(hk:zi w g t #[.slice B p q,.int .i64 z])(x y:Value):zF ((w.setCell ⟨g,0,none⟩ x).setCell ⟨g,1,none⟩ y) A n c xs:=
 mc h hk (eF _ _ _ _) (Ze _ _ _ _) (zY.of_far (wS _ _ _ _))
theorem xo.row {n:Nat}(h:xo w A n c m M)(hb:Below w.heap.size w wr){i:Nat}(hi:i<n):∃(ad:Addr) (B:zf) (d:Nat),A=some ad/\ad.block<w.heap.size/\wr.cell? (ad.add i)=some (.slice B m d)/\zF wr B m d (M.getD i []):=
 h.rows.get (vK y6) hb hi (h.dims.row hi)
theorem xo.place {n:Nat}(h:xo w A n c m M)(hb:Below w.heap.size w wr){i j:Nat}(hi:i<n)(hj:j<m):∃(ad:Addr) (B:zf) (d:Nat),A=some ad/\ad.block<w.heap.size/\wr.cell? (ad.add i)=some (.slice B m d)/\
  ∃(ae:Addr) (b1:Bool) (B1:zf) (m1 d1:Nat) (E1:zf) (u1 v1:Nat),B=some ae/\ae.block<wr.heap.size/\wr.cell? (ae.add (j*3))=some (.bool b1)/\wr.cell? ⟨(ae.add (j*3)).block,(ae.add (j*3)).off+1,none⟩=some (.slice B1 m1 d1)/\wr.cell? ⟨(ae.add (j*3)).block,(ae.add (j*3)).off+2,none⟩=some (.slice E1 u1 v1)/\zu wr (vF M i j) b1 B1 m1 d1 E1 u1 v1:=by
 obtain⟨ad,B,d,e,h1,h2,h3⟩:=h.row hb hi;obtain⟨ae,b1,B1,m1,d1,E1,u1,v1,e4,h4,h5,h6,h7,h8⟩:=h3.get (qY _ _) hj;exact⟨ad,B,d,e,h1,h2,ae,b1,B1,m1,d1,E1,u1,v1,e4,h4,h5,h6,h7,h8⟩
def wO (K:Nat)(M:List (List Rat)):Prop:=∀L ∈ M,zI K L
theorem wO.up {K':Nat}(h:wO K M)(e:K<=K'):wO K' M:=λL hL=>(h L hL).up e
theorem wO.row {i:Nat}(h:wO K M)(hi:i<M.length):zI K (M.getD i []):=h _ (QN (nV hi))
theorem wO.at_ {n i j:Nat}(h:wO K M)(hd:wW M n m)(hi:i<n)(hj:j<m):zt K (vF M i j):=by
 have hl:=hd.rows;have hr:=hd.row hi;exact(h.row (i:=i) za).at_ za
theorem wO.nil (K:Nat):wO K []:=λL hL=>by cases hL
def lT (w:World)(n m:Nat)(M:List (List Rat))(e:Ending)(w':World):Prop:=∃(A:zf) (c:Nat),e=.returned (.agg #[.slice A n c,.int .i64 (m:Int)])/\xo w' A n c m M/\(∀ad,A=some ad->w.heap.size<=ad.block)/\Below w.heap.size w w'
def eZ (w:World)(n m:Nat)(M:List (List Rat))(e:Ending)(w':World):Prop:=∃(A:zf) (c:Nat),e=.returned (.tuple #[.agg #[.slice A n c,.int .i64 (m:Int)],.bool true])/\xo w' A n c m M/\(∀ad,A=some ad->w.heap.size<=ad.block)/\Below w.heap.size w w'
theorem Zr {n q:Nat}(h:xo W A n c m M)(hf:∀ad,A=some ad->g<ad.block)(k:zi W g 30 #[.slice B p q,.int .i64 z])(hB:Below w.heap.size w W)(hg:w.heap.size<=g):
  lT w n m M (.returned (.agg #[.slice A n c,.int .i64 (m:Int)])) ((W.setCell ⟨g,0,none⟩ (.slice A n c)).setCell ⟨g,1,none⟩ (.int .i64 (m:Int))):=
 ⟨A,c,rfl,h.offz k _ _,λad e=>by have:=hf ad e;omega,rt _ _ hg hB⟩
theorem jR {n q:Nat}(h:xo W A n c m M)(hf:∀ad,A=some ad->g<ad.block)(k:zi W g 30 #[.slice B p q,.int .i64 z])(hB:Below w.heap.size w W)(hg:w.heap.size<=g):
  eZ w n m M (.returned (.tuple #[.agg #[.slice A n c,.int .i64 (m:Int)],.bool true])) ((W.setCell ⟨g,0,none⟩ (.slice A n c)).setCell ⟨g,1,none⟩ (.int .i64 (m:Int))):=
 ⟨A,c,rfl,h.offz k _ _,λad e=>by have:=hf ad e;omega,rt _ _ hg hB⟩
theorem tZ (A:zf)(n c:Nat)(z:Int)(w:World):Calls prog 14 #[.agg #[.slice A n c,.int .i64 z]] w (λe w'=>e=.returned (.int .i64 (n:Int))/\Below w.heap.size w w'):=by
 obtain⟨a,d,bz⟩:=zG w 30 #[.slice A n c,.int .i64 z];obtain⟨g0,g1⟩:=d.c2;have HB:=zd a;clear a d bz;go_enter func14,ntmps14;go_wp2;go_ret;exact⟨rfl,HB.o⟩
theorem tW (A:zf)(n c:Nat)(z:Int)(w:World):Calls prog 15 #[.agg #[.slice A n c,.int .i64 z]] w (λe w'=>e=.returned (.int .i64 z)/\Below w.heap.size w w'):=by
 obtain⟨a,d,bz⟩:=zG w 30 #[.slice A n c,.int .i64 z];obtain⟨g0,g1⟩:=d.c2;have HB:=zd a;clear a d bz;go_enter func15,ntmps15;go_wp2;go_ret;exact⟨rfl,HB.o⟩
def uK (r c:Int):Bool:=decide (0<=r)&&decide (r<=64)&&decide (0<=c)&&decide (c<=64)
theorem sa {n:Nat}(hn:n<=64)(hm:m<=64):uK (n:Int) (m:Int)=true:=by
 unfold uK;rw [decide_eq_true (show(0:Int)<=(n:Int) by omega),decide_eq_true (show(n:Int)<=64 by omega),decide_eq_true (show(0:Int)<=(m:Int) by omega),decide_eq_true (show(m:Int)<=64 by omega)];rfl
theorem qF (r c:Int)(w:World):Calls prog 81 #[.int .i64 r,.int .i64 c] w (λe w'=>e=.returned (.bool (uK r c))/\w=w'):=by
 by_cases h1:0<=r
 ·have d1:decide (0<=r)=true:=decide_eq_true h1;by_cases h2:r<=64
  ·have d2:decide (r<=64)=true:=decide_eq_true h2;by_cases h3:0<=c
   ·have d3:decide (0<=c)=true:=decide_eq_true h3;obtain⟨b,d4⟩:∃b,decide (c<=64)=b:=⟨_,rfl⟩;have e:uK r c=b:=by unfold uK;rw [d1,d2,d3,d4];rfl
    rw [e];clear h1 h2 h3 e;go_enter func81,ntmps81;go_wp2;go_ret;exact⟨rfl,rfl⟩
   ·have d3:decide (0<=c)=false:=decide_eq_false h3;have e:uK r c=false:=by unfold uK;rw [d1,d2,d3];rfl
    rw [e];clear h1 h2 h3 e;go_enter func81,ntmps81;go_wp2;go_ret;exact⟨rfl,rfl⟩
  ·have d2:decide (r<=64)=false:=decide_eq_false h2;have e:uK r c=false:=by unfold uK;rw [d1,d2];rfl
   rw [e];clear h1 h2 e;go_enter func81,ntmps81;go_wp2;go_ret;exact⟨rfl,rfl⟩
 ·have d1:decide (0<=r)=false:=decide_eq_false h1;have e:uK r c=false:=by unfold uK;rw [d1];rfl
  rw [e];clear h1 e;go_enter func81,ntmps81;go_wp2;go_ret;exact⟨rfl,rfl⟩
def xp (r:Int)(n:Nat):Bool:=decide (0<=r)&&decide (r<(n:Int))
theorem iY {r:Int}{n:Nat}(h:xp r n=true):∃k:Nat,r=(k:Int)/\k<n:=by
 unfold xp at h;simp only [Bool.and_eq_true,decide_eq_true_eq] at h;exact⟨r.toNat,za,za⟩
theorem Za {k n:Nat}(h:k<n):xp (k:Int) n=true:=by
 unfold xp;rw [decide_eq_true (show(0:Int)<=(k:Int) by omega),decide_eq_true (show(k:Int)<(n:Int) by omega)];rfl
theorem WZ (A:zf)(n c:Nat)(z r:Int)(w:World):Calls prog 53 #[.agg #[.slice A n c,.int .i64 z],.int .i64 r] w (λe w'=>e=.returned (.bool (xp r n))/\Below w.heap.size w w'):=by
 obtain⟨a,d,bz⟩:=zG w 30 #[.slice A n c,.int .i64 z];obtain⟨g0,g1⟩:=d.c2;have HB:=zd a;clear a d bz;by_cases h1:0<=r
 ·have d1:decide (0<=r)=true:=decide_eq_true h1;obtain⟨b,d4⟩:∃b,decide (r<(n:Int))=b:=⟨_,rfl⟩;have e:xp r n=b:=by unfold xp;rw [d1,d4];rfl
  rw [e];clear h1 e;have H:=λW=>zd (tZ A n c z W);go_enter func53,ntmps53;go_wp2_with fail;refine(H _).o.mono ?_;rintro e w1 ⟨rfl,hb⟩;have g:=zd (ze HB.o hb);clear hb;go_wp2;go_ret;exact⟨rfl,g.o⟩
 ·have d1:decide (0<=r)=false:=decide_eq_false h1;have e:xp r n=false:=by unfold xp;rw [d1];rfl
  rw [e];clear h1 e;go_enter func53,ntmps53;go_wp2;go_ret;exact⟨rfl,HB.o⟩
theorem WW (A:zf)(n c m:Nat)(r:Int)(w:World):Calls prog 54 #[.agg #[.slice A n c,.int .i64 (m:Int)],.int .i64 r] w (λe w'=>e=.returned (.bool (xp r m))/\Below w.heap.size w w'):=by
 obtain⟨a,d,bz⟩:=zG w 30 #[.slice A n c,.int .i64 (m:Int)];obtain⟨g0,g1⟩:=d.c2;have HB:=zd a;clear a d bz;by_cases h1:0<=r
 ·have d1:decide (0<=r)=true:=decide_eq_true h1;obtain⟨b,d4⟩:∃b,decide (r<(m:Int))=b:=⟨_,rfl⟩;have e:xp r m=b:=by unfold xp;rw [d1,d4];rfl
  rw [e];clear h1 e;go_enter func54,ntmps54;go_wp2;go_ret;exact⟨rfl,HB.o⟩
 ·have d1:decide (0<=r)=false:=decide_eq_false h1;have e:xp r m=false:=by unfold xp;rw [d1];rfl
  rw [e];clear h1 e;go_enter func54,ntmps54;go_wp2;go_ret;exact⟨rfl,HB.o⟩
theorem VR {P:Program}(w:World)(dT sT ty m:TypeId)(g o h x:Nat)(a:Addr)(u A:Nat)(d:Array Value)(t:TypeId)(cs:List Value)
  (hu:P.underlying dT=some (.slice m)) (hs:(P.info? m).map (·.size)=some 3)
  (hg:w.heap[g]?=some (.cells d t (0,0))) (hn:cs.length=Nat.min u h*3)
  (z:∀j v,cs[j]?=some v->w.cell? (a.add j)=some v) (y:o+cs.length<=d.size) (h1:∀v ∈ cs,v.oneCell'=true):
  (Builtin.copy_ #[dT,sT] ty #[.slice (some ⟨g,o,none⟩) h x,.slice (some a) u A]).run P w =
    .ok (goInt (Nat.min u h)) (w.setRow g (d.toList.take o++cs++d.toList.drop (o+cs.length)).toArray):=by
 have hl:=run_loadCells_list (P:=P) w a cs z;have B:=run_storeCells_at P g o t cs 0 d w hg (by simpa using y) h1;cases hq:P.info? m with
 |none=>simp [hq] at hs
 |some i=>
   have hi:i.size=3:=by simpa [hq] using hs
   simp [Builtin.copy_,run_underlying hu,Builtin.lenOf,Builtin.firstCells,sizeOf,typeInfo,hq,hi,<-hn,hl,B]
section
variable {α:Type}{E:El α}
theorem yf.cells {ad:Addr}{n:Nat}{xs:List α}(h:yf E w (some ad) n c xs):∃a:List Value,a.length=n*3/\(∀j u,a[j]?=some u->w.cell? (ad.add j)=some u)/\(∀u ∈ a,u.oneCell'=true)/\(∀u ∈ a,uI u)/\
  ∀i x,xs[i]?=some x->∃(b:Bool) (B:zf) (m d:Nat) (F:zf) (u f:Nat),a[i*3]?=some (.bool b)/\a[i*3+1]?=some (.slice B m d)/\a[i*3+2]?=some (.slice F u f)/\E w x b B m d F u f:=by
 have hl:=h.len;have hc:∀j,j<n*3->∃u,w.cell? (ad.add j)=some u/\u.oneCell'=true/\uI u:=λj hj=>by
  have hi:j / 3<n:=za;obtain⟨t,b,B,m,d,F,u,v,e,h1,h2,h3,h4,h5⟩:=h.num (j / 3) _ (qZ za);injection e with e;subst e;have y:j%3=0\/j%3=1\/j%3=2:=za;rcases y with h9|h9|h9
  ·exact⟨.bool b,by rw [show j=j / 3*3 by omega];exact h2,rfl,λk z e=>by cases e⟩
  ·exact⟨.slice B m d,by rw [show j=j / 3*3+1 by omega];exact h3,rfl,λk z e=>by cases e⟩
  ·exact⟨.slice F u v,by rw [show j=j / 3*3+2 by omega];exact h4,rfl,λk z e=>by cases e⟩
 have hg:∀j u,j<n*3->w.cell? (ad.add j)=some u->((List.range (n*3)).map λj=>(w.cell? (ad.add j)).getD (.bool false))[j]?=some u:=λj u hj hu=>by
  rw [QB,XP hj];show some ((w.cell? (ad.add j)).getD (.bool false))=some u;rw [hu];rfl
 refine⟨(List.range (n*3)).map λj=>(w.cell? (ad.add j)).getD (.bool false),zD,λj u hj=>?_,λu hu=>?_,λu hu=>?_,λi x hi=>?_⟩
 ·have g:j<n*3:=by
   have:=(List.getElem?_eq_some_iff.1 hj).1;simpa using this
  obtain⟨u',h1,-,-⟩:=hc j g;rw [hg j u' g h1] at hj;injection hj with hj;rw [<-hj];exact h1
 ·obtain⟨j,hj,rfl⟩:=List.mem_map.1 hu;obtain⟨u',h1,h2,-⟩:=hc j (List.mem_range.1 hj);rw [h1];exact h2
 ·obtain⟨j,hj,rfl⟩:=List.mem_map.1 hu;obtain⟨u',h1,-,h2⟩:=hc j (List.mem_range.1 hj);rw [h1];exact h2
 ·have g:=(List.getElem?_eq_some_iff.1 hi).1;obtain⟨t,b,B,m,d,F,u,v,e,h1,h2,h3,h4,h5⟩:=h.num i x hi;injection e with e;subst e;exact⟨b,B,m,d,F,u,v,hg _ _ za h2,hg _ _ za h3,hg _ _ za h4,h5⟩
end
theorem iA {r:Int}{n:Nat}{b:Bool}(e:xp r n=b)(A:zf)(c:Nat)(z:Int)(w:World):Calls prog 53 #[.agg #[.slice A n c,.int .i64 z],.int .i64 r] w (λe w'=>e=.returned (.bool b)/\Below w.heap.size w w'):=e▸WZ A n c z r w
theorem dP {r:Int}{b:Bool}(e:xp r m=b)(A:zf)(n c:Nat)(w:World):Calls prog 54 #[.agg #[.slice A n c,.int .i64 (m:Int)],.int .i64 r] w (λe w'=>e=.returned (.bool b)/\Below w.heap.size w w'):=e▸WW A n c m r w
section
variable {A:zf}{n c m K:Nat}{MM:List (List Rat)}{w:World}
theorem tV {i j:Nat}(hT:zv w)(h:xo w A n c m MM)(z:wO K MM)(hi:i<n)(hj:j<m)(hK:K+2<=67108864:=by omega):
  Calls prog 17 #[.agg #[.slice A n c,.int .i64 (m:Int)],.int .i64 (i:Int),.int .i64 (j:Int)] w (ye w (vF MM i j)):=by
 have HR:=λW=>zd (iA (Za hi) A c (m:Int) W);have HC:=λW=>zd (dP (Za hj) A n c W);obtain⟨L,C,M,bz⟩:=yb w 30 60 #[.slice A n c,.int .i64 (m:Int)] #[.bool false,.slice none 0 0,.slice none 0 0];obtain⟨g0,g1⟩:=C.c2;have HM:=zd h;have HS:=zd (z.at_ h.dims hi hj);have HT:=zn w (λw' hb=>hT.on hb);have HB:=zd L;have E:=zd C;have F:=zd M;clear hT h z L C M bz;go_enter func17,ntmps17;go_wp2_with fail;refine(HR _).o.mono ?_;rintro e w1 ⟨rfl,hb⟩;have D:=zd (ze HB.o hb);have x:=zd (zj hb E.o);have G:=zd (zj hb F.o);obtain⟨g0,g1⟩:=x.o.c2;clear hb HB E F;go_wp2_with fail;refine(HC _).o.mono ?_;rintro e w2 ⟨rfl,hb⟩;have t:=zd (ze D.o hb);have H:=zd (zj hb x.o);have I:=zd (zj hb G.o);obtain⟨g0,g1⟩:=H.o.c2;clear hb D x G;obtain⟨ad,B,d,rfl,-,hc,ae,b3,A3,n3,c3,E3,k3,f3,rfl,-,h0,h1,h2,N⟩:=HM.o.place t.o hi hj;have i1:(0:Int)<=(i:Int):=za;have i2:(i:Int)<(n:Int):=za;have i3:(0:Int)<=(j:Int):=za;have i4:(j:Int)<(m:Int):=za;obtain⟨t1,t2,-⟩:=zG w2 60 #[.bool b3,.slice A3 n3 c3,.slice E3 k3 f3];have HL:=zd (iT t2 (N.below t1));have u:=zd (ze t.o t1);have J:=zd (zj t1 I.o);have O:zg (zI K [vF MM i j]):=λy hy=>by rw [List.mem_singleton.1 hy];exact HS.o
 clear N t1 t2 H I t;go_wp2_with fail;(with_reducible refine(kC (HT.o _ u.o) HL.o O.o zh za).mono ?_);rintro e w5 ⟨b5,A5,n5,c5,E5,k5,f5,rfl,a,hb⟩;have a:zu w5 (vF MM i j) b5 A5 n5 c5 E5 k5 f5:=by
  have e:ui [vF MM i j]=vF MM i j:=by rw [iv,cP,YC]
  rw [e] at a;exact a
 have g:=zj hb J.o;obtain⟨sc0,sf0,sc1,sf1,sc2,sf2⟩:=yj g (.bool b5) (.slice A5 n5 c5);obtain⟨r0,r1,r2⟩:=(yi g (.bool b5) (.slice A5 n5 c5) (.slice E5 k5 f5)).c3;have HG:=zd (xw a g (ze u.o hb) za);clear hb g a J u HL g0 g1 hc h0 h1 h2;go_wp2;refine bodyPost_ret (v:=.agg #[.bool b5,.slice A5 n5 c5,.slice E5 k5 f5]) (by simp [results,results17,go_sem,r0,r1,r2]) rfl ?_;exact HG.o
theorem Ui {r s:Int}(h:xp r n=false\/xp s m=false):
  Calls prog 17 #[.agg #[.slice A n c,.int .i64 (m:Int)],.int .i64 r,.int .i64 s] w (ye w 0):=by
 obtain⟨x,i,y,bz⟩:=yb w 30 60 #[.slice A n c,.int .i64 (m:Int)] #[.bool false,.slice none 0 0,.slice none 0 0];obtain⟨g0,g1⟩:=i.c2;have HB:=zd x;have g:=zd i;have d:=zd y;clear x i y bz;by_cases hr:xp r n=true
 ·have hs:xp s m=false:=by
   rcases h with h|h
   ·rw [hr] at h;cases h
   ·exact h
  have HR:=λW=>zd (iA hr A c (m:Int) W);have HC:=λW=>zd (dP hs A n c W);clear h hr hs;go_enter func17,ntmps17;go_wp2_with fail;refine(HR _).o.mono ?_;rintro e w1 ⟨rfl,hb⟩;have j:=zd (ze HB.o hb);have t:=zd (zj hb g.o);have u:=zd (zj hb d.o);obtain⟨g0,g1⟩:=t.o.c2;clear hb HB g d;go_wp2_with fail;refine(HC _).o.mono ?_;rintro e w2 ⟨rfl,hb⟩;have a:=zj hb u.o;obtain⟨z,D,B,E,C,F⟩:=yj a (.bool false) (.slice none 0 0);obtain⟨r0,r1,r2⟩:=(yi a (.bool false) (.slice none 0 0) (.slice none 0 0)).c3;have HG:=zd (xw (mE _) a (ze j.o hb) za);clear hb a j t u g0 g1;go_wp2;refine bodyPost_ret (v:=.agg #[.bool false,.slice none 0 0,.slice none 0 0]) (by simp [results,results17,go_sem,r0,r1,r2]) rfl ?_;exact HG.o
 ·have HR:=λW=>zd (iA (by cases q:xp r n;rfl;exact absurd q hr) A c (m:Int) W);clear h hr;go_enter func17,ntmps17;go_wp2_with fail;refine(HR _).o.mono ?_;rintro e w2 ⟨rfl,hb⟩;have a:=zj hb d.o;obtain⟨z,D,B,E,C,F⟩:=yj a (.bool false) (.slice none 0 0);obtain⟨r0,r1,r2⟩:=(yi a (.bool false) (.slice none 0 0) (.slice none 0 0)).c3;have HG:=zd (xw (mE _) a (ze HB.o hb) za);clear hb a HB g d g0 g1;go_wp2;refine bodyPost_ret (v:=.agg #[.bool false,.slice none 0 0,.slice none 0 0]) (by simp [results,results17,go_sem,r0,r1,r2]) rfl ?_;exact HG.o
end
section
variable {A A':zf}{n n' c c' m m' K K' q q':Nat}{MM NN:List (List Rat)}{w:World}
end
theorem vt {zs:List Int}(h:∀z ∈ zs,-9223372036854775808<=z/\z<=9223372036854775807):zI 1 (yw zs):=λx hx=>by
 obtain⟨z,hz,rfl⟩:=List.mem_map.1 hx;exact zt.whole (vL (h z hz).1 (h z hz).2) zh
theorem pZ (zs:List Int)(n:Nat)(hn:zs.length=n){w:World}{g:Nat}{t:TypeId}(h:zi w g t (zs.map (Value.int .i64)).toArray)(hz:∀z ∈ zs,-9223372036854775808<=z/\z<=9223372036854775807):mi w (some ⟨g,0,none⟩) n zs:=by
 subst hn;exact⟨rfl,λi hi=>by
  rw [qQ,qZ hi];exact hz _ (xM hi),λi hi=>⟨_,rfl,by
  rw [xn,h.cell,qQ,qZ hi];simp [hi]⟩⟩
theorem lD:oR zv (λ_=>False):=jW (λ_ h=>h) (λh=>h.elim) (λh=>h.elim) (λh=>h.elim)
