/- What this claim leans on. -/
import Derived.Test.YtielpgdebeggbaaGreatDoorWEDetT
import Derived.ArgAppend
set_option linter.unusedVariables false
set_option linter.unusedSimpArgs false
namespace Go.Proofs.YtielpgdebeggbaaGreatDoor
open Go Go.RowKit Go.Proofs.Tryz
set_option maxHeartbeats 16000000
set_option maxRecDepth 100000
variable {ad:Addr}{cs:Array Value}{z:Int}{Ls M:List (List Rat)}{xs:List Rat}{vs:List Value}{K K' a b c g i j k m n p:Nat}{t:TypeId}{W w w' wr:World}{A B:ze}
def ua (k:IntKind)(cs:Array Value):Prop:=∀v ∈ cs.toList,∀z,v≠.int k z
theorem R6 {k:IntKind}{l:List Nat}(h:zK w w.heap.size 1 A n (zB k l))(hk:zh w g t cs)(a:ua k cs):0<n->∀ad,A=some ad->ad.block≠g:=λhn ad e hg=>by
 have hl:=h.len_;obtain⟨ad',e',_,hc⟩:=h.2 hn;rw [e] at e';injection e' with e';subst e';have h0:=hc 0 (.int k (l.getD 0 0:Nat)) (lw k _ 0 zb);have e0:ad.add 0=ad:=by unfold Addr.add;rw [if_pos rfl]
 rw [e0] at h0;obtain⟨bk,off,pr⟩:=ad;simp only at hg;subst hg;unfold zh at hk;cases pr with
 |none=>
   rw [show w.cell? ⟨bk,off,none⟩=cs[off]? from cell_of_row w bk off _ t (0,0) hk,<-QS] at h0;exact a _ (QJ h0) _ rfl
 |some q=>simp [World.cell?,hk] at h0
theorem WM {x:Nat}(h:zp w x A n c)(hk:zh w g t cs)(a:ua .u64 cs)(ho:zP g w w'):zp w' x A n c:=by
 have d:=R6 h.1 hk a;refine⟨⟨h.1.1,λhn=>?_⟩,h.2⟩;obtain⟨ad,e,hb,hc⟩:=h.1.2 hn;refine⟨ad,e,qJ hb ho.1,λj v hv=>?_⟩;rw [ho.2 (ad.add j) (by rw [yk];exact hb) (by rw [yk];exact d hn ad e)];exact hc j v hv
theorem yy (hk:zh w g t cs)(a:ua .u64 cs)(ho:zP g w w'){r:Rat}{b:Bool}{A:ze}{n c:Nat}{E:ze}{k f:Nat}(h:zo w r b A n c E k f):zo w' r b A n c E k f:=by
 obtain⟨⟨h1,h2⟩,x,e,h3⟩:=h;exact⟨⟨h1,WM h2 hk a ho⟩,x,e,WM h3 hk a ho⟩
theorem UF (A:ze)(n c:Nat)(z:Int):ua .u64 #[.slice A n c,.int .i64 z]:=by intro v hv z9 e;simp at hv;rcases hv with rfl|rfl<;>cases e
theorem Xr (A:ze)(n c:Nat)(z:Int):∀u ∈(#[.slice A n c,.int .i64 z]:Array Value).toList,∀b,u≠.bool b:=by intro v hv b e;simp at hv;rcases hv with rfl|rfl<;>cases e
theorem Ue (h:zR w A n c xs)(hk:zh w g t cs)(hs:∀u ∈ cs.toList,∀b,u≠.bool b)(a:ua .u64 cs)(ho:zP g w w'):zR w' A n c xs:=
 UT h hk hs ho (λh5=>yy hk a ho h5)
def vF (w:World)(b:Nat)(t:TypeId):Prop:=∃cs,zh w b t cs
theorem vF.below (h:vF w b t)(hb:Below w.heap.size w w'):vF w' b t:=by
 obtain⟨cs,hk⟩:=h;exact⟨cs,zg hb hk⟩
theorem vF.set_ (h:vF w b t)(g i:Nat)(v:Value):vF (w.setCell ⟨g,i,none⟩ v) b t:=by
 obtain⟨cs,hk⟩:=h;by_cases hg:b=g
 ·subst hg;exact⟨_,hk.set_ i v⟩
 ·exact⟨cs,zh.far (p:=⟨g,i,none⟩) hk hg v⟩
theorem vF.ne {s:TypeId}(h:vF w b t)(hk:zh w g s cs)(hn:t≠s):b≠g:=λe=>by
 obtain⟨ds,hd⟩:=h;subst e;unfold zh at hd hk;rw [hd] at hk;injection hk with hk;injection hk with _ hk;exact hn hk
structure xF (w:World)(A:ze)(n c m:Nat)(M:List (List Rat)):Prop where
 dims:zO M n m
 fits:n<=c
 most:c<=9223372036854775807
 hn:n<=64
 hm:m<=64
 rows:yx (z8 zo) w A n M
 ty:∀ad,A=some ad->vF w ad.block 41
theorem xF.keep {w':World}(h:xF w A n c m M)(hb:Below w.heap.size w w'):xF w' A n c m M:={h with rows:=h.rows.below (y7 zZ) hb,ty:=λad e=>(h.ty ad e).below hb}
theorem xF.nil (w:World):xF w none 0 0 0 []:=⟨rL 0,qX _,zf,zf,zf,yx.nil w none,λad e=>by cases e⟩
theorem xF.offz {q:Nat}(h:xF w A n c m M)(hk:zh w g t #[.slice B p q,.int .i64 z])(x y:Value)(ht:41≠t:=by decide):xF ((w.setCell ⟨g,0,none⟩ x).setCell ⟨g,1,none⟩ y) A n c m M:=
 { h with
  rows:=h.rows.off (λad e=>(h.ty ad e).ne hk ht) (zP.of_far (vJ _ _ _ _)) (λh3=>Ue h3 hk (Xr _ _ _ _) (UF _ _ _ _) (zP.of_far (vJ _ _ _ _)))
  ty:=λad e=>((h.ty ad e).set_ _ _ _).set_ _ _ _}
theorem zR.offz {q:Nat}(h:zR w A n c xs)(hk:zh w g t #[.slice B p q,.int .i64 z])(x y:Value):zR ((w.setCell ⟨g,0,none⟩ x).setCell ⟨g,1,none⟩ y) A n c xs:=
 Ue h hk (Xr _ _ _ _) (UF _ _ _ _) (zP.of_far (vJ _ _ _ _))
theorem xF.row (h:xF w A n c m M)(hb:Below w.heap.size w wr){i:Nat}(hi:i<n):∃(ad:Addr) (B:ze) (d:Nat),A=some ad/\ad.block<w.heap.size/\wr.cell? (ad.add i)=some (.slice B m d)/\zR wr B m d (M.getD i []):=
 h.rows.get (y7 zZ) hb hi (h.dims.row hi)
theorem xF.place (h:xF w A n c m M)(hb:Below w.heap.size w wr){i j:Nat}(hi:i<n)(hj:j<m):∃(ad:Addr) (B:ze) (d:Nat),A=some ad/\ad.block<w.heap.size/\wr.cell? (ad.add i)=some (.slice B m d)/\
  ∃(ae:Addr) (b1:Bool) (B1:ze) (m1 d1:Nat) (E1:ze) (u1 v1:Nat),B=some ae/\ae.block<wr.heap.size/\wr.cell? (ae.add (j*3))=some (.bool b1)/\wr.cell? ⟨(ae.add (j*3)).block,(ae.add (j*3)).off+1,none⟩=some (.slice B1 m1 d1)/\wr.cell? ⟨(ae.add (j*3)).block,(ae.add (j*3)).off+2,none⟩=some (.slice E1 u1 v1)/\zo wr (zl M i j) b1 B1 m1 d1 E1 u1 v1:=by
 obtain⟨ad,B,d,e,h1,h2,h3⟩:=h.row hb hi;obtain⟨ae,b1,B1,m1,d1,E1,u1,v1,e4,h4,h5,h6,h7,h8⟩:=h3.get (qZ _ _) hj;exact⟨ad,B,d,e,h1,h2,ae,b1,B1,m1,d1,E1,u1,v1,e4,h4,h5,h6,h7,h8⟩
def z7 (K:Nat)(M:List (List Rat)):Prop:=∀L ∈ M,zE K L
theorem z7.up (h:z7 K M)(e:K<=K'):z7 K' M:=λL hL=>(h L hL).up e
theorem z7.row {i:Nat}(h:z7 K M)(hi:i<M.length):zE K (M.getD i []):=h _ (QJ (wy hi))
theorem z7.at_ {n:Nat}(h:z7 K M)(hd:zO M n m)(hi:i<n)(hj:j<m):zn K (zl M i j):=by
 have hl:=hd.rows;have hr:=hd.row hi;exact(h.row (i:=i) zb).at_ zb
theorem z7.nil (K:Nat):z7 K []:=λL hL=>by cases hL
theorem z7.tab {f:Nat->Nat->Rat}(h:∀r c,r<n->c<m->zn K (f r c)):z7 K (yp n m f):=λL hL x hx=>by
 unfold yp at hL;obtain⟨r,hr,rfl⟩:=List.mem_map.1 hL;obtain⟨c,hc,rfl⟩:=List.mem_map.1 hx;exact h r c (List.mem_range.1 hr) (List.mem_range.1 hc)
theorem z7.turn (h:z7 K M)(hd:zO M n m):z7 K (vQ n m M):=z7.tab λr c hr hc=>h.at_ hd hc hr
theorem z7.col (h:z7 K M)(hd:zO M n m)(hc:c<m):zE K (td n M c):=λx hx=>by
 unfold td at hx;obtain⟨r,hr,rfl⟩:=List.mem_map.1 hx;exact h.at_ hd (List.mem_range.1 hr) hc
theorem z7.mul {A B:List (List Rat)}(hA:z7 K A)(hB:z7 K' B)(dA:zO A n k)(dB:zO B k m):z7 (1+k*(K+K'+1)) (sk n k m A B):=z7.tab λr c hr hc=>by
 have hl:=dA.rows;exact rM (dA.row hr) (fm k B c) (hA.row zb) (hB.col dB hc)
def sE (w:World)(n m:Nat)(M:List (List Rat))(e:Ending)(w':World):Prop:=∃(A:ze) (c:Nat),e=.returned (.agg #[.slice A n c,.int .i64 (m:Int)])/\xF w' A n c m M/\(∀ad,A=some ad->w.heap.size<=ad.block)/\Below w.heap.size w w'
def eS (w:World)(n m:Nat)(M:List (List Rat))(e:Ending)(w':World):Prop:=∃(A:ze) (c:Nat),e=.returned (.tuple #[.agg #[.slice A n c,.int .i64 (m:Int)],.bool true])/\xF w' A n c m M/\(∀ad,A=some ad->w.heap.size<=ad.block)/\Below w.heap.size w w'
theorem iJ {q:Nat}(h:xF W A n c m M)(hf:∀ad,A=some ad->g<ad.block)(k:zh W g 28 #[.slice B p q,.int .i64 z])(hB:Below w.heap.size w W)(hg:w.heap.size<=g):
  sE w n m M (.returned (.agg #[.slice A n c,.int .i64 (m:Int)])) ((W.setCell ⟨g,0,none⟩ (.slice A n c)).setCell ⟨g,1,none⟩ (.int .i64 (m:Int))):=
 ⟨A,c,rfl,h.offz k _ _,λad e=>by have:=hf ad e;omega,lU _ _ hg hB⟩
theorem kk {q:Nat}(h:xF W A n c m M)(hf:∀ad,A=some ad->g<ad.block)(k:zh W g 28 #[.slice B p q,.int .i64 z])(hB:Below w.heap.size w W)(hg:w.heap.size<=g):
  eS w n m M (.returned (.tuple #[.agg #[.slice A n c,.int .i64 (m:Int)],.bool true])) ((W.setCell ⟨g,0,none⟩ (.slice A n c)).setCell ⟨g,1,none⟩ (.int .i64 (m:Int))):=
 ⟨A,c,rfl,h.offz k _ _,λad e=>by have:=hf ad e;omega,lU _ _ hg hB⟩
theorem tD (A:ze)(n c:Nat)(z:Int)(w:World):Calls prog 15 #[.agg #[.slice A n c,.int .i64 z]] w (λe w'=>e=.returned (.int .i64 (n:Int))/\Below w.heap.size w w'):=by
 obtain⟨a,d,bz⟩:=zu w 28 #[.slice A n c,.int .i64 z];obtain⟨g0,g1⟩:=d.c2;have HB:=za a;clear a d bz;go_enter func15,ntmps15;go_wp2;go_ret;exact⟨rfl,HB.o⟩
theorem V7 (A:ze)(n c:Nat)(z:Int)(w:World):Calls prog 31 #[.agg #[.slice A n c,.int .i64 z]] w (λe w'=>e=.returned (.int .i64 z)/\Below w.heap.size w w'):=by
 obtain⟨a,d,bz⟩:=zu w 28 #[.slice A n c,.int .i64 z];obtain⟨g0,g1⟩:=d.c2;have HB:=za a;clear a d bz;go_enter func31,ntmps31;go_wp2;go_ret;exact⟨rfl,HB.o⟩
def sN (r c:Int):Bool:=decide (0<=r)&&decide (r<=64)&&decide (0<=c)&&decide (c<=64)
theorem V9 (hn:n<=64)(hm:m<=64):sN (n:Int) (m:Int)=true:=by
 unfold sN;rw [decide_eq_true (show(0:Int)<=(n:Int) by omega),decide_eq_true (show(n:Int)<=64 by omega),decide_eq_true (show(0:Int)<=(m:Int) by omega),decide_eq_true (show(m:Int)<=64 by omega)];rfl
theorem nW (r c:Int)(w:World):Calls prog 80 #[.int .i64 r,.int .i64 c] w (λe w'=>e=.returned (.bool (sN r c))/\w=w'):=by
 by_cases h1:0<=r
 ·have d1:decide (0<=r)=true:=decide_eq_true h1;by_cases h2:r<=64
  ·have d2:decide (r<=64)=true:=decide_eq_true h2;by_cases h3:0<=c
   ·have d3:decide (0<=c)=true:=decide_eq_true h3;obtain⟨b,d4⟩:∃b,decide (c<=64)=b:=⟨_,rfl⟩;have e:sN r c=b:=by unfold sN;rw [d1,d2,d3,d4];rfl
    rw [e];clear h1 h2 h3 e;go_enter func80,ntmps80;go_wp2;go_ret;exact⟨rfl,rfl⟩
   ·have d3:decide (0<=c)=false:=decide_eq_false h3;have e:sN r c=false:=by unfold sN;rw [d1,d2,d3];rfl
    rw [e];clear h1 h2 h3 e;go_enter func80,ntmps80;go_wp2;go_ret;exact⟨rfl,rfl⟩
  ·have d2:decide (r<=64)=false:=decide_eq_false h2;have e:sN r c=false:=by unfold sN;rw [d1,d2];rfl
   rw [e];clear h1 h2 e;go_enter func80,ntmps80;go_wp2;go_ret;exact⟨rfl,rfl⟩
 ·have d1:decide (0<=r)=false:=decide_eq_false h1;have e:sN r c=false:=by unfold sN;rw [d1];rfl
  rw [e];clear h1 e;go_enter func80,ntmps80;go_wp2;go_ret;exact⟨rfl,rfl⟩
def tw (r:Int)(n:Nat):Bool:=decide (0<=r)&&decide (r<(n:Int))
theorem ZD (h:k<n):tw (k:Int) n=true:=by
 unfold tw;rw [decide_eq_true (show(0:Int)<=(k:Int) by omega),decide_eq_true (show(k:Int)<(n:Int) by omega)];rfl
theorem Rh (A:ze)(n c:Nat)(z r:Int)(w:World):Calls prog 50 #[.agg #[.slice A n c,.int .i64 z],.int .i64 r] w (λe w'=>e=.returned (.bool (tw r n))/\Below w.heap.size w w'):=by
 obtain⟨a,d,bz⟩:=zu w 28 #[.slice A n c,.int .i64 z];obtain⟨g0,g1⟩:=d.c2;have HB:=za a;clear a d bz;by_cases h1:0<=r
 ·have d1:decide (0<=r)=true:=decide_eq_true h1;obtain⟨b,d4⟩:∃b,decide (r<(n:Int))=b:=⟨_,rfl⟩;have e:tw r n=b:=by unfold tw;rw [d1,d4];rfl
  rw [e];clear h1 e;have H:=λW=>za (tD A n c z W);go_enter func50,ntmps50;go_wp2_with fail;refine(H _).o.mono ?_;rintro e w1 ⟨rfl,hb⟩;have g:=za (zc HB.o hb);clear hb;go_wp2;go_ret;exact⟨rfl,g.o⟩
 ·have d1:decide (0<=r)=false:=decide_eq_false h1;have e:tw r n=false:=by unfold tw;rw [d1];rfl
  rw [e];clear h1 e;go_enter func50,ntmps50;go_wp2;go_ret;exact⟨rfl,HB.o⟩
theorem Rg (A:ze)(n c m:Nat)(r:Int)(w:World):Calls prog 58 #[.agg #[.slice A n c,.int .i64 (m:Int)],.int .i64 r] w (λe w'=>e=.returned (.bool (tw r m))/\Below w.heap.size w w'):=by
 obtain⟨a,d,bz⟩:=zu w 28 #[.slice A n c,.int .i64 (m:Int)];obtain⟨g0,g1⟩:=d.c2;have HB:=za a;clear a d bz;by_cases h1:0<=r
 ·have d1:decide (0<=r)=true:=decide_eq_true h1;obtain⟨b,d4⟩:∃b,decide (r<(m:Int))=b:=⟨_,rfl⟩;have e:tw r m=b:=by unfold tw;rw [d1,d4];rfl
  rw [e];clear h1 e;go_enter func58,ntmps58;go_wp2;go_ret;exact⟨rfl,HB.o⟩
 ·have d1:decide (0<=r)=false:=decide_eq_false h1;have e:tw r m=false:=by unfold tw;rw [d1];rfl
  rw [e];clear h1 e;go_enter func58,ntmps58;go_wp2;go_ret;exact⟨rfl,HB.o⟩
section
variable {P:Program}{ops:Array Oper}{Q:Exit->Act->World->Prop}{S:World->Prop}{fuel:Nat}{l:Array Bool}{a:Act}{w:World}
theorem wG (i j:Nat){o p:Oper}(hk:∀K':Act->World->Prop,Shut (∀(a:Act) (w:World),S w->(S w->wpAnyH P .any ops (NoPanic Q) S fuel (l.setIfInBounds i true) a w)->K' a w)->Oper.wp P o a w K' (NoPanic Q))(hj:∀K':Act->World->Prop,Shut (∀(a:Act) (w:World),S w->(S w->wpAnyH P .any ops (NoPanic Q) S fuel (l.setIfInBounds j true) a w)->K' a w)->Oper.wp P p a w K' (NoPanic Q))(h1:ops[i]?=some o:=by simp only [QO,qC,QV];rfl)(c:ops[j]?=some p:=by simp only [QO,qC,QV];rfl)(h2:Region.ready .any ops l=[i,j]:=by kernel_rfl)(h3:Region.wanted o (yielded ops a.tmps)=true:=by rfl)(d:Region.wanted p (yielded ops a.tmps)=true:=by rfl):wpAnyH P .any ops (NoPanic Q) S (fuel+1) l a w:=
 wpAnyH_ready h2 zA (AllReadyH.cons h1 (λK' hK=>by rw [if_pos h3];exact hk K' hK) (AllReadyH.cons c (λK' hK=>by rw [if_pos d];exact hj K' hK) AllReadyH.nil))
end
structure fj (w:World)(base g n cap:Nat)(Ls:List (List Rat)):Prop where
 ge:base<=g
 len:Ls.length=n
 fits:n<=cap
 most:cap<=9223372036854775807
 blk:∃cs:Array Value,zh w g 41 cs/\(∀u ∈ cs.toList,xp u)/\cs.size=cap
 num:∀i L,Ls[i]?=some L->∃(B:ze) (d:Nat),w.cell? ⟨g,i,none⟩=some (.slice B L.length d)/\zR w B L.length d L
theorem fj.below {cap:Nat}(h:fj w a g n cap Ls)(hb:Below w.heap.size w w'):fj w' a g n cap Ls:=by
 refine⟨h.ge,h.len,h.fits,h.most,?_,λi L hi=>?_⟩
 ·obtain⟨cs,hk,h1,h2⟩:=h.blk;exact⟨cs,zg hb hk,h1,h2⟩
 ·obtain⟨B,d,h1,h2⟩:=h.num i L hi;exact⟨B,d,zv hb h1,zR.keep h2 hb⟩
theorem fj.rows {cap:Nat}(h:fj w a g n cap Ls):yx (z8 zo) w (some ⟨g,0,none⟩) n Ls:=
 ⟨h.len,λi L hi=>by
  obtain⟨cs,hk,_⟩:=h.blk;obtain⟨B,d,h1,h2⟩:=h.num i L hi;exact⟨_,B,d,rfl,hk.lt,by rw [xk];exact h1,h2⟩⟩
section
variable {α:Type}{E:El α}
theorem z8.cells {xs:List α}(h:z8 E w (some ad) n c xs):∃a:List Value,a.length=n*3/\(∀j u,a[j]?=some u->w.cell? (ad.add j)=some u)/\(∀u ∈ a,u.oneCell'=true)/\(∀u ∈ a,vR u)/\
  ∀i x,xs[i]?=some x->∃(b:Bool) (B:ze) (m d:Nat) (F:ze) (u f:Nat),a[i*3]?=some (.bool b)/\a[i*3+1]?=some (.slice B m d)/\a[i*3+2]?=some (.slice F u f)/\E w x b B m d F u f:=by
 have hl:=h.len;have hc:∀j,j<n*3->∃u,w.cell? (ad.add j)=some u/\u.oneCell'=true/\vR u:=λj hj=>by
  have hi:j / 3<n:=zb;obtain⟨o,b,B,m,d,F,u,v,e,h1,h2,h3,h4,h5⟩:=h.num (j / 3) _ (qY zb);injection e with e;subst e;have s:j%3=0\/j%3=1\/j%3=2:=zb;rcases s with h9|h9|h9
  ·exact⟨.bool b,by rw [show j=j / 3*3 by omega];exact h2,rfl,λk z e=>by cases e⟩
  ·exact⟨.slice B m d,by rw [show j=j / 3*3+1 by omega];exact h3,rfl,λk z e=>by cases e⟩
  ·exact⟨.slice F u v,by rw [show j=j / 3*3+2 by omega];exact h4,rfl,λk z e=>by cases e⟩
 have hg:∀j u,j<n*3->w.cell? (ad.add j)=some u->((List.range (n*3)).map λj=>(w.cell? (ad.add j)).getD (.bool false))[j]?=some u:=λj u hj hu=>by
  rw [qN,xL hj];show some ((w.cell? (ad.add j)).getD (.bool false))=some u;rw [hu];rfl
 refine⟨(List.range (n*3)).map λj=>(w.cell? (ad.add j)).getD (.bool false),zA,λj u hj=>?_,λu hu=>?_,λu hu=>?_,λi x hi=>?_⟩
 ·have g:j<n*3:=by
   have:=(List.getElem?_eq_some_iff.1 hj).1;simpa using this
  obtain⟨u',h1,-,-⟩:=hc j g;rw [hg j u' g h1] at hj;injection hj with hj;rw [<-hj];exact h1
 ·obtain⟨j,hj,rfl⟩:=List.mem_map.1 hu;obtain⟨u',h1,h2,-⟩:=hc j (List.mem_range.1 hj);rw [h1];exact h2
 ·obtain⟨j,hj,rfl⟩:=List.mem_map.1 hu;obtain⟨u',h1,-,h2⟩:=hc j (List.mem_range.1 hj);rw [h1];exact h2
 ·have g:=(List.getElem?_eq_some_iff.1 hi).1;obtain⟨o,b,B,m,d,F,u,v,e,h1,h2,h3,h4,h5⟩:=h.num i x hi;injection e with e;subst e;exact⟨b,B,m,d,F,u,v,hg _ _ zb h2,hg _ _ zb h3,hg _ _ zb h4,h5⟩
theorem y6.copied (hE:tG E){w w':World}{c n:Nat}{t:TypeId}{v':Value}{xs:List α}{a:List Value}(hl:xs.length=n)
  (g:∀i x,xs[i]?=some x->∃(b:Bool) (B:ze) (m d:Nat) (F:ze) (u f:Nat),a[i*3]?=some (.bool b)/\a[i*3+1]?=some (.slice B m d)/\a[i*3+2]?=some (.slice F u f)/\E w x b B m d F u f)
  (ho:w'.ownsRow c t 3 v' (0+n) ([]++a)) (hg:w.grownBy w' none) (hn:wH w' v'):y6 E w' c t v' xs a:=by
 rw [xB,XC] at ho;refine⟨by rw [hl];exact ho,hn,λi x hi=>?_⟩;obtain⟨b,B,m,d,F,u,f,h1,h2,h3,h4⟩:=g i x hi;exact⟨b,B,m,d,F,u,f,h1,h2,h3,hE.below h4 (su hg)⟩
end
section
variable {α:Type}{E:El α}
theorem y6.open {xs:List α}(h:y6 E w i t (.slice (some ad) n c) xs vs):
  ∃a:Array Value,ad=⟨ad.block,0,none⟩/\i<=ad.block/\n=xs.length/\zh w ad.block t a/\xs.length<=c/\c<=maxLen/\a.size=c*3/\a.toList.take (xs.length*3)=vs/\zV a:=by
 rcases h.own.2 with⟨e,h0⟩|⟨g,cap,a,e,hbg,hg,hnc,hcm,hcs,htake⟩
 ·cases e
 ·injection e with e1 e2 e3;injection e1 with e1;subst e1 e2 e3;obtain⟨j,e2,d,o⟩:=h.nou g rfl;have m:j=a:=by
   rw [hg] at d;injection d with d;injection d with d;exact d.symm
  subst m;exact⟨j,rfl,hbg,rfl,hg,hnc,hcm,hcs,htake,λu hu k z=>o u hu k z⟩
theorem y6.ready {xs:List α}(h:y6 E w j t (.slice (some ad) n c) xs vs){i:Nat}(hi:i<n)(x y:Value):∃a b d:Value,w.cell? ⟨ad.block,i*3,none⟩=some a/\w.frozen? ⟨ad.block,i*3,none⟩=false/\(w.setCell ⟨ad.block,i*3,none⟩ x).cell? ⟨ad.block,i*3+1,none⟩=some b/\(w.setCell ⟨ad.block,i*3,none⟩ x).frozen? ⟨ad.block,i*3+1,none⟩=false/\
  ((w.setCell ⟨ad.block,i*3,none⟩ x).setCell ⟨ad.block,i*3+1,none⟩ y).cell? ⟨ad.block,i*3+2,none⟩=some d/\((w.setCell ⟨ad.block,i*3,none⟩ x).setCell ⟨ad.block,i*3+1,none⟩ y).frozen? ⟨ad.block,i*3+2,none⟩=false:=by
 obtain⟨cs,-,-,h0,hk,h1,-,h2,-⟩:=h.open;have g:=hk.set_ (i*3) x;have k:=g.set_ (i*3+1) y;have e0:i*3<cs.size:=zb;have e1:i*3+1<(cs.setIfInBounds (i*3) x).size:=by simp;omega
 have e2:i*3+2<((cs.setIfInBounds (i*3) x).setIfInBounds (i*3+1) y).size:=by simp;omega
 exact⟨_,_,_,(hk.cell _).trans (QY e0),hk.frozen _,(g.cell _).trans (QY e1),g.frozen _,(k.cell _).trans (QY e2),k.frozen _⟩
theorem y6.put (hE:tG E){w:World}{A n c:Nat}{t:TypeId}{ad:Addr}{xs:List α}{vs:List Value}(h:y6 E w A t (.slice (some ad) n c) xs vs){i:Nat}(hi:i<n){x:α}{b:Bool}{B:ze}{m d:Nat}{F:ze}{u v:Nat}(hx:E w x b B m d F u v):
  ∃N,y6 E (((w.setCell ⟨ad.block,i*3,none⟩ (.bool b)).setCell ⟨ad.block,i*3+1,none⟩ (.slice B m d)).setCell ⟨ad.block,i*3+2,none⟩ (.slice F u v)) A t (.slice (some ad) n c) (xs.set i x) N:=by
 obtain⟨cs,e9,D,h0,hk,h1,K,h2,h3,C⟩:=h.open;obtain⟨g,o,p⟩:=ad;simp only [Addr.mk.injEq,true_and] at e9;obtain⟨rfl,rfl⟩:=e9;simp only at hk D⊢;have ho:=zP.of_far (oq g (i*3) (i*3+1) (i*3+2) w (.bool b) (.slice B m d) (.slice F u v));have G:=((hk.set_ (i*3) (.bool b)).set_ (i*3+1) (.slice B m d)).set_ (i*3+2) (.slice F u v);have L:zV (((cs.setIfInBounds (i*3) (.bool b)).setIfInBounds (i*3+1) (.slice B m d)).setIfInBounds (i*3+2) (.slice F u v)):=ip (ip (ip C _ (λ_ _ e=>by cases e)) _ (λ_ _ e=>by cases e)) _ (λ_ _ e=>by cases e);generalize ((w.setCell ⟨g,i*3,none⟩ (.bool b)).setCell ⟨g,i*3+1,none⟩ (.slice B m d)).setCell ⟨g,i*3+2,none⟩ (.slice F u v)=w3 at*;obtain⟨vU,a⟩:∃q,((cs.setIfInBounds (i*3) (.bool b)).setIfInBounds (i*3+1) (.slice B m d)).setIfInBounds (i*3+2) (.slice F u v)=q:=⟨_,rfl⟩;have H:vU.size=cs.size:=by rw [<-a];simp
 have s:∀k,k<xs.length*3->(vU.toList.take (xs.length*3))[k]?=vU[k]?:=λk J=>by
  rw [List.getElem?_take_of_lt J,QS]
 refine⟨vU.toList.take (xs.length*3),⟨⟨?_,.inr ⟨g,c,vU,by rw [QX,h0],D,by rw [<-a];exact G,by rw [QX];exact h1,K,by rw [H];exact h2,by rw [QX]⟩⟩,?_,?_⟩⟩
 ·have M:vU.toList.length=c*3:=by rw [XP,H,h2]
  rw [qA,M,QX];omega
 ·intro g' e;simp [Value.ownBlock] at e;subst e;exact⟨vU,t,by rw [<-a];exact G,λq hq k z=>by rw [<-a] at hq;exact L q hq k z⟩
 ·intro j y hj;have I:=(List.getElem?_eq_some_iff.1 hj).1;rw [QX] at I;by_cases hij:i=j
  ·subst hij;rw [XY zb] at hj;injection hj with hj;subst hj;refine⟨b,B,m,d,F,u,v,?_,?_,?_,hE.offg hx hk C ho⟩
   ·rw [s _ zb,<-a,qK zb,qK zb,qM zb]
   ·rw [s _ zb,<-a,qK zb,qM (by simp;omega)]
   ·rw [s _ zb,<-a,qM (by simp;omega)]
  ·rw [XZ hij] at hj;obtain⟨b1,B1,m1,d1,F1,u1,f1,c1,c2,c3,c4⟩:=h.num j y hj;rw [<-h3,List.getElem?_take_of_lt zb,QS] at c1 c2 c3;refine⟨b1,B1,m1,d1,F1,u1,f1,?_,?_,?_,hE.offg c4 hk C ho⟩
   ·rw [s _ zb,<-a,qK zb,qK zb,qK zb];exact c1
   ·rw [s _ zb,<-a,qK zb,qK zb,qK zb];exact c2
   ·rw [s _ zb,<-a,qK zb,qK zb,qK zb];exact c3
end
def ZR (E:El Rat)(Z:Nat->Prop):RP Rat:=λw B m d L=>z8 E w B m d L/\∀ad,B=some ad->Z ad.block
theorem ZR.grown {E:El Rat}(hE:tG E){Z:Nat->Prop}{w w':World}{u:Value}{B:ze}{m d:Nat}{L:List Rat}(h:ZR E Z w B m d L)(hg:w.grownBy w' u.ownBlock)(hn:wH w u)(hz:∀b,u.ownBlock=some b->¬ Z b):ZR E Z w' B m d L:=by
 refine⟨?_,h.2⟩;cases hv:u.ownBlock with
 |none=>rw [hv] at hg;exact h.1.below hE (su hg)
 |some g=>
   rw [hv] at hg;obtain⟨t,cs,hk,hc⟩:=hn.blk hv;have ho:zP g w w':=zP.of_grown hg;refine⟨h.1.len,h.1.fits,h.1.most,λi x hi=>?_⟩;obtain⟨ad,b,B1,m1,d1,F,u1,v1,e,h1,h2,h3,h4,h5⟩:=h.1.num i x hi;have c:ad.block≠g:=λe9=>hz g hv (e9▸h.2 ad e);have a:∀j,w'.cell? (ad.add j)=w.cell? (ad.add j):=λj=>ho.2 _ (by rw [yk];exact h1) (by rw [yk];exact c);exact⟨ad,b,B1,m1,d1,F,u1,v1,e,qJ h1 ho.1,(a _).trans h2,(a _).trans h3,(a _).trans h4,hE.offg h5 hk hc ho⟩
