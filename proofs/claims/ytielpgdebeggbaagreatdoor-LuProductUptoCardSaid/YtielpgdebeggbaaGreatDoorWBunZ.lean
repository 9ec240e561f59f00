/- What this claim leans on. -/
import Derived.Test.YtielpgdebeggbaaGreatDoorWVMath
import Derived.Test.YtielpgdebeggbaaGreatDoorWMeet4
import Derived.Laws.AppendOwn
set_option linter.unusedVariables false
set_option linter.unusedSimpArgs false
namespace Go.Proofs.YtielpgdebeggbaaGreatDoor
open Go Go.RowKit Go.Proofs.Tryz
open Go.ChangeShapes Go.WideShapes Go.ChangeAt
set_option maxHeartbeats 16000000
namespace UA
set_option maxHeartbeats 16000000
theorem kE {H:Type}(d:DataW H):1<=Rows.uptoBulk d:=by
 cases d with
 |lit l=>cases l<;>simp [Rows.uptoBulk]
 |nil=>simp [Rows.uptoBulk]
 |ptr d=>simp [Rows.uptoBulk]
 |slice elems spare=>simp [Rows.uptoBulk]
 |agg parts=>simp [Rows.uptoBulk]
 |iface t d=>simp [Rows.uptoBulk]
 |map entries=>simp [Rows.uptoBulk]
 |held h=>simp [Rows.uptoBulk]
theorem Wr {H:Type}(l:List (DataW H)):l.length<=Rows.uptoBulkAll l:=by
 induction l with
 |nil=>simp [Rows.uptoBulkAll]
 |cons x r ih=>have:=kE x;simp only [Rows.uptoBulkAll,xJ];omega
theorem slice_le {H:Type}(a c:List (DataW H)):a.length+c.length+1<=Rows.uptoBulk (.slice a c):=by
 have h1:=Wr a;have h2:=Wr c;simp only [Rows.uptoBulk];omega
end UA
open Go Go.RowKit Go.Proofs.Tryz
open Go.ChangeShapes Go.WideShapes Go.ChangeAt Go.Deep
set_option maxHeartbeats 16000000
open Go Go.RowKit Go.Proofs.Tryz
open Go.ChangeShapes Go.WideShapes Go.ChangeAt Go.Deep
set_option maxHeartbeats 16000000
open Go Go.RowKit Go.Proofs.Tryz
set_option maxHeartbeats 16000000
variable {ad:Addr}{cs:Array Value}{M:List (List Rat)}{xs:List Rat}{c g k m n x y:Nat}{f:Nat->Rat}{t:TypeId}{v:Value}{w w':World}{A:ze}
def zq (k:Nat)(f:Nat->Rat):Rat:=um ((List.range k).map f)
theorem gT (f:Nat->Rat):zq 0 f=0:=rfl
theorem S6 (rs:List Rat)(r:Rat):um (rs++[r])=um rs+r:=by
 unfold um;rw [yI];rfl
theorem xw (k:Nat)(f:Nat->Rat):zq (k+1) f=zq k f+f k:=by
 unfold zq;rw [yL,YY,yK,List.map_nil,S6]
theorem ya {f g:Nat->Rat}(h:∀i,i<k->f i=g i):zq k f=zq k g:=by
 unfold zq;congr 1;exact List.map_congr_left λi hi=>h i (List.mem_range.1 hi)
theorem uE (h:∀i,i<k->f i=0):zq k f=0:=by
 induction k with
 |zero=>rfl
 |succ k ih=>rw [xw,ih (λi hi=>h i zb),h k zb,xK]
theorem SU (a b c d:Rat):(a+b)+(c+d)=(a+c)+(b+d):=by
 rw [Rat.add_assoc,Rat.add_assoc,<-Rat.add_assoc b c d,<-Rat.add_assoc c b d,Rat.add_comm b c]
theorem tY (k:Nat)(f g:Nat->Rat):zq k (λi=>f i+g i)=zq k f+zq k g:=by
 induction k with
 |zero=>exact(xK 0).symm
 |succ k ih=>rw [xw,xw,xw,ih,SU]
theorem wM (k:Nat)(a:Rat)(f:Nat->Rat):a*zq k f=zq k (λi=>a*f i):=by
 induction k with
 |zero=>exact xO a
 |succ k ih=>rw [xw,xw,Rat.mul_add,ih]
theorem Qf (k:Nat)(a:Rat)(f:Nat->Rat):zq k f*a=zq k (λi=>f i*a):=by
 induction k with
 |zero=>exact XR a
 |succ k ih=>rw [xw,xw,Rat.add_mul,ih]
theorem aY (n k:Nat)(f:Nat->Nat->Rat):zq n (λi=>zq k (λj=>f i j))=zq k (λj=>zq n (λi=>f i j)):=by
 induction n with
 |zero=>exact(uE λi _=>rfl).symm
 |succ n ih=>
   rw [xw,ih,<-tY];exact ya λj _=>(xw n λi=>f i j).symm
theorem Qh (hc:c<k)(f:Nat->Rat):zq k (λi=>f i*(if i=c then 1 else 0))=f c:=by
 induction k with
 |zero=>omega
 |succ k ih=>
   rw [xw];by_cases h:c=k
   ·subst h;rw [if_pos rfl,Rat.mul_one,uE λi hi=>by rw [if_neg zb,xO],yD]
   ·rw [if_neg zb,xO,xK,ih zb]
theorem eV:∀{k:Nat} {xs ys:List Rat},xs.length=k->ys.length=k->wP xs ys=zq k λi=>xs.getD i 0*ys.getD i 0
 |k,xs,ys,hx,hy=>by
   unfold wP zq;congr 1;apply YP
   ·simp [hx,hy]
   ·intro i h1 h2;have h3:i<k:=by simpa using h2
    rw [List.getElem_zipWith,List.getElem_map,List.getElem_range,qQ,qQ,qY zb,qY zb];rfl
def yp (n m:Nat)(f:Nat->Nat->Rat):List (List Rat):=(List.range n).map λr=>(List.range m).map (f r)
def zl (M:List (List Rat))(r c:Nat):Rat:=(M.getD r []).getD c 0
structure zO (M:List (List Rat))(n m:Nat):Prop where
 rows:M.length=n
 cols:∀L ∈ M,L.length=m
theorem zO.row (h:zO M n m){r:Nat}(hr:r<n):(M.getD r []).length=m:=by
 have hl:=h.rows;rw [qQ,qY zb];exact h.cols _ (xH _)
theorem tU (n m:Nat)(f:Nat->Nat->Rat):zO (yp n m f) n m:=⟨by simp [yp],λL hL=>by
 obtain⟨r,_,rfl⟩:=List.mem_map.1 hL;simp⟩
theorem VS {f:Nat->Nat->Rat}{r:Nat}(hr:r<n):(yp n m f).getD r []=(List.range m).map (f r):=by
 unfold yp;rw [qQ,qN,xL hr];rfl
theorem Wy (hc:c<m):((List.range m).map f).getD c 0=f c:=by
 rw [qQ,qN,xL hc];rfl
theorem sC {f:Nat->Nat->Rat}{r:Nat}(hr:r<n)(hc:c<m):zl (yp n m f) r c=f r c:=by
 unfold zl;rw [VS hr,Wy hc]
theorem Rr (h:xs.length=m):(List.range m).map (λc=>xs.getD c 0)=xs:=by
 subst h;apply YP
 ·simp
 ·intro i h1 h2;rw [List.getElem_map,List.getElem_range,qQ,qY h2];rfl
theorem zO.eq (h:zO M n m):yp n m (zl M)=M:=by
 have hl:=h.rows;unfold yp;apply YP
 ·simp [hl]
 ·intro i h1 h2;rw [List.getElem_map,List.getElem_range];have e:M.getD i []=M[i]:=by rw [qQ,qY h2];rfl
  show(List.range m).map (λc=>(M.getD i []).getD c 0)=M[i];rw [e];exact Rr (h.cols _ (xH h2))
def td (n:Nat)(M:List (List Rat))(c:Nat):List Rat:=(List.range n).map λr=>zl M r c
theorem fm (n:Nat)(M:List (List Rat))(c:Nat):(td n M c).length=n:=by simp [td]
theorem Uo {r:Nat}(hr:r<n):(td n M c).getD r 0=zl M r c:=Wy hr
def vQ (n m:Nat)(M:List (List Rat)):List (List Rat):=yp m n λr c=>zl M c r
theorem Qo {r:Nat}(hr:r<m):(vQ n m M).getD r []=td n M r:=VS hr
def sk (n k m:Nat)(A B:List (List Rat)):List (List Rat):=yp n m λr c=>wP (A.getD r []) (td k B c)
theorem Wv (n k m:Nat)(A B:List (List Rat)):zO (sk n k m A B) n m:=tU _ _ _
theorem mb {n k m:Nat}{A B:List (List Rat)}(hA:zO A n k){r c:Nat}(hr:r<n)(hc:c<m):zl (sk n k m A B) r c=zq k λi=>zl A r i*zl B i c:=by
 unfold sk;rw [sC hr hc,eV (hA.row hr) (fm k B c)];exact ya λi hi=>by rw [Uo hi];rfl
def uT (n:Nat):List (List Rat):=yp n n λr c=>if r=c then 1 else 0
theorem Vi (n m:Nat)(M:List (List Rat)):zO (vQ n m M) m n:=tU _ _ _
def Z5 (n m:Nat)(v:List Rat)(M:List (List Rat)):List Rat:=(List.range m).map λc=>wP v (td n M c)
def uj (M:List (List Rat))(v:List Rat):List Rat:=M.map λL=>wP L v
theorem Wj:∀(xs ys:List Rat),wP xs ys=wP ys xs
 |[],[]=>rfl
 |[],_::_=>rfl
 |_::_,[]=>rfl
 |x::xs,y::ys=>by rw [Wk,Wk,Wj xs ys,yM]
theorem S8 {v:List Rat}:uj (vQ n m M) v=Z5 n m v M:=by
 unfold uj Z5 vQ yp;rw [List.map_map];exact List.map_congr_left λc _=>Wj _ _
theorem rL (m:Nat):zO [] 0 m:=⟨rfl,λL hL=>by cases hL⟩
open Go Go.RowKit Go.Proofs.Tryz
set_option maxHeartbeats 16000000
abbrev El (α:Type):=World->α->Bool->ze->Nat->Nat->ze->Nat->Nat->Prop
def zP (g:Nat)(w w':World):Prop:=w.heap.size<=w'.heap.size/\∀p:Addr,p.block<w.heap.size->p.block≠g->w'.cell? p=w.cell? p
theorem zP.of_far (h:yb g w w'):zP g w w':=⟨by rw [h.1];exact qX _,λp _ hp=>h.2 p hp⟩
theorem zP.of_grown (h:w.grownBy w' (some g)):zP g w w':=
 ⟨h.size,λp hp a=>World.cell?_of_block (h.block p.block hp (λe=>a (by injection e)))⟩
theorem su (h:w.grownBy w' none):Below w.heap.size w w':=(qZ _ w).grown h (qX _) (λk e=>by cases e)
theorem WE {k:IntKind}{l:List Nat}(h:zK w w.heap.size 1 A n (zB k l))(hk:zh w g t cs)(a:zV cs)(ho:zP g w w'):zK w' w'.heap.size 1 A n (zB k l):=by
 have c:=WZ h hk a;refine⟨h.1,λhn=>?_⟩;obtain⟨ad,e,hb,hc⟩:=h.2 hn;refine⟨ad,e,qJ hb ho.1,λj v hv=>?_⟩;rw [ho.2 (ad.add j) (by rw [yk];exact hb) (by rw [yk];exact c hn ad e)];exact hc j v hv
theorem WN (h:zp w x A n c)(hk:zh w g t cs)(a:zV cs)(ho:zP g w w'):zp w' x A n c:=⟨WE h.1 hk a ho,h.2⟩
theorem Xj (h:oN w x A n c)(hk:zh w g t cs)(a:zV cs)(ho:zP g w w'):oN w' x A n c:=⟨WE h.1 hk a ho,h.2⟩
structure tG {α:Type}(E:El α):Prop where
 below:∀{w w':World} {x:α} {b:Bool} {A:ze} {n c:Nat} {F:ze} {k f:Nat},E w x b A n c F k f->Below w.heap.size w w'->E w' x b A n c F k f
 offg:∀{w w':World} {x:α} {b:Bool} {A:ze} {n c:Nat} {F:ze} {k f g:Nat} {t:TypeId} {cs:Array Value},E w x b A n c F k f->zh w g t cs->zV cs->zP g w w'->E w' x b A n c F k f
theorem zZ:tG zo where
 below h hb:=h.below hb
 offg h hk hcs ho:=by
  obtain⟨⟨h1,h2⟩,x,e,h3⟩:=h;exact⟨⟨h1,WN h2 hk hcs ho⟩,x,e,WN h3 hk hcs ho⟩
section
variable {α:Type}{E:El α}
structure z8 (E:El α)(w:World)(A:ze)(n c:Nat)(xs:List α):Prop where
 len:xs.length=n
 fits:n<=c
 most:c<=9223372036854775807
 num:∀i x,xs[i]?=some x->∃(ad:Addr) (b:Bool) (B:ze) (m d:Nat) (F:ze) (u v:Nat),A=some ad/\ad.block<w.heap.size/\w.cell? (ad.add (i*3))=some (.bool b)/\w.cell? (ad.add (i*3+1))=some (.slice B m d)/\w.cell? (ad.add (i*3+2))=some (.slice F u v)/\E w x b B m d F u v
theorem z8.below (hE:tG E){w w':World}{A:ze}{n c:Nat}{xs:List α}(h:z8 E w A n c xs)(hb:Below w.heap.size w w'):z8 E w' A n c xs:=
 ⟨h.len,h.fits,h.most,λi x hi=>by
  obtain⟨ad,b,B,m,d,F,u,v,e,h1,h2,h3,h4,h5⟩:=h.num i x hi;exact⟨ad,b,B,m,d,F,u,v,e,qJ h1 hb.size,zv hb h2,zv hb h3,zv hb h4,hE.below h5 hb⟩⟩
theorem z8.nil (w:World):z8 E w none 0 0 []:=⟨rfl,qX _,zf,λi x hi=>by simp at hi⟩
theorem z8.at_ {n:Nat}{xs:List α}(h:z8 E w A n c xs){i:Nat}(hi:i<n)(d0:α):∃(ad:Addr) (b:Bool) (B:ze) (m d:Nat) (F:ze) (u v:Nat),A=some ad/\ad.block<w.heap.size/\w.cell? (ad.add (i*3))=some (.bool b)/\w.cell? (ad.add (i*3+1))=some (.slice B m d)/\w.cell? (ad.add (i*3+2))=some (.slice F u v)/\E w (xs.getD i d0) b B m d F u v:=by
 have hl:=h.len;refine h.num i _ ?_;rw [qQ,qY zb];rfl
structure wn (E:El α)(w:World)(t:TypeId)(g n:Nat)(xs:List α):Prop where
 len:xs.length=n
 blk:∃cs:Array Value,zh w g t cs/\zV cs/\cs.size=n*3
 num:∀i x,xs[i]?=some x->∃(b:Bool) (B:ze) (m d:Nat) (F:ze) (u v:Nat),w.cell? ⟨g,i*3,none⟩=some (.bool b)/\w.cell? ⟨g,i*3+1,none⟩=some (.slice B m d)/\w.cell? ⟨g,i*3+2,none⟩=some (.slice F u v)/\E w x b B m d F u v
theorem wn.lt {t:TypeId}{xs:List α}(h:wn E w t g n xs):g<w.heap.size:=by
 obtain⟨cs,hk,_⟩:=h.blk;exact hk.lt
theorem wn.below (hE:tG E){w w':World}{t:TypeId}{g n:Nat}{xs:List α}(h:wn E w t g n xs)(hb:Below w.heap.size w w'):wn E w' t g n xs:=by
 refine⟨h.len,?_,λi x hi=>?_⟩
 ·obtain⟨cs,hk,h1,h2⟩:=h.blk;exact⟨cs,zg hb hk,h1,h2⟩
 ·obtain⟨b,B,m,d,F,u,v,h1,h2,h3,h4⟩:=h.num i x hi;exact⟨b,B,m,d,F,u,v,zv hb h1,zv hb h2,zv hb h3,hE.below h4 hb⟩
theorem xk (g k:Nat):(⟨g,0,none⟩:Addr).add k=⟨g,k,none⟩:=by unfold Addr.add;split<;>simp_all
theorem wn.row {xs:List α}(h:wn E w t g n xs)(hn:n<=9223372036854775807):z8 E w (some ⟨g,0,none⟩) n n xs:=
 ⟨h.len,qX _,hn,λi x hi=>by
  obtain⟨b,B,m,d,F,u,v,h1,h2,h3,h4⟩:=h.num i x hi;exact⟨_,b,B,m,d,F,u,v,rfl,h.lt,by rw [xk];exact h1,by rw [xk];exact h2,by rw [xk];exact h3,h4⟩⟩
theorem wn.ready {xs:List α}(h:wn E w t g n xs){i:Nat}(hi:i<n)(x y:Value):∃a b c:Value,w.cell? ⟨g,i*3,none⟩=some a/\w.frozen? ⟨g,i*3,none⟩=false/\(w.setCell ⟨g,i*3,none⟩ x).cell? ⟨g,i*3+1,none⟩=some b/\(w.setCell ⟨g,i*3,none⟩ x).frozen? ⟨g,i*3+1,none⟩=false/\
  ((w.setCell ⟨g,i*3,none⟩ x).setCell ⟨g,i*3+1,none⟩ y).cell? ⟨g,i*3+2,none⟩=some c/\((w.setCell ⟨g,i*3,none⟩ x).setCell ⟨g,i*3+1,none⟩ y).frozen? ⟨g,i*3+2,none⟩=false:=by
 obtain⟨cs,hk,h1,h2⟩:=h.blk;have d:=hk.set_ (i*3) x;have j:=d.set_ (i*3+1) y;have e0:i*3<cs.size:=zb;have e1:i*3+1<(cs.setIfInBounds (i*3) x).size:=by simp;omega
 have e2:i*3+2<((cs.setIfInBounds (i*3) x).setIfInBounds (i*3+1) y).size:=by simp;omega
 exact⟨_,_,_,(hk.cell _).trans (QY e0),hk.frozen _,(d.cell _).trans (QY e1),d.frozen _,(j.cell _).trans (QY e2),j.frozen _⟩
theorem ip (h:zV cs)(i:Nat){v:Value}(hv:∀k z,v≠.int k z):zV (cs.setIfInBounds i v):=by
 intro u hu;rw [QD] at hu;rcases QW hu with hu|rfl
 ·exact h u hu
 ·exact hv
theorem oq (g i j k:Nat)(w:World)(x y z:Value):yb g w (((w.setCell ⟨g,i,none⟩ x).setCell ⟨g,j,none⟩ y).setCell ⟨g,k,none⟩ z):=(((yb.refl g w).set_ i x).set_ j y).set_ k z
theorem wn.set_ (hE:tG E){w:World}{t:TypeId}{g n:Nat}{xs:List α}(h:wn E w t g n xs){i:Nat}(hi:i<n){x:α}{b:Bool}{B:ze}{m d:Nat}{F:ze}{u v:Nat}(hx:E w x b B m d F u v):
  wn E (((w.setCell ⟨g,i*3,none⟩ (.bool b)).setCell ⟨g,i*3+1,none⟩ (.slice B m d)).setCell ⟨g,i*3+2,none⟩ (.slice F u v)) t g n (xs.set i x):=by
 obtain⟨cs,hk,h1,h2⟩:=h.blk;have ho:=zP.of_far (oq g (i*3) (i*3+1) (i*3+2) w (.bool b) (.slice B m d) (.slice F u v));have a:=((hk.set_ (i*3) (.bool b)).set_ (i*3+1) (.slice B m d)).set_ (i*3+2) (.slice F u v);refine⟨by rw [QX];exact h.len,⟨_,a,?_,by simp;exact h2⟩,λj y hj=>?_⟩
 ·exact ip (ip (ip h1 _ (λ_ _ e=>by cases e)) _ (λ_ _ e=>by cases e)) _ (λ_ _ e=>by cases e)
 ·by_cases hij:i=j
  ·subst hij;have hl:=h.len;rw [XY zb] at hj;injection hj with hj;subst hj;refine⟨b,B,m,d,F,u,v,?_,?_,?_,hE.offg hx hk h1 ho⟩
   ·rw [a.cell,qK zb,qK zb,qM zb]
   ·rw [a.cell,qK zb,qM (by simp;omega)]
   ·rw [a.cell,qM (by simp;omega)]
  ·rw [XZ hij] at hj;obtain⟨b',B',m',d',F',u',v',c1,c2,c3,c4⟩:=h.num j y hj;refine⟨b',B',m',d',F',u',v',?_,?_,?_,hE.offg c4 hk h1 ho⟩
   ·rw [a.cell,qK zb,qK zb,qK zb,<-hk.cell];exact c1
   ·rw [a.cell,qK zb,qK zb,qK zb,<-hk.cell];exact c2
   ·rw [a.cell,qK zb,qK zb,qK zb,<-hk.cell];exact c3
end
theorem mO (z:Array Value)(n j:Nat)(h:j<n):(madeCells z n)[j]?=some z[j%z.size]!:=by
 unfold madeCells;rw [Array.getElem?_map,QY (by simpa using h)];simp
def oU:Array Value:=#[.bool false,.slice none 0 0,.slice none 0 0]
theorem Pt (n:Nat):zV (madeCells oU n):=by
 intro v hv k z e;rw [yN,Array.mem_iff_getElem?] at hv;obtain⟨j,hj⟩:=hv;have a:j<n:=by
  have:=(Array.getElem?_eq_some_iff.1 hj).1;rwa [size_madeCells] at this
 rw [mO _ _ _ a] at hj;have h3:j%3=0\/j%3=1\/j%3=2:=zb;rw [show oU.size=3 from rfl] at hj;subst e;rcases h3 with h3|h3|h3<;>rw [h3] at hj<;>simp [oU] at hj
theorem wn.made {α:Type}{E:El α}(w:World)(t:TypeId)(n:Nat)(z0:α)(hz:∀w',E w' z0 false none 0 0 none 0 0):wn E (w.alloc (.cells (madeCells oU (n*3)) t)) t w.heap.size n (List.replicate n z0):=by
 have hk:=zh.new w t (madeCells oU (n*3));refine⟨zA,⟨_,hk,Pt _,size_madeCells _ _⟩,λi x hi=>?_⟩;have a:i<n:=by
  have:=(List.getElem?_eq_some_iff.1 hi).1;simpa using this
 obtain rfl:z0=x:=by
  rw [List.getElem?_replicate,if_pos a] at hi;injection hi
 have e0:(i*3)%3=0:=zb;have e1:(i*3+1)%3=1:=zb;have e2:(i*3+2)%3=2:=zb;refine⟨false,none,0,0,none,0,0,?_,?_,?_,hz _⟩
 ·rw [hk.cell,mO _ _ _ zb,show oU.size=3 from rfl,e0];rfl
 ·rw [hk.cell,mO _ _ _ zb,show oU.size=3 from rfl,e1];rfl
 ·rw [hk.cell,mO _ _ _ zb,show oU.size=3 from rfl,e2];rfl
def wX {α:Type}(z0:α)(ys:List α)(n i:Nat):List α:=ys.take i++List.replicate (n - i) z0
theorem tV {α:Type}(z0:α)(ys:List α)(n:Nat):wX z0 ys n 0=List.replicate n z0:=by simp [wX]
theorem tW {α:Type}(z0:α)(ys:List α)(n:Nat)(h:ys.length=n):wX z0 ys n n=ys:=by simp [wX,<-h]
theorem tX {α:Type}(z0:α)(ys:List α)(n i:Nat)(hl:ys.length=n)(hi:i<n)(y:α)(hy:ys[i]?=some y):(wX z0 ys n i).set i y=wX z0 ys n (i+1):=by
 unfold wX;have a:i<ys.length:=zb;have e:(ys.take i).length=i:=by rw [qA];omega
 rw [yS _ _ zb,e,XH,QZ a,xX];congr 1;obtain⟨m,hm⟩:∃m,n - i=m+1:=⟨n - i - 1,zb⟩;have c:n - (i+1)=m:=zb;rw [hm,c,List.replicate_succ];have hv:ys[i]=y:=by rw [qY a] at hy;injection hy
 rw [hv];rfl
theorem Xc (w:World):zp w 0 none 0 0:=by
 refine⟨⟨by rw [show dg 18446744073709551616 0=[] from by rw [dg];rfl];rfl,λh=>absurd h zf⟩,qX _,zf⟩
theorem eF (w:World):zo w (0:Rat) false none 0 0 none 0 0:=⟨⟨rfl,Xc w⟩,⟨0,⟨rfl,zf⟩,Xc w⟩⟩
abbrev zR (w:World)(A:ze)(n c:Nat)(xs:List Rat):Prop:=z8 zo w A n c xs
abbrev yh (w:World)(g n:Nat)(xs:List Rat):Prop:=wn zo w 52 g n xs
theorem zR.keep {w':World}(h:zR w A n c xs)(hb:Below w.heap.size w w'):zR w' A n c xs:=z8.below zZ h hb
theorem yh.keep {w':World}(h:yh w g n xs)(hb:Below w.heap.size w w'):yh w' g n xs:=wn.below zZ h hb
def tZ (w:World)(n:Nat)(xs:List Rat)(e:Ending)(w':World):Prop:=∃g,e=.returned (.slice (some ⟨g,0,none⟩) n n)/\w.heap.size<=g/\yh w' g n xs/\Below w.heap.size w w'
def uX (w:World)(n:Nat)(xs:List Rat)(e:Ending)(w':World):Prop:=∃g,e=.returned (.tuple #[.slice (some ⟨g,0,none⟩) n n,.bool true])/\w.heap.size<=g/\yh w' g n xs/\Below w.heap.size w w'
theorem pe (w:World)(n:Nat):yh (w.alloc (.cells (madeCells oU (n*3)) 52)) w.heap.size n (List.replicate n 0):=wn.made w _ n 0 eF
theorem lL:(prog.info? 52).map (λi=>(i.zero,i.size,i.bytes))=some (some (.agg #[.bool false,.slice none 0 0,.slice none 0 0]),3,56):=ye
theorem fA (h:w.cell? (ad.add (k+1))=some v):w.cell? ⟨(ad.add k).block,(ad.add k).off+1,none⟩=some v:=by
 rw [<-gW] at h;exact h
theorem Un (h:w.cell? (ad.add (k+2))=some v):w.cell? ⟨(ad.add k).block,(ad.add k).off+2,none⟩=some v:=by
 rw [<-gW] at h;exact h
theorem oM (n:Nat)(hn:n<=1099511627776):∃Z:Array Value,∀W:World,(Instr.makeSlice 41 (.int .i64 (n:Int)) (.int .i64 (n:Int))).run prog W=.ok (.slice (some ⟨W.heap.size,0,none⟩) n n) (W.alloc (.cells Z 52))/\yh (W.alloc (.cells Z 52)) W.heap.size n (List.replicate n 0):=by
 obtain⟨i0,a,c,d,g⟩:=info_parts lL;refine⟨madeCells oU (n*3),λW=>⟨?_,pe W n⟩⟩;have h:=sx (P:=prog) _ _ i0 _ underlying41 a c .i64 .i64 n n (qX _) (by rw [g];omega) zb W;rw [d] at h;exact h
theorem zR.get {wr:World}(h:zR w A n c xs)(hb:Below w.heap.size w wr){i:Nat}(hi:i<n):∃(ad:Addr) (b:Bool) (B:ze) (m d:Nat) (F:ze) (u v:Nat),A=some ad/\ad.block<w.heap.size/\wr.cell? (ad.add (i*3))=some (.bool b)/\wr.cell? ⟨(ad.add (i*3)).block,(ad.add (i*3)).off+1,none⟩=some (.slice B m d)/\wr.cell? ⟨(ad.add (i*3)).block,(ad.add (i*3)).off+2,none⟩=some (.slice F u v)/\zo wr (xs.getD i 0) b B m d F u v:=by
 obtain⟨ad,b,B,m,d,F,u,v,e,h0,h1,h2,h3,h4⟩:=h.at_ hi 0;exact⟨ad,b,B,m,d,F,u,v,e,h0,zv hb h1,zv hb (fA h2),zv hb (Un h3),h4.below hb⟩
theorem mn {k:Nat}(h:ad.block≠g):(ad.add k).block≠g:=by rw [yk];exact h
theorem kX {W:World}(i j k:Nat)(x y z:Value)(hg:w.heap.size<=g)(h:Below w.heap.size w W):Below w.heap.size w (((W.setCell ⟨g,i,none⟩ x).setCell ⟨g,j,none⟩ y).setCell ⟨g,k,none⟩ z):=zM z hg (zM y hg (zM x hg h))
open Go Go.RowKit Go.Proofs.Tryz
set_option maxHeartbeats 16000000
theorem sB {P:Program}{f:FuncId}{args:Array Value}{z v:Int}(e:z=v)(h:Calls P f args w (vO w z)):Calls P f args w λe w'=>e=.returned (.int .i64 v)/\Below w.heap.size w w':=by
 subst e;exact h
theorem wt {P:Program}{f:FuncId}{args:Array Value}{b t:Bool}(e:b=t)(h:Calls P f args w λe w'=>e=.returned (.bool b)/\Below w.heap.size w w'):Calls P f args w λe w'=>e=.returned (.bool t)/\Below w.heap.size w w':=by
 subst e;exact h
theorem qa {T:World->Prop}(IC:lR T)(x:Nat)(A:ze)(n c:Nat)(w:World)(hT:T w)(h:zp w x A n c)(hn:n<=268435456):Calls prog 113 #[.bool false,.agg #[.slice A n c]] w (wf w (x:Int)):=
 IC.new false x A n c w hT h hn
open Go Go.RowKit Go.Proofs.Tryz
set_option maxHeartbeats 16000000
def s4 (_:TypeId)(cs:Array Value):Prop:=zV cs
def FN (x:Nat)(v:Value)(w:World):Prop:=∃(B:ze) (m d:Nat),v=.agg #[.slice B m d]/\zp w x B m d
def ve (x y:Nat)(v:Value)(w:World):Prop:=∃(B:ze) (m d:Nat) (C:ze) (n e:Nat),v=.tuple #[.agg #[.slice B m d],.agg #[.slice C n e]]/\zp w x B m d/\zp w y C n e
def FI (z:Int)(v:Value)(w:World):Prop:=∃(b:Bool) (A:ze) (n c:Nat),v=.agg #[.bool b,.slice A n c]/\yf w z b A n c
def FQ (r:Rat)(v:Value)(w:World):Prop:=∃(b:Bool) (A:ze) (n c:Nat) (E:ze) (k f:Nat),v=.agg #[.bool b,.slice A n c,.slice E k f]/\zo w r b A n c E k f
def oX (r:Rat)(t:Bool)(v:Value)(w:World):Prop:=∃(b:Bool) (A:ze) (n c:Nat) (E:ze) (k f:Nat),v=.tuple #[.agg #[.bool b,.slice A n c,.slice E k f],.bool t]/\zo w r b A n c E k f
def FV (u v:Value)(w:World):Prop:=v=u
instance {B:TypeId->Array Value->Prop}(u:Value):Kf B (FV u):=⟨λ_ _ _ _ h=>h,λ_ _ _ _ _ _ _ _ _ h=>h⟩
instance (x:Nat):Kf s4 (FN x):=⟨λv w w' hb ⟨B,m,d,e,h⟩=>⟨B,m,d,e,h.below hb⟩,λv w w' g t cs hB hk hf ⟨B,m,d,e,h⟩=>⟨B,m,d,e,uF h hk hB hf⟩⟩
instance (x y:Nat):Kf s4 (ve x y):=⟨λv w w' hb ⟨B,m,d,C,n,f,e,h,h2⟩=>⟨B,m,d,C,n,f,e,h.below hb,h2.below hb⟩,λv w w' g t cs hB hk hf ⟨B,m,d,C,n,f,e,h,h2⟩=>⟨B,m,d,C,n,f,e,uF h hk hB hf,uF h2 hk hB hf⟩⟩
instance (z:Int):Kf s4 (FI z):=⟨λv w w' hb ⟨b,A,n,c,e,h⟩=>⟨b,A,n,c,e,h.below hb⟩,λv w w' g t cs hB hk hf ⟨b,A,n,c,e,h⟩=>⟨b,A,n,c,e,ZE h hk hB hf⟩⟩
instance (r:Rat):Kf s4 (FQ r):=⟨λv w w' hb ⟨b,A,n,c,E,k,f,e,h⟩=>⟨b,A,n,c,E,k,f,e,h.below hb⟩,λv w w' g t cs hB hk hf ⟨b,A,n,c,E,k,f,e,h⟩=>⟨b,A,n,c,E,k,f,e,jS h hk hB hf⟩⟩
instance (r:Rat)(u:Bool):Kf s4 (oX r u):=⟨λv w w' hb ⟨b,A,n,c,E,k,f,e,h⟩=>⟨b,A,n,c,E,k,f,e,h.below hb⟩,λv w w' g t cs hB hk hf ⟨b,A,n,c,E,k,f,e,h⟩=>⟨b,A,n,c,E,k,f,e,jS h hk hB hf⟩⟩
theorem ve.l:∀v w,ve x y v w->∃vs u,v=.tuple vs/\vs[0]?=some u/\FN x u w:=λv w ⟨B,m,d,C,n,f,e,h,h2⟩=>⟨_,_,e,rfl,B,m,d,rfl,h⟩
theorem ve.r:∀v w,ve x y v w->∃vs u,v=.tuple vs/\vs[1]?=some u/\FN y u w:=λv w ⟨B,m,d,C,n,f,e,h,h2⟩=>⟨_,_,e,rfl,C,n,f,rfl,h2⟩
theorem oX.l {r:Rat}{t:Bool}:∀v w,oX r t v w->∃vs u,v=.tuple vs/\vs[0]?=some u/\FQ r u w:=λv w ⟨b,A,n,c,E,k,f,e,h⟩=>⟨_,_,e,rfl,b,A,n,c,E,k,f,rfl,h⟩
theorem oX.r {r:Rat}{t:Bool}:∀v w,oX r t v w->∃vs u,v=.tuple vs/\vs[1]?=some u/\FV (.bool t) u w:=λv w ⟨b,A,n,c,E,k,f,e,h⟩=>⟨_,_,e,rfl,rfl⟩
open Go Go.RowKit Go.Proofs.Tryz
set_option maxHeartbeats 16000000
set_option maxRecDepth 100000
open Go Go.RowKit Go.Proofs.Tryz
set_option maxHeartbeats 16000000
set_option maxRecDepth 100000
open Go Go.RowKit Go.Proofs.Tryz
set_option maxHeartbeats 16000000
set_option maxRecDepth 100000
def Fr (w:World)(A:ze):Prop:=∀ad,A=some ad->w.heap.size<=ad.block
