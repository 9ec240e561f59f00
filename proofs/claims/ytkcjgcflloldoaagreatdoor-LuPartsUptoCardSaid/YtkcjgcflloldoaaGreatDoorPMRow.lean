/- What this claim leans on. -/
import Derived.Test.YtkcjgcflloldoaaGreatDoorPEDetM
set_option linter.unusedVariables false
set_option linter.unusedSimpArgs false
namespace Go.Proofs.YtkcjgcflloldoaaGreatDoor
open Go Go.RowKit Go.Proofs.Tryz
set_option maxHeartbeats 16000000
variable {cs:Array Value}{z:Int}{M:List (List Rat)}{xs:List Rat}{vs:List Value}{K K' a b c g k m n p:Nat}{t:TypeId}{v:Value}{W w w' wr:World}{A B:ze}
section
variable {α:Type}{E:El α}
theorem lw {xs:List α}(h:zZ E w A n c xs)(hk:zh w g t cs)(hs:∀u ∈ cs.toList,∀b,u≠.bool b):0<n->∀ad,A=some ad->ad.block≠g:=λhn a e0 hg=>by
 have hl:=h.len;have h0:0<xs.length:=za;obtain⟨ad,b,B,m,d,F,u,v,e,h1,h2,h3,h4,h5⟩:=h.num 0 _ (qY h0);obtain rfl:a=ad:=by rw [e0] at e;injection e
 have hb:(a.add (0*3)).block=g:=by rw [yw];exact hg
 generalize a.add (0*3)=q at hb h2;obtain⟨bk,off,pr⟩:=q;simp only at hb;subst hb;unfold zh at hk;cases pr with
 |none=>
   rw [show w.cell? ⟨bk,off,none⟩=cs[off]? from cell_of_row w bk off _ t (0,0) hk,<-QR] at h2;exact hs _ (QY h2) b rfl
 |some q=>simp [World.cell?,hk] at h2
theorem cT {xs:List α}(h:zZ E w A n c xs)(hk:zh w g t cs)(hs:∀u ∈ cs.toList,∀b,u≠.bool b)(ho:yl g w w')
  (hE:∀{x:α} {b:Bool} {A:ze} {n c:Nat} {F:ze} {k f:Nat},E w x b A n c F k f->E w' x b A n c F k f):zZ E w' A n c xs:=by
 have a:=lw h hk hs;refine⟨h.len,h.fits,h.most,λi x hi=>?_⟩;have hl:=h.len;have hlt:=(List.getElem?_eq_some_iff.1 hi).1;obtain⟨ad,b,B,m,d,F,u,v,e,h1,h2,h3,h4,h5⟩:=h.num i x hi;have hc:∀j,w'.cell? (ad.add j)=w.cell? (ad.add j):=λj=>ho.2 _ (by rw [yw];exact h1) (by rw [yw];exact a za ad e);exact⟨ad,b,B,m,d,F,u,v,e,qJ h1 ho.1,(hc _).trans h2,(hc _).trans h3,(hc _).trans h4,hE h5⟩
theorem Nq (hs:∀u ∈ cs.toList,xc u):∀u ∈ cs.toList,∀b,u≠.bool b:=λu hu b e=>by
 obtain⟨A,n,c,e2⟩:=hs u hu;rw [e2] at e;cases e
theorem it (hs:∀u ∈ cs.toList,xc u):yb cs:=λq hq k z e9=>by
 obtain⟨A9,n9,c9,e8⟩:=hs q hq;rw [e8] at e9;cases e9
theorem TG (hE:vU E){w w':World}{A:ze}{n c g:Nat}{xs:List α}{t:TypeId}{cs:Array Value}(h:zZ E w A n c xs)(hk:zh w g t cs)(hs:∀u ∈ cs.toList,xc u)(ho:yl g w w'):zZ E w' A n c xs:=
 cT h hk (Nq hs) ho (λh5=>hE.offg h5 hk (it hs) ho)
end
abbrev RP (α:Type):=World->ze->Nat->Nat->List α->Prop
structure tJ {α:Type}(R:RP α):Prop where
 len:∀{w:World} {A:ze} {n c:Nat} {xs:List α},R w A n c xs->xs.length=n
 below:∀{w w':World} {A:ze} {n c:Nat} {xs:List α},R w A n c xs->Below w.heap.size w w'->R w' A n c xs
 offS:∀{w w':World} {A:ze} {n c g:Nat} {xs:List α} {t:TypeId} {cs:Array Value},R w A n c xs->zh w g t cs->(∀u ∈ cs.toList,xc u)->yl g w w'->R w' A n c xs
 nil:∀w:World,R w none 0 0 []
theorem yk {α:Type}{E:El α}(hE:vU E):tJ (zZ E):=⟨λh=>h.len,λh hb=>h.below hE hb,λh hk hs ho=>TG hE h hk hs ho,λw=>zZ.nil w⟩
theorem tJ.grown {α:Type}{R:RP α}(hR:tJ R){w w':World}{v:Value}{A:ze}{n c:Nat}{xs:List α}(h:R w A n c xs)(hg:w.grownBy w' v.ownBlock)(hn:wC w v):R w' A n c xs:=by
 cases hv:v.ownBlock with
 |none=>rw [hv] at hg;exact hR.below h (sU hg)
 |some g=>
   rw [hv] at hg;obtain⟨t,cs,hk,hc⟩:=hn.blk hv;exact hR.offS h hk hc (yl.of_grown hg)
section
variable {α:Type}{R:RP α}
structure xi (R:RP α)(w:World)(A:ze)(n:Nat)(Ls:List (List α)):Prop where
 len:Ls.length=n
 num:∀i L,Ls[i]?=some L->∃(ad:Addr) (B:ze) (d:Nat),A=some ad/\ad.block<w.heap.size/\w.cell? (ad.add i)=some (.slice B L.length d)/\R w B L.length d L
theorem xi.below (hR:tJ R){w w':World}{A:ze}{n:Nat}{Ls:List (List α)}(h:xi R w A n Ls)(hb:Below w.heap.size w w'):xi R w' A n Ls:=
 ⟨h.len,λi L hi=>by
  obtain⟨ad,B,d,e,h1,h2,h3⟩:=h.num i L hi;exact⟨ad,B,d,e,qJ h1 hb.size,zq hb h2,hR.below h3 hb⟩⟩
theorem xi.nil (w:World)(A:ze):xi R w A 0 []:=⟨rfl,λi L hi=>by simp at hi⟩
theorem xi.get (hR:tJ R){w wr:World}{A:ze}{n m:Nat}{Ls:List (List α)}(h:xi R w A n Ls)(hb:Below w.heap.size w wr){i:Nat}(hi:i<n)(hm:(Ls.getD i []).length=m):∃(ad:Addr) (B:ze) (d:Nat),A=some ad/\ad.block<w.heap.size/\wr.cell? (ad.add i)=some (.slice B m d)/\R wr B m d (Ls.getD i []):=by
 have hl:=h.len;obtain⟨ad,B,d,e,h1,h2,h3⟩:=h.num i _ (vi (d:=[]) za);rw [hm] at h2 h3;exact⟨ad,B,d,e,h1,zq hb h2,hR.below h3 hb⟩
theorem xi.off {Ls:List (List α)}(h:xi R w A n Ls)(hf:∀ad,A=some ad->ad.block≠g)(ho:yl g w w')(a:∀{B:ze} {m d:Nat} {L:List α},R w B m d L->R w' B m d L):xi R w' A n Ls:=
 ⟨h.len,λi L hi=>by
  obtain⟨ad,B,d,e,h1,h2,h3⟩:=h.num i L hi;exact⟨ad,B,d,e,qJ h1 ho.1,(ho.2 _ (by rw [yw];exact h1) (by rw [yw];exact hf ad e)).trans h2,a h3⟩⟩
structure wK (R:RP α)(w:World)(t:TypeId)(g n:Nat)(Ls:List (List α)):Prop where
 len:Ls.length=n
 blk:∃cs:Array Value,zh w g t cs/\(∀u ∈ cs.toList,xc u)/\cs.size=n
 num:∀i L,Ls[i]?=some L->∃(B:ze) (d:Nat),w.cell? ⟨g,i,none⟩=some (.slice B L.length d)/\R w B L.length d L
theorem wK.lt {t:TypeId}{Ls:List (List α)}(h:wK R w t g n Ls):g<w.heap.size:=by
 obtain⟨cs,hk,_⟩:=h.blk;exact hk.lt
theorem wK.below (hR:tJ R){w w':World}{t:TypeId}{g n:Nat}{Ls:List (List α)}(h:wK R w t g n Ls)(hb:Below w.heap.size w w'):wK R w' t g n Ls:=by
 refine⟨h.len,?_,λi x hi=>?_⟩
 ·obtain⟨cs,hk,h1,h2⟩:=h.blk;exact⟨cs,zg hb hk,h1,h2⟩
 ·obtain⟨B,d,h1,h2⟩:=h.num i x hi;exact⟨B,d,zq hb h1,hR.below h2 hb⟩
theorem wK.rows {Ls:List (List α)}(h:wK R w t g n Ls):xi R w (some ⟨g,0,none⟩) n Ls:=
 ⟨h.len,λi x hi=>by
  obtain⟨B,d,h1,h2⟩:=h.num i x hi;exact⟨_,B,d,rfl,h.lt,by rw [wu];exact h1,h2⟩⟩
theorem wK.ready {Ls:List (List α)}(h:wK R w t g n Ls){i:Nat}(hi:i<n):∃a:Value,w.cell? ⟨g,i,none⟩=some a/\w.frozen? ⟨g,i,none⟩=false:=by
 obtain⟨cs,hk,h1,h2⟩:=h.blk;have e0:i<cs.size:=za;exact⟨_,(hk.cell _).trans (QU e0),hk.frozen _⟩
theorem wK.set_ (hR:tJ R){w:World}{t:TypeId}{g n m:Nat}{Ls:List (List α)}(h:wK R w t g n Ls){i:Nat}(hi:i<n){L:List α}{B:ze}{d:Nat}(hx:R w B m d L)(hm:L.length=m):
  wK R (w.setCell ⟨g,i,none⟩ (.slice B m d)) t g n (Ls.set i L):=by
 subst hm;obtain⟨cs,hk,h1,h2⟩:=h.blk;have ho:yl g w (w.setCell ⟨g,i,none⟩ (.slice B L.length d)):=yl.of_far ((xg.refl g w).set_ i _);have a:=hk.set_ i (.slice B L.length d);refine⟨by rw [QV];exact h.len,⟨_,a,?_,by simp;exact h2⟩,λj y hj=>?_⟩
 ·intro u hu;rw [QL] at hu;rcases xL hu with hu|rfl
  ·exact h1 u hu
  ·exact⟨_,_,_,rfl⟩
 ·by_cases hij:i=j
  ·subst hij;have hl:=h.len;rw [XY za] at hj;injection hj with hj;subst hj;refine⟨B,d,?_,hR.offS hx hk h1 ho⟩;rw [a.cell,QZ za]
  ·rw [XJ hij] at hj;obtain⟨B',d',c1,c2⟩:=h.num j y hj;refine⟨B',d',?_,hR.offS c2 hk h1 ho⟩;rw [a.cell,qK za,<-hk.cell];exact c1
def gE:Array Value:=#[.slice none 0 0]
theorem o5 (n:Nat):∀u ∈(madeCells gE n).toList,xc u:=by
 intro v hv;rw [YZ,Array.mem_iff_getElem?] at hv;obtain⟨j,hj⟩:=hv;have a:j<n:=by
  have:=(Array.getElem?_eq_some_iff.1 hj).1;rwa [size_madeCells] at this
 rw [jf _ _ _ a,show gE.size=1 from rfl,XU] at hj;simp [gE] at hj;exact⟨_,_,_,hj.symm⟩
theorem wK.made (hR:tJ R)(w:World)(t:TypeId)(n:Nat):wK R (w.alloc (.cells (madeCells gE n) t)) t w.heap.size n (List.replicate n []):=by
 have hk:=zh.new w t (madeCells gE n);refine⟨zG,⟨_,hk,o5 _,size_madeCells _ _⟩,λi x hi=>?_⟩;have a:i<n:=by
  have:=(List.getElem?_eq_some_iff.1 hi).1;simpa using this
 obtain rfl:[]=x:=by
  rw [List.getElem?_replicate,if_pos a] at hi;injection hi
 refine⟨none,0,?_,hR.nil _⟩;rw [hk.cell,jf _ _ _ a,show gE.size=1 from rfl,XU];rfl
structure xe (R:RP α)(w:World)(base:Nat)(t:TypeId)(v:Value)(Ls:List (List α))(vs:List Value):Prop where
 own:w.ownsRow base t 1 v Ls.length vs
 sl:wC w v
 num:∀(i:Nat) (L:List α),Ls[i]?=some L->∃(B:ze) (d:Nat),vs[i]?=some (Value.slice B L.length d)/\R w B L.length d L
theorem xe.nil (w:World)(a:Nat)(t:TypeId):xe R w a t (.slice none 0 0) [] []:=⟨xJ _ _ _ _,wC.nil _ _,λi L hi=>by simp at hi⟩
theorem xe.len {Ls:List (List α)}(h:xe R w a t v Ls vs):vs.length=Ls.length:=by have:=h.own.1;omega
theorem xe.shape {n:Nat}{Ls:List (List α)}(h:xe R w a t v Ls vs)(hn:Ls.length=n):∃A c,v=.slice A n c/\n<=c/\c<=9223372036854775807/\xi R w A n Ls/\∀ad,A=some ad->a<=ad.block:=by
 subst hn;rcases h.own.2 with⟨rfl,h0⟩|⟨g,cap,cur,rfl,hbg,hg,hnc,hcm,hcs,htake⟩
 ·have hx:Ls=[]:=QX h0;subst hx;exact⟨none,0,rfl,qX _,zf,xi.nil w none,λad e=>by cases e⟩
 ·have j:=h.own.cells (g:=g) rfl;refine⟨some ⟨g,0,none⟩,cap,rfl,hnc,by unfold maxLen at hcm;omega,⟨rfl,λi L hi=>?_⟩,λad e=>by injection e with e;subst e;exact hbg⟩;obtain⟨B,d,hv,hw⟩:=h.num i L hi;exact⟨_,B,d,rfl,(Array.getElem?_eq_some_iff.1 hg).1,j _ _ hv,hw⟩
theorem xe.below (hR:tJ R){w w':World}{a:Nat}{t:TypeId}{v:Value}{Ls:List (List α)}{vs:List Value}(h:xe R w a t v Ls vs)(hb:Below w.heap.size w w'):xe R w' a t v Ls vs:=by
 refine⟨⟨h.own.1,?_⟩,h.sl.below hb,λi L hi=>?_⟩
 ·rcases h.own.2 with h1|⟨g,cap,cur,e1,e2,e3,e4⟩
  ·exact .inl h1
  ·exact .inr ⟨g,cap,cur,e1,e2,(hb.block g (zh.lt (t:=t) (cs:=cur) e3)).trans e3,e4⟩
 ·obtain⟨B,d,hv,hw⟩:=h.num i L hi;exact⟨B,d,hv,hR.below hw hb⟩
theorem xe.grow (hR:tJ R){w w':World}{a n m:Nat}{t:TypeId}{v v':Value}{Ls:List (List α)}{vs:List Value}{L:List α}{B:ze}{d:Nat}(h:xe R w a t v Ls vs)(hx:R w B m d L)(hm:L.length=m)
  (ho:w'.ownsRow a t 1 v' n (vs++[.slice B m d])) (hn:n=Ls.length+1) (hg:w.grownBy w' v.ownBlock) (hs:wC w' v'):xe R w' a t v' (Ls++[L]) (vs++[.slice B m d]):=by
 subst hm;have hl:=h.len;refine⟨by rw [qT,yI,<-hn];exact ho,hs,λi M hi=>?_⟩;by_cases hlt:i<Ls.length
 ·rw [QH hlt] at hi;obtain⟨C,e,hv,hw⟩:=h.num i M hi;exact⟨C,e,by rw [QH za];exact hv,hR.grown hw hg h.sl⟩
 ·rw [QJ za] at hi;have c:i=Ls.length:=by
   have:=(List.getElem?_eq_some_iff.1 hi).1;simp at this;omega
  subst c;obtain rfl:L=M:=by
   rw [XG] at hi;injection hi
  exact⟨B,d,by rw [QJ za,hl,XG];rfl,hR.grown hx hg h.sl⟩
theorem UC (hR:tJ R){w:World}{g:Nat}{t:TypeId}{A B:ze}{n m c d:Nat}{xs ys:List α}(h:zh w g t #[.slice A n c,.slice B m d])(h1:R w A n c xs)(h2:R w B m d ys):xi R w (some ⟨g,0,none⟩) 2 [xs,ys]:=by
 refine⟨rfl,λi L hi=>?_⟩;have a:=hR.len h1;have j:=hR.len h2
 match i,hi with
 |0,hi=>
   obtain rfl:xs=L:=by simpa using hi
   rw [a];exact⟨_,A,c,rfl,h.lt,by rw [wu];exact h.cell 0,h1⟩
 |1,hi=>
   obtain rfl:ys=L:=by simpa using hi
   rw [j];exact⟨_,B,d,rfl,h.lt,by rw [wu];exact h.cell 1,h2⟩
 |i+2,hi=>simp at hi
end
theorem U3 (n:Nat)(hn:n<=1099511627776):∃Z:Array Value,∀W:World,(Instr.makeSlice 26 (.int .i64 (n:Int)) (.int .i64 (n:Int))).run prog W=.ok (.slice (some ⟨W.heap.size,0,none⟩) n n) (W.alloc (.cells Z 58))/\wK (zZ zp) (W.alloc (.cells Z 58)) 58 W.heap.size n (List.replicate n []):=by
 obtain⟨i0,a,c,d,g⟩:=info_parts bA;refine⟨madeCells gE n,λW=>⟨?_,wK.made (yk yt) W _ n⟩⟩;have h:=sV (P:=prog) _ _ i0 _ underlying26 a c .i64 .i64 n n (qX _) (by rw [g];omega) za W;rw [d,xS] at h;exact h
theorem lY {P:Program}(w:World){o:Oper}{a:Act}{K:Act->World->Prop}{Q:Exit->Act->World->Prop}(s x:Operand)(t:TypeId)
  (ho:o.op=.call {callee:=.builtin .append,args:=#[s,x],argTypes:=#[t,t]})
  (g:Nat) (e:TypeId) (i:TypeInfo) (z:Value) (size bytes:Nat) (ht:P.underlying t=some (.slice e)) (hi:P.info? e=some i) (hz:i.zero=some z)
  (B:i.size=size) (E:i.bytes=bytes) (H:z.cells.size=size) (hsz:0<size)
  (v:Value) (n:Nat) (xs:List Value) (hs:a.eval s=v) (C:w.ownsRow g e size v n xs)
  (ad:Addr) (m c:Nat) (d:List Value) (hx:a.eval x=.slice (some ad) m c) (hl:d.length=m*size) (A:∀j u,d[j]?=some u->w.cell? (ad.add j)=some u) (h1:∀u ∈ d,u.oneCell'=true)
  (D:n+m<=maxLen) (k:(n+m)*bytes<=140737488355328) (y:g<=w.heap.size)
  (hv:wC w v) (G:∀u ∈ z.cells.toList,xc u) (F:∀u ∈ d,xc u)
  (h:∀v' w',w'.ownsRow g e size v' (n+m) (xs++d)->w.grownBy w' v.ownBlock->(v'.ownBlock=v.ownBlock\/v'.ownBlock=some w.heap.size)->wC w' v'->K (a.put o.dst v') w'):Oper.wp P o a w K Q:=by
 obtain⟨v',w',hr,h2,h3,h4,h5⟩:=Vg (P:=P) w g t o.type e i z size bytes ht hi hz B E H hsz v n xs C ad m c d hl A h1 D k y hv G F;unfold Oper.wp execOp;simp only [ho,resolve,invoke,builtin,Sem.run_bind,Sem.run_pure,Result.andThen_ok,YQ,yV,List.map_nil,hs,hx,hr];exact h v' w' h2 h3 h4 h5
set_option maxRecDepth 100000
def tT (k:IntKind)(cs:Array Value):Prop:=∀v ∈ cs.toList,∀z,v≠.int k z
theorem Nj {k:IntKind}{l:List Nat}(h:zL w w.heap.size 1 A n (zt k l))(hk:zh w g t cs)(a:tT k cs):0<n->∀ad,A=some ad->ad.block≠g:=λhn ad e hg=>by
 have hl:=h.len_;obtain⟨ad',e',_,hc⟩:=h.2 hn;rw [e] at e';injection e' with e';subst e';have h0:=hc 0 (.int k (l.getD 0 0:Nat)) (kj k _ 0 za);have e0:ad.add 0=ad:=by unfold Addr.add;rw [if_pos rfl]
 rw [e0] at h0;obtain⟨bk,off,pr⟩:=ad;simp only at hg;subst hg;unfold zh at hk;cases pr with
 |none=>
   rw [show w.cell? ⟨bk,off,none⟩=cs[off]? from cell_of_row w bk off _ t (0,0) hk,<-QR] at h0;exact a _ (QY h0) _ rfl
 |some q=>simp [World.cell?,hk] at h0
theorem V4 {x:Nat}(h:zo w x A n c)(hk:zh w g t cs)(a:tT .u64 cs)(ho:yl g w w'):zo w' x A n c:=by
 have d:=Nj h.1 hk a;refine⟨⟨h.1.1,λhn=>?_⟩,h.2⟩;obtain⟨ad,e,hb,hc⟩:=h.1.2 hn;refine⟨ad,e,qJ hb ho.1,λj v hv=>?_⟩;rw [ho.2 (ad.add j) (by rw [yw];exact hb) (by rw [yw];exact d hn ad e)];exact hc j v hv
theorem vM (hk:zh w g t cs)(a:tT .u64 cs)(ho:yl g w w'){r:Rat}{b:Bool}{A:ze}{n c:Nat}{E:ze}{k f:Nat}(h:zp w r b A n c E k f):zp w' r b A n c E k f:=by
 obtain⟨⟨h1,h2⟩,x,e,h3⟩:=h;exact⟨⟨h1,V4 h2 hk a ho⟩,x,e,V4 h3 hk a ho⟩
theorem Wr (A:ze)(n c:Nat)(z:Int):tT .u64 #[.slice A n c,.int .i64 z]:=by intro v hv z9 e;simp at hv;rcases hv with rfl|rfl<;>cases e
theorem sS (A:ze)(n c:Nat)(z:Int):∀u ∈(#[.slice A n c,.int .i64 z]:Array Value).toList,∀b,u≠.bool b:=by intro v hv b e;simp at hv;rcases hv with rfl|rfl<;>cases e
theorem Xy (h:z7 w A n c xs)(hk:zh w g t cs)(hs:∀u ∈ cs.toList,∀b,u≠.bool b)(a:tT .u64 cs)(ho:yl g w w'):z7 w' A n c xs:=
 cT h hk hs ho (λh5=>vM hk a ho h5)
def sm (w:World)(b:Nat)(t:TypeId):Prop:=∃cs,zh w b t cs
theorem sm.below (h:sm w b t)(hb:Below w.heap.size w w'):sm w' b t:=by
 obtain⟨cs,hk⟩:=h;exact⟨cs,zg hb hk⟩
theorem sm.set_ (h:sm w b t)(g i:Nat)(v:Value):sm (w.setCell ⟨g,i,none⟩ v) b t:=by
 obtain⟨cs,hk⟩:=h;by_cases hg:b=g
 ·subst hg;exact⟨_,hk.set_ i v⟩
 ·exact⟨cs,zh.far (p:=⟨g,i,none⟩) hk hg v⟩
theorem sm.ne {s:TypeId}(h:sm w b t)(hk:zh w g s cs)(hn:t≠s):b≠g:=λe=>by
 obtain⟨ds,hd⟩:=h;subst e;unfold zh at hd hk;rw [hd] at hk;injection hk with hk;injection hk with _ hk;exact hn hk
structure wG (w:World)(A:ze)(n c m:Nat)(M:List (List Rat)):Prop where
 dims:zQ M n m
 fits:n<=c
 most:c<=9223372036854775807
 hn:n<=64
 hm:m<=64
 rows:xi (zZ zp) w A n M
 ty:∀ad,A=some ad->sm w ad.block 58
theorem wG.keep {w':World}(h:wG w A n c m M)(hb:Below w.heap.size w w'):wG w' A n c m M:={h with rows:=h.rows.below (yk yt) hb,ty:=λad e=>(h.ty ad e).below hb}
theorem wG.nil (w:World):wG w none 0 0 0 []:=⟨Ty 0,qX _,zf,zf,zf,xi.nil w none,λad e=>by cases e⟩
theorem wG.offz {q:Nat}(h:wG w A n c m M)(hk:zh w g t #[.slice B p q,.int .i64 z])(x y:Value)(ht:58≠t:=by decide):wG ((w.setCell ⟨g,0,none⟩ x).setCell ⟨g,1,none⟩ y) A n c m M:=
 { h with
  rows:=h.rows.off (λad e=>(h.ty ad e).ne hk ht) (yl.of_far (tO _ _ _ _)) (λh3=>Xy h3 hk (sS _ _ _ _) (Wr _ _ _ _) (yl.of_far (tO _ _ _ _)))
  ty:=λad e=>((h.ty ad e).set_ _ _ _).set_ _ _ _}
theorem z7.offz {q:Nat}(h:z7 w A n c xs)(hk:zh w g t #[.slice B p q,.int .i64 z])(x y:Value):z7 ((w.setCell ⟨g,0,none⟩ x).setCell ⟨g,1,none⟩ y) A n c xs:=
 Xy h hk (sS _ _ _ _) (Wr _ _ _ _) (yl.of_far (tO _ _ _ _))
theorem wG.row (h:wG w A n c m M)(hb:Below w.heap.size w wr){i:Nat}(hi:i<n):∃(ad:Addr) (B:ze) (d:Nat),A=some ad/\ad.block<w.heap.size/\wr.cell? (ad.add i)=some (.slice B m d)/\z7 wr B m d (M.getD i []):=
 h.rows.get (yk yt) hb hi (h.dims.row hi)
theorem wG.place (h:wG w A n c m M)(hb:Below w.heap.size w wr){i j:Nat}(hi:i<n)(hj:j<m):∃(ad:Addr) (B:ze) (d:Nat),A=some ad/\ad.block<w.heap.size/\wr.cell? (ad.add i)=some (.slice B m d)/\
  ∃(ae:Addr) (b1:Bool) (B1:ze) (m1 d1:Nat) (E1:ze) (u1 v1:Nat),B=some ae/\ae.block<wr.heap.size/\wr.cell? (ae.add (j*3))=some (.bool b1)/\wr.cell? ⟨(ae.add (j*3)).block,(ae.add (j*3)).off+1,none⟩=some (.slice B1 m1 d1)/\wr.cell? ⟨(ae.add (j*3)).block,(ae.add (j*3)).off+2,none⟩=some (.slice E1 u1 v1)/\zp wr (zn M i j) b1 B1 m1 d1 E1 u1 v1:=by
 obtain⟨ad,B,d,e,h1,h2,h3⟩:=h.row hb hi;obtain⟨ae,b1,B1,m1,d1,E1,u1,v1,e4,h4,h5,h6,h7,h8⟩:=h3.get (qZ _ _) hj;exact⟨ad,B,d,e,h1,h2,ae,b1,B1,m1,d1,E1,u1,v1,e4,h4,h5,h6,h7,h8⟩
def yc (K:Nat)(M:List (List Rat)):Prop:=∀L ∈ M,zN K L
theorem yc.up (h:yc K M)(e:K<=K'):yc K' M:=λL hL=>(h L hL).up e
theorem yc.row {i:Nat}(h:yc K M)(hi:i<M.length):zN K (M.getD i []):=h _ (QY (vi hi))
theorem yc.at_ {n i j:Nat}(h:yc K M)(hd:zQ M n m)(hi:i<n)(hj:j<m):zm K (zn M i j):=by
 have hl:=hd.rows;have hr:=hd.row hi;exact(h.row (i:=i) za).at_ za
theorem yc.nil (K:Nat):yc K []:=λL hL=>by cases hL
theorem yc.tab {f:Nat->Nat->Rat}(h:∀r c,r<n->c<m->zm K (f r c)):yc K (wF n m f):=λL hL x hx=>by
 unfold wF at hL;obtain⟨r,hr,rfl⟩:=List.mem_map.1 hL;obtain⟨c,hc,rfl⟩:=List.mem_map.1 hx;exact h r c (List.mem_range.1 hr) (List.mem_range.1 hc)
theorem yc.turn (h:yc K M)(hd:zQ M n m):yc K (tj n m M):=yc.tab λr c hr hc=>h.at_ hd hc hr
theorem yc.col (h:yc K M)(hd:zQ M n m)(hc:c<m):zN K (uR n M c):=λx hx=>by
 unfold uR at hx;obtain⟨r,hr,rfl⟩:=List.mem_map.1 hx;exact h.at_ hd (List.mem_range.1 hr) hc
theorem yc.mul {A B:List (List Rat)}(hA:yc K A)(hB:yc K' B)(dA:zQ A n k)(dB:zQ B k m):yc (1+k*(K+K'+1)) (ZP n k m A B):=yc.tab λr c hr hc=>by
 have hl:=dA.rows;exact ql (dA.row hr) (cR k B c) (hA.row za) (hB.col dB hc)
def sW (w:World)(n m:Nat)(M:List (List Rat))(e:Ending)(w':World):Prop:=∃(A:ze) (c:Nat),e=.returned (.agg #[.slice A n c,.int .i64 (m:Int)])/\wG w' A n c m M/\(∀ad,A=some ad->w.heap.size<=ad.block)/\Below w.heap.size w w'
def Yn (w:World)(n m:Nat)(M:List (List Rat))(e:Ending)(w':World):Prop:=∃(A:ze) (c:Nat),e=.returned (.tuple #[.agg #[.slice A n c,.int .i64 (m:Int)],.bool true])/\wG w' A n c m M/\(∀ad,A=some ad->w.heap.size<=ad.block)/\Below w.heap.size w w'
theorem fT {q:Nat}(h:wG W A n c m M)(hf:∀ad,A=some ad->g<ad.block)(k:zh W g 28 #[.slice B p q,.int .i64 z])(hB:Below w.heap.size w W)(hg:w.heap.size<=g):
  sW w n m M (.returned (.agg #[.slice A n c,.int .i64 (m:Int)])) ((W.setCell ⟨g,0,none⟩ (.slice A n c)).setCell ⟨g,1,none⟩ (.int .i64 (m:Int))):=
 ⟨A,c,rfl,h.offz k _ _,λad e=>by have:=hf ad e;omega,nS _ _ hg hB⟩
theorem fU {q:Nat}(h:wG W A n c m M)(hf:∀ad,A=some ad->g<ad.block)(k:zh W g 28 #[.slice B p q,.int .i64 z])(hB:Below w.heap.size w W)(hg:w.heap.size<=g):
  Yn w n m M (.returned (.tuple #[.agg #[.slice A n c,.int .i64 (m:Int)],.bool true])) ((W.setCell ⟨g,0,none⟩ (.slice A n c)).setCell ⟨g,1,none⟩ (.int .i64 (m:Int))):=
 ⟨A,c,rfl,h.offz k _ _,λad e=>by have:=hf ad e;omega,nS _ _ hg hB⟩
theorem cE (A:ze)(n c:Nat)(z:Int)(w:World):Calls prog 13 #[.agg #[.slice A n c,.int .i64 z]] w (λe w'=>e=.returned (.int .i64 (n:Int))/\Below w.heap.size w w'):=by
 obtain⟨a,d,bz⟩:=zw w 28 #[.slice A n c,.int .i64 z];obtain⟨g0,g1⟩:=d.c2;have HB:=zb a;clear a d bz;go_enter func13,ntmps13;go_wp2;go_ret;exact⟨rfl,HB.o⟩
theorem TX (A:ze)(n c:Nat)(z:Int)(w:World):Calls prog 35 #[.agg #[.slice A n c,.int .i64 z]] w (λe w'=>e=.returned (.int .i64 z)/\Below w.heap.size w w'):=by
 obtain⟨a,d,bz⟩:=zw w 28 #[.slice A n c,.int .i64 z];obtain⟨g0,g1⟩:=d.c2;have HB:=zb a;clear a d bz;go_enter func35,ntmps35;go_wp2;go_ret;exact⟨rfl,HB.o⟩
def rn (r c:Int):Bool:=decide (0<=r)&&decide (r<=64)&&decide (0<=c)&&decide (c<=64)
theorem TZ (hn:n<=64)(hm:m<=64):rn (n:Int) (m:Int)=true:=by
 unfold rn;rw [decide_eq_true (show(0:Int)<=(n:Int) by omega),decide_eq_true (show(n:Int)<=64 by omega),decide_eq_true (show(0:Int)<=(m:Int) by omega),decide_eq_true (show(m:Int)<=64 by omega)];rfl
theorem mR (r c:Int)(w:World):Calls prog 68 #[.int .i64 r,.int .i64 c] w (λe w'=>e=.returned (.bool (rn r c))/\w=w'):=by
 by_cases h1:0<=r
 ·have d1:decide (0<=r)=true:=decide_eq_true h1;by_cases h2:r<=64
  ·have d2:decide (r<=64)=true:=decide_eq_true h2;by_cases h3:0<=c
   ·have d3:decide (0<=c)=true:=decide_eq_true h3;obtain⟨b,d4⟩:∃b,decide (c<=64)=b:=⟨_,rfl⟩;have e:rn r c=b:=by unfold rn;rw [d1,d2,d3,d4];rfl
    rw [e];clear h1 h2 h3 e;go_enter func68,ntmps68;go_wp2;go_ret;exact⟨rfl,rfl⟩
   ·have d3:decide (0<=c)=false:=decide_eq_false h3;have e:rn r c=false:=by unfold rn;rw [d1,d2,d3];rfl
    rw [e];clear h1 h2 h3 e;go_enter func68,ntmps68;go_wp2;go_ret;exact⟨rfl,rfl⟩
  ·have d2:decide (r<=64)=false:=decide_eq_false h2;have e:rn r c=false:=by unfold rn;rw [d1,d2];rfl
   rw [e];clear h1 h2 e;go_enter func68,ntmps68;go_wp2;go_ret;exact⟨rfl,rfl⟩
 ·have d1:decide (0<=r)=false:=decide_eq_false h1;have e:rn r c=false:=by unfold rn;rw [d1];rfl
  rw [e];clear h1 e;go_enter func68,ntmps68;go_wp2;go_ret;exact⟨rfl,rfl⟩
def kT (r:Int)(n:Nat):Bool:=decide (0<=r)&&decide (r<(n:Int))
theorem mt (h:k<n):kT (k:Int) n=true:=by
 unfold kT;rw [decide_eq_true (show(0:Int)<=(k:Int) by omega),decide_eq_true (show(k:Int)<(n:Int) by omega)];rfl
theorem PC (A:ze)(n c:Nat)(z r:Int)(w:World):Calls prog 52 #[.agg #[.slice A n c,.int .i64 z],.int .i64 r] w (λe w'=>e=.returned (.bool (kT r n))/\Below w.heap.size w w'):=by
 obtain⟨a,d,bz⟩:=zw w 28 #[.slice A n c,.int .i64 z];obtain⟨g0,g1⟩:=d.c2;have HB:=zb a;clear a d bz;by_cases h1:0<=r
 ·have d1:decide (0<=r)=true:=decide_eq_true h1;obtain⟨b,d4⟩:∃b,decide (r<(n:Int))=b:=⟨_,rfl⟩;have e:kT r n=b:=by unfold kT;rw [d1,d4];rfl
  rw [e];clear h1 e;have H:=λW=>zb (cE A n c z W);go_enter func52,ntmps52;go_wp2_with fail;refine(H _).o.mono ?_;rintro e w1 ⟨rfl,hb⟩;have g:=zb (zc HB.o hb);clear hb;go_wp2;go_ret;exact⟨rfl,g.o⟩
 ·have d1:decide (0<=r)=false:=decide_eq_false h1;have e:kT r n=false:=by unfold kT;rw [d1];rfl
  rw [e];clear h1 e;go_enter func52,ntmps52;go_wp2;go_ret;exact⟨rfl,HB.o⟩
