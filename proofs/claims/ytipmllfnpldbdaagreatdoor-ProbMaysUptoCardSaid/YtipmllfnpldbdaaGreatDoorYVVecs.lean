/- What this claim leans on. -/
import Derived.Test.YtipmllfnpldbdaaGreatDoorYVAdd
set_option linter.unusedVariables false
set_option linter.unusedSimpArgs false
namespace Go.Proofs.YtipmllfnpldbdaaGreatDoor
open Go Go.RowKit Go.Proofs.Tryz
set_option maxHeartbeats 16000000
variable {cs:Array Value}{Ls:List (List Rat)}{xs:List Rat}{vs:List Value}{a c g:Nat}{t:TypeId}{v:Value}{w w':World}{A:zf}
def ws (u:Value):Prop:=∃A n c,u=.slice A n c
def wP (w:World)(v:Value):Prop:=∀g,v.ownBlock=some g->∃(cur:Array Value) (e:TypeId),w.heap[g]?=some (.cells cur e (0,0))/\∀u ∈ cur.toList,ws u
theorem wP.nil (w:World)(c:Nat):wP w (.slice none 0 c):=λg h=>by simp [Value.ownBlock] at h
theorem wP.block (h:wP w v)(hg:∀g,v.ownBlock=some g->w'.heap[g]?=w.heap[g]?):wP w' v:=λg e=>by
 obtain⟨a,t,h1,h2⟩:=h g e;exact⟨a,t,(hg g e).trans h1,h2⟩
theorem wP.below (h:wP w v)(hb:Below w.heap.size w w'):wP w' v:=λg e=>by
 obtain⟨a,t,h1,h2⟩:=h g e;exact⟨a,t,(hb.block g (Array.getElem?_eq_some_iff.1 h1).1).trans h1,h2⟩
section
variable {P:Program}(w:World)
end
theorem wP.blk (h:wP w v)(hg:v.ownBlock=some g):∃(t:TypeId) (cs:Array Value),zi w g t cs/\∀u ∈ cs.toList,ws u:=by
 obtain⟨a,e,h1,h2⟩:=h g hg;exact⟨e,a,h1,h2⟩
theorem sR {n:Nat}(h:zF w A n c xs)(hk:zi w g t cs)(hs:∀u ∈ cs.toList,ws u)(ho:zY g w w'):zF w' A n c xs:=by
 refine⟨h.len,h.fits,h.most,λi x hi=>?_⟩;obtain⟨ad,b,B,m,d,F,u,v,e,h1,h2,h3,h4,h5⟩:=h.num i x hi;have a:ad.block≠g:=λhg=>by
  have hb:(ad.add (i*3)).block=g:=by rw [y9];exact hg
  generalize ad.add (i*3)=q at hb h2;obtain⟨bk,off,pr⟩:=q;simp only at hb;subst hb;unfold zi at hk;cases pr with
  |none=>
    rw [show w.cell? ⟨bk,off,none⟩=cs[off]? from cell_of_row w bk off _ t (0,0) hk,<-QP] at h2;obtain⟨A9,n9,c9,e9⟩:=hs _ (QN h2);cases e9
  |some q=>simp [World.cell?,hk] at h2
 have y:yd cs:=λq hq k z e9=>by
  obtain⟨A9,n9,c9,e8⟩:=hs q hq;rw [e8] at e9;cases e9
 have hc:∀j,w'.cell? (ad.add j)=w.cell? (ad.add j):=λj=>ho.2 _ (by rw [y9];exact h1) (by rw [y9];exact a);exact⟨ad,b,B,m,d,F,u,v,e,qJ h1 ho.1,(hc _).trans h2,(hc _).trans h3,(hc _).trans h4,y6.offg h5 hk y ho⟩
theorem cS {n:Nat}(h:zF w A n c xs)(hg:w.grownBy w' v.ownBlock)(hn:wP w v):zF w' A n c xs:=by
 cases hv:v.ownBlock with
 |none=>rw [hv] at hg;exact h.keep (mw hg)
 |some g=>
   rw [hv] at hg;obtain⟨t,cs,hk,hc⟩:=hn.blk hv;exact sR h hk hc (zY.of_grown hg)
structure uz (w:World)(base:Nat)(v:Value)(Ls:List (List Rat))(vs:List Value):Prop where
 own:w.ownsRow base 32 1 v Ls.length vs
 sl:wP w v
 num:∀(i:Nat) (L:List Rat),Ls[i]?=some L->∃(B:zf) (d:Nat),vs[i]?=some (Value.slice B L.length d)/\zF w B L.length d L
theorem uz.nil (w:World)(a:Nat):uz w a (.slice none 0 0) [] []:=⟨XH _ _ _ _,wP.nil _ _,λi L hi=>by simp at hi⟩
theorem uz.len (h:uz w a v Ls vs):vs.length=Ls.length:=by have:=h.own.1;omega
theorem uz.shape {n:Nat}(h:uz w a v Ls vs)(hn:Ls.length=n):∃A c,v=.slice A n c/\mU w A n Ls:=by
 subst hn;obtain⟨A,c,e,h1,h2,h3⟩:=zE.of_grown_own h.own;refine⟨A,c,e,rfl,λi L hi=>?_⟩;obtain⟨B,d,hv,hw⟩:=h.num i L hi;have hlt:=(List.getElem?_eq_some_iff.1 hi).1;obtain⟨ad,ea,hb,hc⟩:=h3.2 za;exact⟨ad,B,d,ea,hb,hc i _ hv,hw⟩
theorem uz.below (h:uz w a v Ls vs)(hb:Below w.heap.size w w'):uz w' a v Ls vs:=by
 refine⟨⟨h.own.1,?_⟩,h.sl.below hb,λi L hi=>?_⟩
 ·rcases h.own.2 with h1|⟨g,cap,cur,e1,e2,e3,e4⟩
  ·exact .inl h1
  ·exact .inr ⟨g,cap,cur,e1,e2,(hb.block g (zi.lt (t:=32) (cs:=cur) e3)).trans e3,e4⟩
 ·obtain⟨B,d,hv,hw⟩:=h.num i L hi;exact⟨B,d,hv,hw.keep hb⟩
theorem uz.grow {n:Nat}{v':Value}{L:List Rat}{B:zf}{d:Nat}(h:uz w a v Ls vs)(hx:zF w B L.length d L)
  (ho:w'.ownsRow a 32 1 v' n (vs++[.slice B L.length d])) (hn:n=Ls.length+1) (hg:w.grownBy w' v.ownBlock) (hs:wP w' v'):uz w' a v' (Ls++[L]) (vs++[.slice B L.length d]):=by
 have hl:=h.len;refine⟨by rw [qA,XS,<-hn];exact ho,hs,λi M hi=>?_⟩;by_cases hlt:i<Ls.length
 ·rw [qO hlt] at hi;obtain⟨C,e,hv,hw⟩:=h.num i M hi;exact⟨C,e,by rw [qO za];exact hv,cS hw hg h.sl⟩
 ·rw [qD za] at hi;have g:i=Ls.length:=by
   have:=(List.getElem?_eq_some_iff.1 hi).1;simp at this;omega
  subst g;obtain rfl:L=M:=by
   rw [xW] at hi;injection hi
  exact⟨B,d,by rw [qD za,hl,xW];rfl,cS hx hg h.sl⟩
theorem Zb:(prog.info? 32).map (λi=>(i.zero,i.size,i.bytes))=some (some (.slice none 0 0),1,24):=zm
theorem mU.get {n:Nat}(h:mU w A n Ls){i m:Nat}(hi:i<n)(hm:(Ls.getD i []).length=m):∃(ad:Addr) (B:zf) (d:Nat),A=some ad/\w.cell? (ad.add i)=some (.slice B m d)/\zF w B m d (Ls.getD i []):=by
 have hl:=h.len;obtain⟨ad,B,d,e,_,h1,h2⟩:=h.num i _ (nV (d:=[]) za);rw [hm] at h1 h2;exact⟨ad,B,d,e,h1,h2⟩
section
variable {α:Type}{E:El α}
theorem pI {n:Nat}{xs:List α}(h:yf E w A n c xs)(hk:zi w g t cs)(hs:∀u ∈ cs.toList,∀b,u≠.bool b):0<n->∀ad,A=some ad->ad.block≠g:=λhn a e0 hg=>by
 have hl:=h.len;have h0:0<xs.length:=za;obtain⟨ad,b,B,m,d,F,u,v,e,h1,h2,h3,h4,h5⟩:=h.num 0 _ (qZ h0);obtain rfl:a=ad:=by rw [e0] at e;injection e
 have hb:(a.add (0*3)).block=g:=by rw [y9];exact hg
 generalize a.add (0*3)=q at hb h2;obtain⟨bk,off,pr⟩:=q;simp only at hb;subst hb;unfold zi at hk;cases pr with
 |none=>
   rw [show w.cell? ⟨bk,off,none⟩=cs[off]? from cell_of_row w bk off _ t (0,0) hk,<-QP] at h2;exact hs _ (QN h2) b rfl
 |some q=>simp [World.cell?,hk] at h2
theorem aJ {n:Nat}{xs:List α}(h:yf E w A n c xs)(hk:zi w g t cs)(hs:∀u ∈ cs.toList,∀b,u≠.bool b)(ho:zY g w w')
  (hE:∀{x:α} {b:Bool} {A:zf} {n c:Nat} {F:zf} {k f:Nat},E w x b A n c F k f->E w' x b A n c F k f):yf E w' A n c xs:=by
 have a:=pI h hk hs;refine⟨h.len,h.fits,h.most,λi x hi=>?_⟩;have hl:=h.len;have hlt:=(List.getElem?_eq_some_iff.1 hi).1;obtain⟨ad,b,B,m,d,F,u,v,e,h1,h2,h3,h4,h5⟩:=h.num i x hi;have hc:∀j,w'.cell? (ad.add j)=w.cell? (ad.add j):=λj=>ho.2 _ (by rw [y9];exact h1) (by rw [y9];exact a za ad e);exact⟨ad,b,B,m,d,F,u,v,e,qJ h1 ho.1,(hc _).trans h2,(hc _).trans h3,(hc _).trans h4,hE h5⟩
theorem VU (hs:∀u ∈ cs.toList,ws u):∀u ∈ cs.toList,∀b,u≠.bool b:=λu hu b e=>by
 obtain⟨A,n,c,e2⟩:=hs u hu;rw [e2] at e;cases e
theorem sJ (hs:∀u ∈ cs.toList,ws u):yd cs:=λq hq k z e9=>by
 obtain⟨A9,n9,c9,e8⟩:=hs q hq;rw [e8] at e9;cases e9
theorem iO (hE:sZ E){w w':World}{A:zf}{n c g:Nat}{xs:List α}{t:TypeId}{cs:Array Value}(h:yf E w A n c xs)(hk:zi w g t cs)(hs:∀u ∈ cs.toList,ws u)(ho:zY g w w'):yf E w' A n c xs:=
 aJ h hk (VU hs) ho (λh5=>hE.offg h5 hk (sJ hs) ho)
end
abbrev RP (α:Type):=World->zf->Nat->Nat->List α->Prop
structure rf {α:Type}(R:RP α):Prop where
 len:∀{w:World} {A:zf} {n c:Nat} {xs:List α},R w A n c xs->xs.length=n
 below:∀{w w':World} {A:zf} {n c:Nat} {xs:List α},R w A n c xs->Below w.heap.size w w'->R w' A n c xs
 offS:∀{w w':World} {A:zf} {n c g:Nat} {xs:List α} {t:TypeId} {cs:Array Value},R w A n c xs->zi w g t cs->(∀u ∈ cs.toList,ws u)->zY g w w'->R w' A n c xs
 nil:∀w:World,R w none 0 0 []
theorem vK {α:Type}{E:El α}(hE:sZ E):rf (yf E):=⟨λh=>h.len,λh hb=>h.below hE hb,λh hk hs ho=>iO hE h hk hs ho,λw=>yf.nil w⟩
theorem rf.grown {α:Type}{R:RP α}(hR:rf R){w w':World}{v:Value}{A:zf}{n c:Nat}{xs:List α}(h:R w A n c xs)(hg:w.grownBy w' v.ownBlock)(hn:wP w v):R w' A n c xs:=by
 cases hv:v.ownBlock with
 |none=>rw [hv] at hg;exact hR.below h (mw hg)
 |some g=>
   rw [hv] at hg;obtain⟨t,cs,hk,hc⟩:=hn.blk hv;exact hR.offS h hk hc (zY.of_grown hg)
section
variable {α:Type}{R:RP α}
structure wf (R:RP α)(w:World)(A:zf)(n:Nat)(Ls:List (List α)):Prop where
 len:Ls.length=n
 num:∀i L,Ls[i]?=some L->∃(ad:Addr) (B:zf) (d:Nat),A=some ad/\ad.block<w.heap.size/\w.cell? (ad.add i)=some (.slice B L.length d)/\R w B L.length d L
theorem wf.below (hR:rf R){w w':World}{A:zf}{n:Nat}{Ls:List (List α)}(h:wf R w A n Ls)(hb:Below w.heap.size w w'):wf R w' A n Ls:=
 ⟨h.len,λi L hi=>by
  obtain⟨ad,B,d,e,h1,h2,h3⟩:=h.num i L hi;exact⟨ad,B,d,e,qJ h1 hb.size,zq hb h2,hR.below h3 hb⟩⟩
theorem wf.nil (w:World)(A:zf):wf R w A 0 []:=⟨rfl,λi L hi=>by simp at hi⟩
theorem wf.get (hR:rf R){w wr:World}{A:zf}{n m:Nat}{Ls:List (List α)}(h:wf R w A n Ls)(hb:Below w.heap.size w wr){i:Nat}(hi:i<n)(hm:(Ls.getD i []).length=m):∃(ad:Addr) (B:zf) (d:Nat),A=some ad/\ad.block<w.heap.size/\wr.cell? (ad.add i)=some (.slice B m d)/\R wr B m d (Ls.getD i []):=by
 have hl:=h.len;obtain⟨ad,B,d,e,h1,h2,h3⟩:=h.num i _ (nV (d:=[]) za);rw [hm] at h2 h3;exact⟨ad,B,d,e,h1,zq hb h2,hR.below h3 hb⟩
theorem wf.off {n:Nat}{Ls:List (List α)}(h:wf R w A n Ls)(hf:∀ad,A=some ad->ad.block≠g)(ho:zY g w w')(a:∀{B:zf} {m d:Nat} {L:List α},R w B m d L->R w' B m d L):wf R w' A n Ls:=
 ⟨h.len,λi L hi=>by
  obtain⟨ad,B,d,e,h1,h2,h3⟩:=h.num i L hi;exact⟨ad,B,d,e,qJ h1 ho.1,(ho.2 _ (by rw [y9];exact h1) (by rw [y9];exact hf ad e)).trans h2,a h3⟩⟩
structure y8 (R:RP α)(w:World)(t:TypeId)(g n:Nat)(Ls:List (List α)):Prop where
 len:Ls.length=n
 blk:∃cs:Array Value,zi w g t cs/\(∀u ∈ cs.toList,ws u)/\cs.size=n
 num:∀i L,Ls[i]?=some L->∃(B:zf) (d:Nat),w.cell? ⟨g,i,none⟩=some (.slice B L.length d)/\R w B L.length d L
theorem y8.lt {t:TypeId}{n:Nat}{Ls:List (List α)}(h:y8 R w t g n Ls):g<w.heap.size:=by
 obtain⟨cs,hk,_⟩:=h.blk;exact hk.lt
theorem y8.below (hR:rf R){w w':World}{t:TypeId}{g n:Nat}{Ls:List (List α)}(h:y8 R w t g n Ls)(hb:Below w.heap.size w w'):y8 R w' t g n Ls:=by
 refine⟨h.len,?_,λi x hi=>?_⟩
 ·obtain⟨cs,hk,h1,h2⟩:=h.blk;exact⟨cs,zj hb hk,h1,h2⟩
 ·obtain⟨B,d,h1,h2⟩:=h.num i x hi;exact⟨B,d,zq hb h1,hR.below h2 hb⟩
theorem y8.rows {n:Nat}{Ls:List (List α)}(h:y8 R w t g n Ls):wf R w (some ⟨g,0,none⟩) n Ls:=
 ⟨h.len,λi x hi=>by
  obtain⟨B,d,h1,h2⟩:=h.num i x hi;exact⟨_,B,d,rfl,h.lt,by rw [xn];exact h1,h2⟩⟩
theorem y8.ready {n:Nat}{Ls:List (List α)}(h:y8 R w t g n Ls){i:Nat}(hi:i<n):∃a:Value,w.cell? ⟨g,i,none⟩=some a/\w.frozen? ⟨g,i,none⟩=false:=by
 obtain⟨cs,hk,h1,h2⟩:=h.blk;have e0:i<cs.size:=za;exact⟨_,(hk.cell _).trans (QX e0),hk.frozen _⟩
theorem y8.set_ (hR:rf R){w:World}{t:TypeId}{g n m:Nat}{Ls:List (List α)}(h:y8 R w t g n Ls){i:Nat}(hi:i<n){L:List α}{B:zf}{d:Nat}(hx:R w B m d L)(hm:L.length=m):
  y8 R (w.setCell ⟨g,i,none⟩ (.slice B m d)) t g n (Ls.set i L):=by
 subst hm;obtain⟨cs,hk,h1,h2⟩:=h.blk;have ho:zY g w (w.setCell ⟨g,i,none⟩ (.slice B L.length d)):=zY.of_far ((xe.refl g w).set_ i _);have a:=hk.set_ i (.slice B L.length d);refine⟨by rw [YL];exact h.len,⟨_,a,?_,by simp;exact h2⟩,λj y hj=>?_⟩
 ·intro u hu;rw [xV] at hu;rcases XX hu with hu|rfl
  ·exact h1 u hu
  ·exact⟨_,_,_,rfl⟩
 ·by_cases hij:i=j
  ·subst hij;have hl:=h.len;rw [List.getElem?_set_self za] at hj;injection hj with hj;subst hj;refine⟨B,d,?_,hR.offS hx hk h1 ho⟩;rw [a.cell,QR za]
  ·rw [YA hij] at hj;obtain⟨B',d',c1,c2⟩:=h.num j y hj;refine⟨B',d',?_,hR.offS c2 hk h1 ho⟩;rw [a.cell,qB za,<-hk.cell];exact c1
def oO:Array Value:=#[.slice none 0 0]
theorem ro (n:Nat):∀u ∈(madeCells oO n).toList,ws u:=by
 intro v hv;rw [YD,Array.mem_iff_getElem?] at hv;obtain⟨j,hj⟩:=hv;have a:j<n:=by
  have:=(Array.getElem?_eq_some_iff.1 hj).1;rwa [size_madeCells] at this
 rw [nK _ _ _ a,show oO.size=1 from rfl,xD] at hj;simp [oO] at hj;exact⟨_,_,_,hj.symm⟩
theorem y8.made (hR:rf R)(w:World)(t:TypeId)(n:Nat):y8 R (w.alloc (.cells (madeCells oO n) t)) t w.heap.size n (List.replicate n []):=by
 have hk:=zi.new w t (madeCells oO n);refine⟨zD,⟨_,hk,ro _,size_madeCells _ _⟩,λi x hi=>?_⟩;have a:i<n:=by
  have:=(List.getElem?_eq_some_iff.1 hi).1;simpa using this
 obtain rfl:[]=x:=by
  rw [List.getElem?_replicate,if_pos a] at hi;injection hi
 refine⟨none,0,?_,hR.nil _⟩;rw [hk.cell,nK _ _ _ a,show oO.size=1 from rfl,xD];rfl
structure uE (R:RP α)(w:World)(base:Nat)(t:TypeId)(v:Value)(Ls:List (List α))(vs:List Value):Prop where
 own:w.ownsRow base t 1 v Ls.length vs
 sl:wP w v
 num:∀(i:Nat) (L:List α),Ls[i]?=some L->∃(B:zf) (d:Nat),vs[i]?=some (Value.slice B L.length d)/\R w B L.length d L
theorem uE.nil (w:World)(a:Nat)(t:TypeId):uE R w a t (.slice none 0 0) [] []:=⟨XH _ _ _ _,wP.nil _ _,λi L hi=>by simp at hi⟩
theorem uE.len {Ls:List (List α)}(h:uE R w a t v Ls vs):vs.length=Ls.length:=by have:=h.own.1;omega
theorem uE.shape {n:Nat}{Ls:List (List α)}(h:uE R w a t v Ls vs)(hn:Ls.length=n):∃A c,v=.slice A n c/\n<=c/\c<=9223372036854775807/\wf R w A n Ls/\∀ad,A=some ad->a<=ad.block:=by
 subst hn;rcases h.own.2 with⟨rfl,h0⟩|⟨g,cap,cur,rfl,hbg,hg,hnc,hcm,hcs,htake⟩
 ·have hx:Ls=[]:=qM h0;subst hx;exact⟨none,0,rfl,qX _,zh,wf.nil w none,λad e=>by cases e⟩
 ·have j:=h.own.cells (g:=g) rfl;refine⟨some ⟨g,0,none⟩,cap,rfl,hnc,by unfold maxLen at hcm;omega,⟨rfl,λi L hi=>?_⟩,λad e=>by injection e with e;subst e;exact hbg⟩;obtain⟨B,d,hv,hw⟩:=h.num i L hi;exact⟨_,B,d,rfl,(Array.getElem?_eq_some_iff.1 hg).1,j _ _ hv,hw⟩
theorem uE.below (hR:rf R){w w':World}{a:Nat}{t:TypeId}{v:Value}{Ls:List (List α)}{vs:List Value}(h:uE R w a t v Ls vs)(hb:Below w.heap.size w w'):uE R w' a t v Ls vs:=by
 refine⟨⟨h.own.1,?_⟩,h.sl.below hb,λi L hi=>?_⟩
 ·rcases h.own.2 with h1|⟨g,cap,cur,e1,e2,e3,e4⟩
  ·exact .inl h1
  ·exact .inr ⟨g,cap,cur,e1,e2,(hb.block g (zi.lt (t:=t) (cs:=cur) e3)).trans e3,e4⟩
 ·obtain⟨B,d,hv,hw⟩:=h.num i L hi;exact⟨B,d,hv,hR.below hw hb⟩
theorem uE.grow (hR:rf R){w w':World}{a n m:Nat}{t:TypeId}{v v':Value}{Ls:List (List α)}{vs:List Value}{L:List α}{B:zf}{d:Nat}(h:uE R w a t v Ls vs)(hx:R w B m d L)(hm:L.length=m)
  (ho:w'.ownsRow a t 1 v' n (vs++[.slice B m d])) (hn:n=Ls.length+1) (hg:w.grownBy w' v.ownBlock) (hs:wP w' v'):uE R w' a t v' (Ls++[L]) (vs++[.slice B m d]):=by
 subst hm;have hl:=h.len;refine⟨by rw [qA,XS,<-hn];exact ho,hs,λi M hi=>?_⟩;by_cases hlt:i<Ls.length
 ·rw [qO hlt] at hi;obtain⟨C,e,hv,hw⟩:=h.num i M hi;exact⟨C,e,by rw [qO za];exact hv,hR.grown hw hg h.sl⟩
 ·rw [qD za] at hi;have g:i=Ls.length:=by
   have:=(List.getElem?_eq_some_iff.1 hi).1;simp at this;omega
  subst g;obtain rfl:L=M:=by
   rw [xW] at hi;injection hi
  exact⟨B,d,by rw [qD za,hl,xW];rfl,hR.grown hx hg h.sl⟩
end
theorem Uh (n:Nat)(hn:n<=1099511627776):∃Z:Array Value,∀W:World,(Instr.makeSlice 28 (.int .i64 (n:Int)) (.int .i64 (n:Int))).run prog W=.ok (.slice (some ⟨W.heap.size,0,none⟩) n n) (W.alloc (.cells Z 32))/\y8 (yf zu) (W.alloc (.cells Z 32)) 32 W.heap.size n (List.replicate n []):=by
 obtain⟨i0,a,d,g,i⟩:=info_parts Zb;refine⟨madeCells oO n,λW=>⟨?_,y8.made (vK y6) W _ n⟩⟩;have h:=uv (P:=prog) _ _ i0 _ underlying28 a d .i64 .i64 n n (qX _) (by rw [i];omega) za W;rw [g,xO] at h;exact h
set_option maxRecDepth 100000
def dA (w:World)(xs:List Rat)(e:Ending)(w':World):Prop:=∃(v:Value) (vs:List Value),e=.returned v/\wH zu w' w.heap.size 60 v xs vs/\Below w.heap.size w w'
theorem ic {n:Nat}{L:List (Int×Int)}(hT:zv w)(h:vm w A n c L):
  Calls prog 21 #[.slice A n c] w (dA w (xf L)):=by
 obtain⟨aj,ai,T,U,V⟩:=info_parts ki;have hn0:n<=1048576:=qC h.fits h.small;have HL:=zd h.len;have HG:zg (∀k,k<n->wC (L.getD k (0,0)).1/\wC (L.getD k (0,0)).2/\∃ad,A=some ad/\ad.block<w.heap.size/\w.cell? (ad.add (k*2))=some (.int .i64 (L.getD k (0,0)).1)/\w.cell? (ad.add (k*2+1))=some (.int .i64 (L.getD k (0,0)).2)):=λk hk=>by
  have hl:=h.len;have e:L[k]?=some (L.getD k (0,0)):=by rw [qQ,qZ za];rfl
  obtain⟨h1,h2⟩:=h.ints _ (QN e);exact⟨h1,h2,h.row k _ e⟩
 have HS:zg (∀k,k<n->xf (L.take (k+1))=xf (L.take k)++[ut (L.getD k (0,0)).1 (L.getD k (0,0)).2]):=λk hk=>by
  have hl:=h.len;unfold xf;rw [QJ za,List.map_append,qQ,qZ za];rfl
 have HT:=zn w (λw' hb=>hT.on hb);unfold dA;clear h hT;have hB:=qY w.heap.size w;go_enter func21,ntmps21;go_wp2_with fail
 go_loopg [3,4] (n+1) (λg sl ix wr=>∃(k:Nat) (v:Value) (vs:List Value),k<=n/\n<g+k/\ix=.int .i64 k/\v=sl/\wH zu wr w.heap.size 60 v (xf (L.take k)) vs/\Below w.heap.size w wr)
 case atStart=>exact⟨0,_,_,xQ _,za,rfl,rfl,wH.nil _ _ _,hB⟩
 case round=>
  clear hB;obtain⟨k,v,vs,hkn,hg,rfl,rfl,a,hB⟩:=hrel;by_cases hlt:k<n
  ·obtain⟨i,m,ad,rfl,hadb,t,x⟩:=HG.o k hlt;have H:=zd (HS.o k hlt);obtain⟨q,hq⟩:∃q,L.getD k (0,0)=q:=⟨_,rfl⟩;rw [hq] at i m t x H;obtain⟨q1,q2⟩:=q;dsimp only at i m t x H;have t:=zq hB t;have x:=v8 (zq hB x);have ah:decide ((k:Int)<(n:Int))=true:=decide_eq_true za;have i1:(0:Int)<=(k:Int):=za;have i2:(k:Int)<(n:Int):=za;have O:=zd a;have J:=zd hB;have Z:=zd i;have aa:=zd m;have R:(xf (L.take k)).length=k:=by rw [jm,QY,HL.o];omega
   have M:=zd R;clear a hB i m hq R;go_wp2_with fail;(with_reducible refine(kW (HT.o _ J.o) Z.o aa.o).mono ?_);rintro e w5 ⟨b5,B5,m5,d5,E5,u5,f5,rfl,S,hb⟩;obtain⟨t1,t2,_⟩:=zG w5 60 #[.bool b5,.slice B5 m5 d5,.slice E5 u5 f5];obtain⟨ak,al,am⟩:=t2.c3;have I:=ze hb t1;have a:=wH.below y6 O.o I;have HX:=zd (S.below t1);have HB:=zd (ze J.o I);have B:∀j u,[Value.bool b5,.slice B5 m5 d5,.slice E5 u5 f5][j]?=some u->(w5.alloc (.cells #[.bool b5,.slice B5 m5 d5,.slice E5 u5 f5] 60)).cell? ((⟨w5.heap.size,0,none⟩:Addr).add j)=some u:=λj u hu=>by
    rw [xn]
    match j,hu with
    |0,hu=>simp at hu;subst hu;exact t2.cell 0
    |1,hu=>simp at hu;subst hu;exact t2.cell 1
    |2,hu=>simp at hu;subst hu;exact t2.cell 2
   have G:=zd B;have P:zg (∀u ∈ [Value.bool b5,.slice B5 m5 d5,.slice E5 u5 f5],u.oneCell'=true):=by intro u hu;simp at hu;rcases hu with rfl|rfl|rfl<;>rfl
   have ab:zg (∀u ∈ [Value.bool b5,.slice B5 m5 d5,.slice E5 u5 f5],uI u):=by intro u hu y z;simp at hu;rcases hu with rfl|rfl|rfl<;>(intro h9;cases h9)
   have af:zg (∀u ∈(Value.agg #[.bool false,.slice none 0 0,.slice none 0 0]).cells.toList,uI u):=by intro u hu y z;simp [Value.cells] at hu;rcases hu with rfl|rfl<;>(intro h9;cases h9)
   have K:zg (w.heap.size<=(w5.alloc (.cells #[.bool b5,.slice B5 m5 d5,.slice E5 u5 f5] 60)).heap.size):=HB.o.size;have D:=a.own;rw [M.o] at D;have Q:=zd D;have N:=zd a.nou;have ae:=zd a;have ac:=zd (λr (h:v.ownBlock=some r)=>a.own.lt r h);clear hb I S B a t1 t2 t x ak al am D;go_wp2_with (at_builtin;go_loud (refine ZI _ rfl (.tmp 11) (.tmp 17) 32 rfl w.heap.size 60 aj (.agg #[.bool false,.slice none 0 0,.slice none 0 0]) 3 56 underlying32 ai T U V rfl zh v k vs rfl Q.o ⟨w5.heap.size,0,none⟩ 1 1 [.bool b5,.slice B5 m5 d5,.slice E5 u5 f5] rfl rfl G.o P.o (by unfold maxLen;omega) za K.o N.o af.o ab.o ?_;intro v' w8 E d ag C;have F:=zd (wH.grow (n:=k+1) y6 ae.o HX.o E (by rw [M.o]) d C);have Y:=zd (HB.o.grown d K.o (λr hr=>(ac.o r hr).1));clear E d ag C));rw [<-H.o] at F;go_roundg (n - k)
   case measure=>omega
   case rel=>exact⟨k+1,_,_,za,za,by go_num,rfl,F.o,Y.o⟩
  ·have ah:decide ((k:Int)<(n:Int))=false:=decide_eq_false za;have hk:k=n:=za;subst hk;rw [qV (by rw [HL.o];exact qX _)] at a;have HV:=zd a;have X:=zd hB;clear a hB;go_wp2;go_ret;exact⟨_,_,rfl,HV.o,X.o⟩
