/- What this claim leans on. -/
import Derived.Test.YtdfdjfiognhbgaaGreatDoorDMGrid
import Derived.ArgAppend
set_option linter.unusedVariables false
set_option linter.unusedSimpArgs false
namespace Go.Proofs.YtdfdjfiognhbgaaGreatDoor
open Go Go.RowKit Go.Proofs.Tryz
set_option maxHeartbeats 16000000
variable {cs:Array Value}{b:Bool}{Ls M:List (List Rat)}{zs:List Int}{ld:List Nat}{xs:List Rat}{vs:List Value}{a c g n z:Nat}{x:Rat}{t:TypeId}{v x0 x1 x2:Value}{w w':World}{A:ze}
theorem uf.below {W W':World}{R:so}(h:uf W A n c R)(hb:Below W.heap.size W W'):uf W' A n c R:=⟨h.fits,h.small,λr hr=>by
 obtain⟨ad,e,h1,h2,h3⟩:=h.row r hr;exact⟨ad,e,qJ h1 hb.size,zt hb h2,h3.below hb⟩⟩
set_option maxRecDepth 100000
section
variable {K K':Nat}{w:World}
variable {A:ze}{n c m:Nat}{MM:List (List Rat)}
def es (w:World)(n:Nat)(Ls:List (List Rat))(e:Ending)(w':World):Prop:=∃g,e=.returned (.slice (some ⟨g,0,none⟩) n n)/\w.heap.size<=g/\xj (zY zo) w' 64 g n Ls/\Below w.heap.size w w'
variable {V:ze}{k cv:Nat}{xs:List Rat}
end
structure ft (w:World)(base g n cap:Nat)(Ls:List (List Rat)):Prop where
 ge:base<=g
 len:Ls.length=n
 fits:n<=cap
 most:cap<=9223372036854775807
 blk:∃cs:Array Value,zh w g 64 cs/\(∀u ∈ cs.toList,yp u)/\cs.size=cap
 num:∀i L,Ls[i]?=some L->∃(B:ze) (d:Nat),w.cell? ⟨g,i,none⟩=some (.slice B L.length d)/\zU w B L.length d L
theorem ft.below {cap:Nat}(h:ft w a g n cap Ls)(hb:Below w.heap.size w w'):ft w' a g n cap Ls:=by
 refine⟨h.ge,h.len,h.fits,h.most,?_,λi L hi=>?_⟩
 ·obtain⟨cs,hk,h1,h2⟩:=h.blk;exact⟨cs,zf hb hk,h1,h2⟩
 ·obtain⟨B,d,h1,h2⟩:=h.num i L hi;exact⟨B,d,zt hb h1,zU.keep h2 hb⟩
theorem ft.rows {cap:Nat}(h:ft w a g n cap Ls):y5 (zY zo) w (some ⟨g,0,none⟩) n Ls:=
 ⟨h.len,λi L hi=>by
  obtain⟨cs,hk,_⟩:=h.blk;obtain⟨B,d,h1,h2⟩:=h.num i L hi;exact⟨_,B,d,rfl,hk.lt,by rw [vz];exact h1,h2⟩⟩
def oh (Pc:Value->Prop)(w:World)(v:Value):Prop:=∀g,v.ownBlock=some g->∃(cur:Array Value) (e:TypeId),w.heap[g]?=some (.cells cur e (0,0))/\∀u ∈ cur.toList,Pc u
theorem oh.nil {Pc:Value->Prop}(w:World)(c:Nat):oh Pc w (.slice none 0 c):=λg h=>by simp [Value.ownBlock] at h
section
variable {P:Program}{Pc:Value->Prop}(w:World)
theorem TM (s:Nat)(t ty e:TypeId)(i:TypeInfo)(z:Value)(size bytes:Nat)(ht:P.underlying t=some (.slice e))(hi:P.info? e=some i)(hz:i.zero=some z)
  (I:i.size=size) (Q:i.bytes=bytes) (T:z.cells.size=size) (hsz:0<size)
  (v:Value) (n:Nat) (xs:List Value) (o:w.ownsRow s e size v n xs)
  (a:Addr) (m c:Nat) (d:List Value) (hl:d.length=m*size) (B:∀j u,d[j]?=some u->w.cell? (a.add j)=some u) (h1:∀u ∈ d,u.oneCell'=true)
  (K:n+m<=maxLen) (C:(n+m)*bytes<=140737488355328) (F:s<=w.heap.size)
  (hv:oh Pc w v) (S:∀u ∈ z.cells.toList,Pc u) (O:∀u ∈ d,Pc u):
  ∃ v' w',(Builtin.append_ #[t,t] ty #[v,.slice (some a) m c]).run P w = .ok v' w' ∧ w'.ownsRow s e size v' (n + m) (xs ++ d) ∧ w.grownBy w' v.ownBlock ∧
   (v'.ownBlock=v.ownBlock\/v'.ownBlock=some w.heap.size)/\oh Pc w' v':=by
 subst I;subst Q;have hsmall:n+m<=9223372036854775807:=by simp only [maxLen] at K;omega
 have D:(xs++d).length=(n+m)*i.size:=by rw [QV,o.1,hl,QE]
 have grown : ∀ (old : Nat),old < n + m → (∀ u ∈ xs,Pc u) → ∀ (row : Option Nat),
   (w.drew.alloc (.cells (xs.toArray ++ d.toArray ++ Builtin.zeroCells z.cells (grownCap w (n + m) old e - (n + m))) e)).ownsRow s e i.size
     (.slice (some ⟨w.heap.size,0,none⟩) (n+m) (grownCap w (n+m) old e)) (n+m) (xs++d)/\
   w.grownBy (w.drew.alloc (.cells (xs.toArray++d.toArray++Builtin.zeroCells z.cells (grownCap w (n+m) old e - (n+m))) e)) row/\
   oh Pc (w.drew.alloc (.cells (xs.toArray++d.toArray++Builtin.zeroCells z.cells (grownCap w (n+m) old e - (n+m))) e)) (.slice (some ⟨w.heap.size,0,none⟩) (n+m) (grownCap w (n+m) old e)):=by
  intro old ho J row;have R:=grownCap_ge w (n+m) old e;have G:grownCap w (n+m) old e<=maxLen:=grownCap_le_maxLen w (n+m) old e K;refine⟨⟨D,.inr ⟨w.heap.size,_,_,rfl,F,heap_alloc_new w.drew _,R,G,?_,?_⟩⟩,⟨rfl,rfl,rfl,zE,λk hk _=>heap_alloc_old w.drew _ hk⟩,?_⟩
  ·simp only [Array.size_append,XG,size_zeroCells,T,o.1,hl,<-QE];congr 1;omega
  ·simp only [YU,xJ];rw [<-xJ,<-D];exact jX
  ·intro g hg;simp [Value.ownBlock] at hg;subst hg;refine⟨_,_,heap_alloc_new w.drew _,λu hu=>?_⟩;simp only [YU,yY] at hu;rcases hu with(hu|hu)|hu
   ·exact J u hu
   ·exact O u hu
   ·exact S u (Yb zb hu)
 rcases o.2 with⟨rfl,rfl⟩|⟨g,cap,cur,rfl,hbg,hg,hnc,G,hcs,htake⟩
 ·have hx:xs=[]:=QY (by simpa using o.1);subst hx;by_cases hm:m=0
  ·subst hm;have hn:d=[]:=QY (by simpa using hl);subst hn;refine⟨.slice none 0 0,w,?_,xK w s e i.size,⟨rfl,rfl,rfl,qY _,λ_ _ _=>rfl⟩,Or.inl rfl,oh.nil _ _⟩;simp [Builtin.append_,run_underlying ht,sizeOf,typeInfo,hi,Builtin.lenOf,Builtin.firstCells,loadCells,loadCellsFrom]
  ·have hr:=run_append_nil (P:=P) w t ty e i z ht hi hz a m c d hl B zb zb (by have hb:=C;simp only [xA] at hb;omega);have A:=grown 0 zb (λu hu=>by cases hu) (Value.ownBlock (.slice none 0 0));simp only [xA,yK,Array.empty_append] at A⊢;exact⟨_,_,hr,A.1,A.2.1,Or.inr rfl,A.2.2⟩
 ·obtain⟨y,e2,E,H⟩:=hv g rfl;have L:y=cur:=by
   rw [hg] at E;injection E with E;injection E with E;exact E.symm
  subst L;by_cases hroom:n+m<=cap
  ·have M:n*i.size+d.length<=y.size:=by rw [hl,hcs,<-QE];exact qW _ hroom
   have hr:=run_append_room (P:=P) w t ty e i ht hi g n cap y hg a m c d hl B h1 hroom M;refine⟨_,_,hr,⟨D,.inr ⟨g,cap,_,rfl,hbg,setRow_heap w g y _ e _ hg,hroom,G,?_,?_⟩⟩,⟨rfl,rfl,rfl,zE,λk _ hk=>setRow_other w g k _ (λe=>hk (by simp [Value.ownBlock,e]))⟩,Or.inl rfl,?_⟩
   ·simp only [XG,QV,qB,XX,YZ];omega
   ·rw [htake,<-D];exact jX
   ·intro g' N;simp [Value.ownBlock] at N;subst N;refine⟨_,_,setRow_heap w g y _ e _ hg,λu hu=>?_⟩;rw [yY,yY] at hu;rcases hu with(hu|hu)|hu
    ·exact H u (XY hu)
    ·exact O u hu
    ·exact H u (XD hu)
  ·have holds:∀j u,xs[j]?=some u->w.cell? ((⟨g,0,none⟩:Addr).add j)=some u:=o.cells (g:=g) rfl;have hr:=run_append_grow (P:=P) w t ty e i z ht hi hz ⟨g,0,none⟩ n cap xs o.1 holds a m c d hl B zb zb (growslice_fits zb C);have J:∀u ∈ xs,Pc u:=λu hu=>H u (XY (by rw [htake];exact hu));have A:=grown cap zb J (Value.ownBlock (.slice (some ⟨g,0,none⟩) n cap));exact⟨_,_,hr,A.1,A.2.1,Or.inr rfl,A.2.2⟩
end
theorem Yn {P:Program}{Pc:Value->Prop}(w:World){o:Oper}{a:Act}{K:Act->World->Prop}{Q:Exit->Act->World->Prop}(s x:Operand)(t:TypeId)
  (ho:o.op=.call {callee:=.builtin .append,args:=#[s,x],argTypes:=#[t,t]})
  (g:Nat) (e:TypeId) (i:TypeInfo) (z:Value) (size bytes:Nat) (ht:P.underlying t=some (.slice e)) (hi:P.info? e=some i) (hz:i.zero=some z)
  (B:i.size=size) (E:i.bytes=bytes) (H:z.cells.size=size) (hsz:0<size)
  (v:Value) (n:Nat) (xs:List Value) (hs:a.eval s=v) (C:w.ownsRow g e size v n xs)
  (ad:Addr) (m c:Nat) (d:List Value) (hx:a.eval x=.slice (some ad) m c) (hl:d.length=m*size) (A:∀j u,d[j]?=some u->w.cell? (ad.add j)=some u) (h1:∀u ∈ d,u.oneCell'=true)
  (D:n+m<=maxLen) (k:(n+m)*bytes<=140737488355328) (y:g<=w.heap.size)
  (hv:oh Pc w v) (G:∀u ∈ z.cells.toList,Pc u) (F:∀u ∈ d,Pc u)
  (h:∀v' w',w'.ownsRow g e size v' (n+m) (xs++d)->w.grownBy w' v.ownBlock->(v'.ownBlock=v.ownBlock\/v'.ownBlock=some w.heap.size)->oh Pc w' v'->K (a.put o.dst v') w'):Oper.wp P o a w K Q:=by
 obtain⟨v',w',hr,h2,h3,h4,h5⟩:=TM (P:=P) w g t o.type e i z size bytes ht hi hz B E H hsz v n xs C ad m c d hl A h1 D k y hv G F;unfold Oper.wp execOp;simp only [ho,resolve,invoke,builtin,Sem.run_bind,Sem.run_pure,Result.andThen_ok,yI,yX,List.map_nil,hs,hx,hr];exact h v' w' h2 h3 h4 h5
def VZ (z:Nat):RP Rat:=λw A n c xs=>zU w A n c xs/\∀ad,A=some ad->z<ad.block
theorem wW (z:Nat):ur (VZ z) where
 len h:=h.1.len
 below h hb:=⟨h.1.keep hb,h.2⟩
 offS h hk hs ho:=⟨Zh zS h.1 hk hs ho,h.2⟩
 nil w:=⟨zY.nil w,λad e=>by cases e⟩
theorem pM (h:zU w A n c xs)(k:∀ad,A=some ad->ad.block≠g)(hk:zh w g t cs)(a:tv .u64 cs)(ho:ya g w w'):zU w' A n c xs:=by
 refine⟨h.len,h.fits,h.most,λi x hi=>?_⟩;obtain⟨ad,b,B,m,d,F,u,v,e,h1,h2,h3,h4,h5⟩:=h.num i x hi;have hc:∀j,w'.cell? (ad.add j)=w.cell? (ad.add j):=λj=>ho.2 _ (by rw [y8];exact h1) (by rw [y8];exact k ad e);exact⟨ad,b,B,m,d,F,u,v,e,qJ h1 ho.1,(hc _).trans h2,(hc _).trans h3,(hc _).trans h4,oG hk a ho h5⟩
theorem ZK (h:VZ z w A n c xs)(hk:zh w z t cs)(a:tv .u64 cs)(ho:ya z w w'):VZ z w' A n c xs:=
 ⟨pM h.1 (λad e=>by have:=h.2 ad e;omega) hk a ho,h.2⟩
theorem mO (h:VZ z w A n c xs)(hk:zh w g t cs)(hs:∀u ∈ cs.toList,∀b,u≠.bool b)(a:tv .u64 cs)(ho:ya g w w'):VZ z w' A n c xs:=
 ⟨Za h.1 hk hs a ho,h.2⟩
theorem yk.off {α:Type}{R:RP α}{Ls:List (List α)}(h:yk R w c t v Ls vs)(hb:∀g s cs,v.ownBlock=some g->zh w g s cs->zh w' g s cs)
  (hE:∀{B:ze} {m d:Nat} {L:List α},R w B m d L->R w' B m d L):yk R w' c t v Ls vs:=by
 refine⟨⟨h.own.1,?_⟩,λg e=>?_,λi L hi=>?_⟩
 ·rcases h.own.2 with h1|⟨g,cap,a,e1,e2,e3,e4⟩
  ·exact .inl h1
  ·exact .inr ⟨g,cap,a,e1,e2,hb g t a (by rw [e1];rfl) e3,e4⟩
 ·obtain⟨a,s,h1,h2⟩:=h.sl g e;exact⟨a,s,hb g s a e h1,h2⟩
 ·obtain⟨B,d,hv,hw⟩:=h.num i L hi;exact⟨B,d,hv,hE hw⟩
theorem yk.at_ {α:Type}{R:RP α}{d n:Nat}{k:Nat}{Ls:List (List α)}(h:yk R w d t (.slice A k c) Ls vs)(hn:0<Ls.length):∃g a,A=some ⟨g,0,none⟩/\d<=g/\k=Ls.length/\k<=c/\c<=maxLen/\zh w g t a/\a.size=c/\a.toList.take k=vs/\∀u ∈ a.toList,yp u:=by
 rcases h.own.2 with⟨_,h0⟩|⟨g,cap,a,e1,e2,e3,e4,e5,e6,e7⟩
 ·omega
 ·injection e1 with a1 a2 a3;subst a1 a2 a3;obtain⟨cur2,s,h1,h2⟩:=h.sl g rfl;rw [e3] at h1;injection h1 with h1;injection h1 with h1 _;subst h1;exact⟨g,a,rfl,e2,rfl,e4,e5,e3,zb,by rw [<-e7,xC],h2⟩
theorem yk.set_ {α:Type}{R:RP α}(hR:ur R){w:World}{a:Nat}{t:TypeId}{g k c:Nat}{Ls:List (List α)}{vs:List Value}(h:yk R w a t (.slice (some ⟨g,0,none⟩) k c) Ls vs){i:Nat}(hi:i<Ls.length){L:List α}{B:ze}{m d:Nat}(hx:R w B m d L)(hm:L.length=m):
  yk R (w.setCell ⟨g,i,none⟩ (.slice B m d)) a t (.slice (some ⟨g,0,none⟩) k c) (Ls.set i L) (vs.set i (.slice B m d)):=by
 subst hm;obtain⟨g',cur,e1,e2,e3,e4,e5,hk,e6,e7,hs⟩:=h.at_ (n:=0) zb;injection e1 with e1;injection e1 with e1;subst e1;have hl:=h.len;have ho:ya g w (w.setCell ⟨g,i,none⟩ (.slice B L.length d)):=ya.of_far ((z4.refl g w).set_ i _);have o:=hk.set_ i (.slice B L.length d);refine⟨⟨by rw [xB,xB,hl,xC],.inr ⟨g,c,_,by rw [xB,<-e3],e2,o,by rw [xB,<-e3];exact e4,e5,by simp;exact e6,?_⟩⟩,λq hq=>?_,λj M hj=>?_⟩
 ·rw [xB,<-e3,xC,xH,jZ,e7]
 ·simp [Value.ownBlock] at hq;subst hq;refine⟨_,_,o,λu hu=>?_⟩;rw [xH] at hu;rcases XQ hu with hu|rfl
  ·exact hs u hu
  ·exact⟨_,_,_,rfl⟩
 ·by_cases hij:i=j
  ·subst hij;rw [XR hi] at hj;injection hj with hj;subst hj;exact⟨B,d,by rw [XR zb],hR.offS hx hk hs ho⟩
  ·rw [XL hij] at hj;obtain⟨B',d',c1,c2⟩:=h.num j M hj;exact⟨B',d',by rw [XL hij];exact c1,hR.offS c2 hk hs ho⟩
def ln (u:Value):Prop:=∃z,u=.int .i64 z
def lF (ld:List Nat):List Value:=ld.map λl:Nat=>.int .i64 (l:Int)
structure uB (w:World)(base:Nat)(v:Value)(ld:List Nat):Prop where
 own:w.ownsRow base 3 1 v ld.length (lF ld)
 pr:oh ln w v
theorem uB.nil (w:World)(a:Nat):uB w a (.slice none 0 0) []:=⟨xK _ _ _ _,oh.nil _ _⟩
theorem uB.off (h:uB w c v ld)(hb:∀g s cs,v.ownBlock=some g->zh w g s cs->zh w' g s cs):uB w' c v ld:=by
 refine⟨⟨h.own.1,?_⟩,λg e=>?_⟩
 ·rcases h.own.2 with h1|⟨g,cap,a,e1,e2,e3,e4⟩
  ·exact .inl h1
  ·exact .inr ⟨g,cap,a,e1,e2,hb g _ a (by rw [e1];rfl) e3,e4⟩
 ·obtain⟨a,s,h1,h2⟩:=h.pr g e;exact⟨a,s,hb g s a e h1,h2⟩
theorem uB.shape (h:uB w a v ld):∃A c,v=.slice A ld.length c/\ld.length<=c/\c<=9223372036854775807/\(∀ad,A=some ad->a<=ad.block)/\∀i,i<ld.length->∃ad,A=some ad/\w.cell? (ad.add i)=some (.int .i64 (ld.getD i 0:Nat)):=by
 rcases h.own.2 with⟨rfl,h0⟩|⟨g,cap,cur,rfl,hbg,hg,hnc,hcm,hcs,htake⟩
 ·exact⟨none,0,by rw [h0],zb,zg,(λad e=>by cases e),λi hi=>by omega⟩
 ·have d:=h.own.cells (g:=g) rfl;refine⟨some ⟨g,0,none⟩,cap,rfl,hnc,by unfold maxLen at hcm;omega,(λad e=>by injection e with e;subst e;exact hbg),λi hi=>⟨_,rfl,d _ _ ?_⟩⟩;unfold lF;rw [QQ,qQ,qX hi];rfl
theorem Ra (hs:∀u ∈ cs.toList,ln u):∀u ∈ cs.toList,∀b,u≠.bool b:=λu hu b e=>by
 obtain⟨z,e2⟩:=hs u hu;rw [e2] at e;cases e
theorem ZG (hs:∀u ∈ cs.toList,ln u):tv .u64 cs:=λu hu z e=>by
 obtain⟨z',e2⟩:=hs u hu;rw [e2] at e;cases e
theorem kt (hs:∀u ∈ cs.toList,yp u):tv .u64 cs:=λu hu z e=>by
 obtain⟨A,n,c,e2⟩:=hs u hu;rw [e2] at e;cases e
def RV (w:World)(x:Rat)(x0 x1 x2:Value):Prop:=∃(b:Bool) (A:ze) (n c:Nat) (E:ze) (k f:Nat),x0=.bool b/\x1=.slice A n c/\x2=.slice E k f/\zo w x b A n c E k f
theorem RV.of {E:ze}{k f:Nat}(h:zo w x b A n c E k f):RV w x (.bool b) (.slice A n c) (.slice E k f):=⟨_,_,_,_,_,_,_,rfl,rfl,rfl,h⟩
theorem RV.below (h:RV w x x0 x1 x2)(hb:Below w.heap.size w w'):RV w' x x0 x1 x2:=by
 obtain⟨b,A,n,c,E,k,f,e0,e1,e2,hr⟩:=h;exact⟨b,A,n,c,E,k,f,e0,e1,e2,hr.below hb⟩
theorem RV.off (h:RV w x x0 x1 x2)(hk:zh w g t cs)(a:tv .u64 cs)(ho:ya g w w'):RV w' x x0 x1 x2:=by
 obtain⟨b,A,n,c,E,k,f,e0,e1,e2,hr⟩:=h;exact⟨b,A,n,c,E,k,f,e0,e1,e2,oG hk a ho hr⟩
structure z6 (w:World)(g:Nat)(e:wn)(rd:Rat)(A:ze)(n cA:Nat)(B:ze)(k cB:Nat)(x0 x1 x2 y0 y1 y2:Value):Prop where
 blk:zh w g 84 #[.slice A n cA,.slice B k cB,x0,x1,x2,y0,y1,y2]
 hn:e.S.length=n
 hk:e.ld.length=k
 rows:∃vs,yk (VZ g) w g 64 (.slice A n cA) e.S vs
 lds:uB w g (.slice B k cB) e.ld
 lead:RV w e.p x0 x1 x2
 rsd:RV w rd y0 y1 y2
section
variable {w w':World}{g:Nat}{e:wn}{rd:Rat}{A:ze}{n cA:Nat}{B:ze}{k cB:Nat}{x0 x1 x2 y0 y1 y2:Value}
theorem z6.below (h:z6 w g e rd A n cA B k cB x0 x1 x2 y0 y1 y2)(hb:Below w.heap.size w w'):z6 w' g e rd A n cA B k cB x0 x1 x2 y0 y1 y2:=by
 obtain⟨vs,hr⟩:=h.rows;exact{blk:=zf hb h.blk,hn:=h.hn,hk:=h.hk,rows:=⟨vs,hr.below (wW g) hb⟩,lds:=h.lds.off λq s cs _ hq=>zf hb hq,lead:=h.lead.below hb,rsd:=h.rsd.below hb}
theorem z6.nok (h:z6 w g e rd A n cA B k cB x0 x1 x2 y0 y1 y2):tv .u64 #[.slice A n cA,.slice B k cB,x0,x1,x2,y0,y1,y2]:=by
 obtain⟨_,_,_,_,_,_,_,rfl,rfl,rfl,_⟩:=h.lead;obtain⟨_,_,_,_,_,_,_,rfl,rfl,rfl,_⟩:=h.rsd;intro v hv z e;simp at hv;rcases hv with rfl|rfl|rfl|rfl|rfl|rfl|rfl|rfl<;>cases e
theorem tp {q:Nat}{s:TypeId}{ds:Array Value}(h:zh w q t cs)(h':zh w q s ds):t=s:=by
 unfold zh at h h';rw [h] at h';injection h' with h';injection h' with _ h'
theorem z6.neA (h:z6 w g e rd A n cA B k cB x0 x1 x2 y0 y1 y2){q:Nat}(hq:(Value.slice A n cA).ownBlock=some q):q≠g/\∃cs,zh w q 64 cs/\∀u ∈ cs.toList,yp u:=by
 obtain⟨vs,hr⟩:=h.rows;rcases hr.own.2 with⟨h1,_⟩|⟨g',cap,cur,e1,e2,e3,_⟩
 ·rw [h1] at hq;cases hq
 ·rw [e1] at hq;simp [Value.ownBlock] at hq;subst hq;obtain⟨a,s,h1,h2⟩:=hr.sl g' (by rw [e1];rfl);have:a=cur:=by rw [e3] at h1;injection h1 with h1;injection h1 with h1 _;exact h1.symm
  subst this;exact⟨λe=>absurd (tp e3 (e▸h.blk)) zg,a,e3,h2⟩
theorem z6.neB (h:z6 w g e rd A n cA B k cB x0 x1 x2 y0 y1 y2){q:Nat}(hq:(Value.slice B k cB).ownBlock=some q):q≠g/\∃cs,zh w q 3 cs/\∀u ∈ cs.toList,ln u:=by
 rcases h.lds.own.2 with⟨h1,_⟩|⟨g',cap,cur,e1,e2,e3,_⟩
 ·rw [h1] at hq;cases hq
 ·rw [e1] at hq;simp [Value.ownBlock] at hq;subst hq;obtain⟨a,s,h1,h2⟩:=h.lds.pr g' (by rw [e1];rfl);have:a=cur:=by rw [e3] at h1;injection h1 with h1;injection h1 with h1 _;exact h1.symm
  subst this;exact⟨λe=>absurd (tp e3 (e▸h.blk)) zg,a,e3,h2⟩
theorem z6.setRow {q:Nat}(h:z6 w g e rd (some ⟨q,0,none⟩) n cA B k cB x0 x1 x2 y0 y1 y2){i:Nat}(hi:i<n){L:List Rat}{C:ze}{m d:Nat}(hx:VZ g w C m d L)(hm:L.length=m):z6 (w.setCell ⟨q,i,none⟩ (.slice C m d)) g {e with S:=e.S.set i L} rd (some ⟨q,0,none⟩) n cA B k cB x0 x1 x2 y0 y1 y2:=by
 obtain⟨a,cs,hq,hs⟩:=h.neA (q:=q) rfl;obtain⟨vs,hr⟩:=h.rows;have ho:ya q w (w.setCell ⟨q,i,none⟩ (.slice C m d)):=ya.of_far ((z4.refl q w).set_ i _);exact {
  blk:=zh.far (p:=⟨q,i,none⟩) h.blk (Ne.symm a) _
  hn:=by rw [<-h.hn];exact xB
  hk:=h.hk
  rows:=⟨_,hr.set_ (wW g) (by rw [h.hn];exact hi) hx hm⟩
  lds:=h.lds.off λp s ds hp hk=>zh.far (p:=⟨q,i,none⟩) hk (λe=>by
   obtain⟨_,ds',h1,_⟩:=h.neB hp;subst e;exact absurd (tp hq h1) zg) _
  lead:=h.lead.off hq (kt hs) ho
  rsd:=h.rsd.off hq (kt hs) ho}
theorem z6.store (h:z6 w g e rd A n cA B k cB x0 x1 x2 y0 y1 y2)(hf:z4 g w w'){z0 z1 z2 u0 u1 u2:Value}{p c:Rat}(hb:zh w' g 84 #[.slice A n cA,.slice B k cB,z0,z1,z2,u0,u1,u2])(hp:RV w p z0 z1 z2)(d:RV w c u0 u1 u2)(a:∀q s cs,q≠g->zh w q s cs->zh w' q s cs):z6 w' g {e with p:=p} c A n cA B k cB z0 z1 z2 u0 u1 u2:=by
 obtain⟨vs,hr⟩:=h.rows;have ho:=ya.of_far hf;exact {
  blk:=hb
  hn:=h.hn
  hk:=h.hk
  rows:=⟨vs,hr.off (λq s cs hq hk=>a q s cs (h.neA hq).1 hk) (λhx=>ZK hx h.blk h.nok ho)⟩
  lds:=h.lds.off λq s cs hq hk=>a q s cs (h.neB hq).1 hk
  lead:=hp.off h.blk h.nok ho
  rsd:=d.off h.blk h.nok ho}
end
section
variable {w:World}
theorem Rd {c:Nat}{z:Int}(h:tK w A n zs)(hn:n<=1048576):
  Calls prog 121 #[.slice A n c,.int .i64 z] w (λeo w'=>∃k:Int,eo=.returned (.int .i64 k)/\decide (k>=0)=decide (z ∈ zs)/\Below w.heap.size w w'):=by
 have HI:=za h;have i0:(0:Int)<=(n:Int):=zb;have hB:=qZ w.heap.size w;have HY:zd (∀k,k<n->zs.getD k 0=z->decide (z ∈ zs)=true):=λk hk e=>decide_eq_true (by
  rw [<-e,qQ,qX (by have:=h.len;omega)];exact xS _)
 have HN:zd ((∀j,j<n->zs.getD j 0≠z)->decide (z ∈ zs)=false):=λh0=>decide_eq_false (λhm=>by
  obtain⟨j,hj,e⟩:=List.mem_iff_getElem.1 hm;refine h0 j (by rw [<-h.len];exact hj) ?_;rw [qQ,qX hj];exact e)
 obtain⟨b,hb⟩:∃b,decide (z ∈ zs)=b:=⟨_,rfl⟩;rw [hb] at HY HN⊢;clear h hb;go_enter func121,ntmps121;go_wp2_with fail
 go_loopg [8] (n+1) (λg ix wr=>∃(k:Nat),k<=n/\n<g+k/\ix=.int .i64 k/\zd (∀j,j<k->zs.getD j 0≠z)/\Below w.heap.size w wr)
 case atStart=>exact⟨0,qN _,zb,rfl,λj hj=>(by cases hj),hB⟩
 case round=>
  clear hB;obtain⟨k,hkn,hg,rfl,m,hB⟩:=hrel;by_cases hlt:k<n
  ·have t:decide ((k:Int)<(n:Int))=true:=decide_eq_true zb;have i1:(0:Int)<=(k:Int):=zb;have i2:(k:Int)<(n:Int):=zb;obtain⟨ad,rfl,hc⟩:=HI.o.num k hlt;have s:=zt hB hc;have d:zd (zs.getD k 0≠z->∀j,j<k+1->zs.getD j 0≠z):=λe j hj=>by
    rcases xY j k with a|a
    ·exact m.o j a
    ·rw [show j=k by omega];exact e
   have i:=za (HY.o k hlt);have HB:=za hB;obtain⟨x,hx⟩:∃x,zs.getD k 0=x:=⟨_,rfl⟩;rw [hx] at s d i;clear hB hc hx;by_cases hxz:x=z
   ·have d2:(z==x)=true:=by rw [hxz];simp
    have HE:=za (i.o hxz);clear d i hxz;go_wp2;go_ret;exact⟨(k:Int),rfl,by rw [HE.o];exact decide_eq_true zb,HB.o⟩
   ·have d2:(z==x)=false:=by rw [beq_eq_false_iff_ne];exact λe=>hxz e.symm
    have o:=za (d.o hxz);clear d i hxz;go_wp2;go_roundg (n - k)
    case measure=>omega
    case rel=>exact⟨k+1,zb,zb,by go_num,o.o,HB.o⟩
  ·have u:k=n:=zb;subst u;have t:decide ((k:Int)<(k:Int))=false:=zE;have HE:=za (HN.o m.o);have HB:=za hB;clear hB;go_wp2;go_ret;exact⟨-1,rfl,by rw [HE.o];rfl,HB.o⟩
theorem fR {z:Int}(e:decide (z ∈ zs)=b)(h:tK w A n zs)(hn:n<=1048576):
  Calls prog 67 #[.slice A n c,.int .i64 z] w (λeo w'=>eo=.returned (.bool b)/\Below w.heap.size w w'):=by
 have H:=za (Rd (c:=c) (z:=z) h hn);rw [e] at H;clear h e;go_enter func67,ntmps67;go_wp2_with fail;refine H.o.mono ?_;rintro eo w1 ⟨k,rfl,hk,hb⟩;have hk2:decide (0<=k)=b:=hk;have HB:=za hb;clear hb;go_wp2;go_ret;exact⟨rfl,HB.o⟩
end
def wP (M:List (List Rat))(k:Int):Nat->List (List Rat)
 |0=>[]
 |i+1=>if (i:Int)=k then wP M k i else wP M k i++[M.getD i []]
theorem Zp (M:List (List Rat))(k:Int):∀i,(wP M k i).length<=i
 |0=>qY _
 |i+1=>by
   have h:=Zp M k i;unfold wP
   split
   ·omega
   ·rw [QV,yM];omega
theorem bX {M:List (List Rat)}{n m:Nat}(h:zM M n m)(k:Int):∀i,i<=n->∀L ∈ wP M k i,L.length=m
 |0,_,L,hL=>by cases hL
 |i+1,hi,L,hL=>by
   unfold wP at hL
   split at hL
   ·exact bX h k i zb L hL
   ·rcases List.mem_append.1 hL with hL|hL
    ·exact bX h k i zb L hL
    ·rw [List.mem_singleton] at hL;subst hL;exact h.row hi
theorem Vt (M:List (List Rat))(k:Int):∀i,i<=M.length->(∀j,j<i->(j:Int)≠k)->wP M k i=M.take i
 |0,_,_=>by simp [wP]
 |i+1,hi,hk=>by
   unfold wP;rw [if_neg (hk i (Nat.lt_succ_self i)),Vt M k i zb (λj hj=>hk j zb),qE hi,qQ,qX hi];rfl
theorem Vs {M:List (List Rat)}{r:Nat}(hr:r<M.length):∀i,r<i->i<=M.length->wP M (r:Int) i=vh (M.take i) r
 |0,h,_=>absurd h zb
 |i+1,h,hi=>by
   unfold wP;by_cases e:(i:Int)=(r:Int)
   ·have e2:i=r:=zb;subst e2;rw [if_pos e,Vt M _ i zb (λj hj=>by omega),qE hi,Ro (by rw [qB];omega)]
   ·rw [if_neg e,Vs hr i zb zb,qE hi,qQ,qX hi];unfold vh;rw [List.eraseIdx_append_of_lt_length (by rw [qB];omega)];rfl
theorem qm {r:Nat}(h:M.length=n)(hr:r<n):wP M (r:Int) n=vh M r:=by
 subst h;rw [Vs hr _ hr (qY _),List.take_length]
theorem TK {m:Nat}{z:Int}(h:yz w A n c m M):
  Calls prog 93 #[.slice A n c,.int .i64 z] w (λe w'=>∃(A':ze) (c':Nat),e=.returned (.slice A' (wP M z n).length c')/\yz w' A' (wP M z n).length c' m (wP M z n)/\Below w.heap.size w w'):=by
 obtain⟨i9,Z,ae,N,O⟩:=info_parts aK;have ac:n<=64:=h.hn;have ab:m<=64:=h.hm;have HM:=za h;have HD:=za h.dims;clear h;have hB:=qZ w.heap.size w;go_enter func93,ntmps93;go_wp2_with fail
 go_loopg [5,6] (n+1) (λg sl ix wr=>∃(k:Nat) (v:Value) (vs:List Value),k<=n/\n<g+k/\ix=.int .i64 k/\v=sl/\yk (zY y4) wr w.heap.size 79 v (wP M z k) vs/\Below w.heap.size w wr)
 case atStart=>exact⟨0,_,_,qN _,zb,rfl,rfl,yk.nil _ _ _,hB⟩
 case round=>
  clear hB;obtain⟨k,v,vs,hkn,hg,rfl,rfl,i,hB⟩:=hrel;by_cases hlt:k<n
  ·have X:decide ((k:Int)<(n:Int))=true:=decide_eq_true zb;have J:decide (k<n)=true:=decide_eq_true hlt;have i1:(0:Int)<=(k:Int):=zb;have i2:(k:Int)<(n:Int):=zb;obtain⟨ad,Bk,dk,rfl,-,hck,t⟩:=HM.o.row hB hlt;by_cases hk:(k:Int)=z
   ·have Y:((k:Int) !=z)=false:=by rw [hk];simp
    have HE:zd (wP M z (k+1)=wP M z k):=by show _=_;rw [wP,if_pos hk]
    have d:=za i;have HB:=za hB;clear i hB hk t;go_wp2;go_roundg (n - k)
    case measure=>omega
    case rel=>exact⟨k+1,_,_,zb,zb,by go_num,rfl,HE.o▸d.o,HB.o⟩
   ·have Y:((k:Int) !=z)=true:=by simp [hk]
    have HE:zd (wP M z (k+1)=wP M z k++[M.getD k []]):=by show _=_;rw [wP,if_neg hk]
    have E:=za (HD.o.row hlt);have aa:=Zp M z k;obtain⟨q,hq⟩:∃q,(wP M z k).length=q:=⟨_,rfl⟩;rw [hq] at aa;obtain⟨Lk,I⟩:∃L,M.getD k []=L:=⟨_,rfl⟩;rw [I] at t HE E;obtain⟨t1,t2,-⟩:=zw wr 79 #[.slice Bk m dk];have d:=za (i.below (zN xu) t1);have HR:=za (zY.below xu t t1);have HB:=za (zc hB t1);have o:=d.o.own;rw [hq] at o;have H:=za o;have S:=za hq;have T:=za d.o.sl;have C:=za (wT wr (.slice Bk m dk) 79);have D:=za HB.o.size;have R:=za (λr (h:v.ownBlock=some r)=>d.o.own.lt r h);have U:zd (∀u ∈(Value.slice none 0 0).cells.toList,yp u):=by intro u hu;simp [Value.cells] at hu;exact⟨_,_,_,hu⟩
    have Q:zd (∀u ∈ [Value.slice Bk m dk],yp u):=by intro u hu;simp at hu;exact⟨_,_,_,hu⟩
    have G:zd (∀u ∈ [Value.slice Bk m dk],u.oneCell'=true):=by intro u hu;simp at hu;subst hu;rfl
    clear i t hB t1 t2 o hk I hq;go_upto_region 6 with fail;go_wp2_with (at_builtin;go_loud (refine gP _ rfl (.tmp 16) (.tmp 21) 31 rfl w.heap.size 79 i9 (.slice none 0 0) 1 24 underlying31 Z ae N O rfl zg v q vs rfl H.o ⟨wr.heap.size,0,none⟩ 1 1 [.slice Bk m dk] rfl rfl C.o G.o (by unfold maxLen;omega) zb D.o T.o U.o Q.o ?_;intro v' w8 s a V y;have j:=yk.grow (n:=q+1) (L:=Lk) (zN xu) d.o HR.o E.o s (by rw [S.o]) a y;rw [<-HE.o] at j;have F:=za j;have B:=za (HB.o.grown a D.o (λr hr=>(R.o r hr).1));clear j s a V y));go_roundg (n - k)
    case measure=>omega
    case rel=>exact⟨k+1,_,_,zb,zb,by go_num,rfl,F.o,B.o⟩
  ·have hk:k=n:=zb;subst hk;have X:decide ((k:Int)<(k:Int))=false:=zE;have J:decide (k<k)=false:=zE;obtain⟨A7,c7,rfl,K⟩:=i.refm (n:=(wP M z k).length) ⟨rfl,bX HD.o z k (qY _)⟩ (qL (Zp M z k) ac) ab;have P:=za K;have B:=za hB;clear i K hB;go_wp2;go_ret;exact⟨A7,c7,rfl,P.o,B.o⟩
