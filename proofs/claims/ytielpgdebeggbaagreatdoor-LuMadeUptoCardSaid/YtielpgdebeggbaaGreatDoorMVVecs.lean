/- What this claim leans on. -/
import Derived.Test.YtielpgdebeggbaaGreatDoorMMMath
set_option linter.unusedVariables false
set_option linter.unusedSimpArgs false
namespace Go.Proofs.YtielpgdebeggbaaGreatDoor
open Go Go.RowKit Go.Proofs.Tryz
set_option maxHeartbeats 16000000
variable {cs:Array Value}{Ls:List (List Rat)}{xs:List Rat}{vs:List Value}{a c g n:Nat}{t:TypeId}{v:Value}{w w':World}{A:ze}
def xg (u:Value):Prop:=∃A n c,u=.slice A n c
def wB (w:World)(v:Value):Prop:=∀g,v.ownBlock=some g->∃(cur:Array Value) (e:TypeId),w.heap[g]?=some (.cells cur e (0,0))/\∀u ∈ cur.toList,xg u
theorem wB.nil (w:World)(c:Nat):wB w (.slice none 0 c):=λg h=>by simp [Value.ownBlock] at h
theorem wB.block (h:wB w v)(hg:∀g,v.ownBlock=some g->w'.heap[g]?=w.heap[g]?):wB w' v:=λg e=>by
 obtain⟨a,t,h1,h2⟩:=h g e;exact⟨a,t,(hg g e).trans h1,h2⟩
theorem wB.below (h:wB w v)(hb:Below w.heap.size w w'):wB w' v:=λg e=>by
 obtain⟨a,t,h1,h2⟩:=h g e;exact⟨a,t,(hb.block g (Array.getElem?_eq_some_iff.1 h1).1).trans h1,h2⟩
theorem Xu {z:Array Value}{k:Nat}{u:Value}(hz:0<z.size)(hu:u ∈(Builtin.zeroCells z k).toList):u ∈ z.toList:=by
 unfold Builtin.zeroCells at hu;rw [YX,Array.mem_map] at hu;obtain⟨i,_,rfl⟩:=hu;have a:i%z.size<z.size:=xD _ hz;rw [getElem!_pos z (i%z.size) a,YX];exact Array.getElem_mem a
section
variable {P:Program}(w:World)
theorem Wh (o:Nat)(t ty e:TypeId)(i:TypeInfo)(z:Value)(size bytes:Nat)(ht:P.underlying t=some (.slice e))(hi:P.info? e=some i)(hz:i.zero=some z)
  (I:i.size=size) (Q:i.bytes=bytes) (T:z.cells.size=size) (hsz:0<size)
  (v:Value) (n:Nat) (xs:List Value) (h:w.ownsRow o e size v n xs)
  (a:Addr) (m c:Nat) (d:List Value) (hl:d.length=m*size) (A:∀j u,d[j]?=some u->w.cell? (a.add j)=some u) (h1:∀u ∈ d,u.oneCell'=true)
  (K:n+m<=maxLen) (B:(n+m)*bytes<=140737488355328) (E:o<=w.heap.size)
  (hv:wB w v) (S:∀u ∈ z.cells.toList,xg u) (O:∀u ∈ d,xg u):
  ∃ v' w',(Builtin.append_ #[t,t] ty #[v,.slice (some a) m c]).run P w = .ok v' w' ∧ w'.ownsRow o e size v' (n + m) (xs ++ d) ∧ w.grownBy w' v.ownBlock ∧
   (v'.ownBlock=v.ownBlock\/v'.ownBlock=some w.heap.size)/\wB w' v':=by
 subst I;subst Q;have hsmall:n+m<=9223372036854775807:=by simp only [maxLen] at K;omega
 have C:(xs++d).length=(n+m)*i.size:=by rw [qB,h.1,hl,QB]
 have grown : ∀ (old : Nat),old < n + m → (∀ u ∈ xs,xg u) → ∀ (row : Option Nat),
   (w.drew.alloc (.cells (xs.toArray ++ d.toArray ++ Builtin.zeroCells z.cells (grownCap w (n + m) old e - (n + m))) e)).ownsRow o e i.size
     (.slice (some ⟨w.heap.size,0,none⟩) (n+m) (grownCap w (n+m) old e)) (n+m) (xs++d)/\
   w.grownBy (w.drew.alloc (.cells (xs.toArray++d.toArray++Builtin.zeroCells z.cells (grownCap w (n+m) old e - (n+m))) e)) row/\
   wB (w.drew.alloc (.cells (xs.toArray++d.toArray++Builtin.zeroCells z.cells (grownCap w (n+m) old e - (n+m))) e)) (.slice (some ⟨w.heap.size,0,none⟩) (n+m) (grownCap w (n+m) old e)):=by
  intro old ho J row;have R:=grownCap_ge w (n+m) old e;have F:grownCap w (n+m) old e<=maxLen:=grownCap_le_maxLen w (n+m) old e K;refine⟨⟨C,.inr ⟨w.heap.size,_,_,rfl,E,heap_alloc_new w.drew _,R,F,?_,?_⟩⟩,⟨rfl,rfl,rfl,zF,λk hk _=>heap_alloc_old w.drew _ hk⟩,?_⟩
  ·simp only [Array.size_append,XG,size_zeroCells,T,h.1,hl,<-QB];congr 1;omega
  ·simp only [YG,xQ];rw [<-xQ,<-C];exact jJ
  ·intro g hg;simp [Value.ownBlock] at hg;subst hg;refine⟨_,_,heap_alloc_new w.drew _,λu hu=>?_⟩;simp only [YG,yX] at hu;rcases hu with(hu|hu)|hu
   ·exact J u hu
   ·exact O u hu
   ·exact S u (Xu za hu)
 rcases h.2 with⟨rfl,rfl⟩|⟨g,cap,cur,rfl,hbg,hg,hnc,F,hcs,htake⟩
 ·have hx:xs=[]:=QV (by simpa using h.1);subst hx;by_cases hm:m=0
  ·subst hm;have hn:d=[]:=QV (by simpa using hl);subst hn;refine⟨.slice none 0 0,w,?_,XR w o e i.size,⟨rfl,rfl,rfl,qX _,λ_ _ _=>rfl⟩,Or.inl rfl,wB.nil _ _⟩;simp [Builtin.append_,run_underlying ht,sizeOf,typeInfo,hi,Builtin.lenOf,Builtin.firstCells,loadCells,loadCellsFrom]
  ·have hr:=run_append_nil (P:=P) w t ty e i z ht hi hz a m c d hl A za za (by have hb:=B;simp only [xH] at hb;omega);have y:=grown 0 za (λu hu=>by cases hu) (Value.ownBlock (.slice none 0 0));simp only [xH,XM,Array.empty_append] at y⊢;exact⟨_,_,hr,y.1,y.2.1,Or.inr rfl,y.2.2⟩
 ·obtain⟨s,e2,D,G⟩:=hv g rfl;have L:s=cur:=by
   rw [hg] at D;injection D with D;injection D with D;exact D.symm
  subst L;by_cases hroom:n+m<=cap
  ·have M:n*i.size+d.length<=s.size:=by rw [hl,hcs,<-QB];exact qS _ hroom
   have hr:=run_append_room (P:=P) w t ty e i ht hi g n cap s hg a m c d hl A h1 hroom M;refine⟨_,_,hr,⟨C,.inr ⟨g,cap,_,rfl,hbg,setRow_heap w g s _ e _ hg,hroom,F,?_,?_⟩⟩,⟨rfl,rfl,rfl,zF,λk _ hk=>setRow_other w g k _ (λe=>hk (by simp [Value.ownBlock,e]))⟩,Or.inl rfl,?_⟩
   ·simp only [XG,qB,qE,QE,XO];omega
   ·rw [htake,<-C];exact jJ
   ·intro g' N;simp [Value.ownBlock] at N;subst N;refine⟨_,_,setRow_heap w g s _ e _ hg,λu hu=>?_⟩;rw [yX,yX] at hu;rcases hu with(hu|hu)|hu
    ·exact G u (XX hu)
    ·exact O u hu
    ·exact G u (xP hu)
  ·have H:∀j u,xs[j]?=some u->w.cell? ((⟨g,0,none⟩:Addr).add j)=some u:=h.cells (g:=g) rfl;have hr:=run_append_grow (P:=P) w t ty e i z ht hi hz ⟨g,0,none⟩ n cap xs h.1 H a m c d hl A za za (growslice_fits za B);have J:∀u ∈ xs,xg u:=λu hu=>G u (XX (by rw [htake];exact hu));have y:=grown cap za J (Value.ownBlock (.slice (some ⟨g,0,none⟩) n cap));exact⟨_,_,hr,y.1,y.2.1,Or.inr rfl,y.2.2⟩
theorem Zh {D:Array Oper}{rest:List Oper}{o:Oper}{a:Act}{Q:Exit->Act->World->Prop}(G:o.guard=none)(s x:Operand)(t:TypeId)
  (ho:o.op=.call {callee:=.builtin .append,args:=#[s,x],argTypes:=#[t,t]})
  (g:Nat) (e:TypeId) (i:TypeInfo) (z:Value) (size bytes:Nat) (ht:P.underlying t=some (.slice e)) (hi:P.info? e=some i) (hz:i.zero=some z)
  (B:i.size=size) (F:i.bytes=bytes) (J:z.cells.size=size) (hsz:0<size)
  (v:Value) (n:Nat) (xs:List Value) (hs:a.eval s=v) (C:w.ownsRow g e size v n xs)
  (ad:Addr) (m c:Nat) (d:List Value) (hx:a.eval x=.slice (some ad) m c) (hl:d.length=m*size) (A:∀j u,d[j]?=some u->w.cell? (ad.add j)=some u) (h1:∀u ∈ d,u.oneCell'=true)
  (E:n+m<=maxLen) (k:(n+m)*bytes<=140737488355328) (y:g<=w.heap.size)
  (hv:wB w v) (I:∀u ∈ z.cells.toList,xg u) (H:∀u ∈ d,xg u)
  (h:∀v' w',w'.ownsRow g e size v' (n+m) (xs++d)->w.grownBy w' v.ownBlock->(v'.ownBlock=v.ownBlock\/v'.ownBlock=some w.heap.size)->wB w' v'->wpList P D Q rest (a.put o.dst v') w'):
  wpList P D Q (o::rest) a w:=by
 refine wpList_plain G λK hK=>?_;obtain⟨v',w',hr,h2,h3,h4,h5⟩:=Wh (P:=P) w g t o.type e i z size bytes ht hi hz B F J hsz v n xs C ad m c d hl A h1 E k y hv I H;unfold Oper.wp execOp;simp only [ho,resolve,invoke,builtin,Sem.run_bind,Sem.run_pure,Result.andThen_ok,yM,yQ,List.map_nil,hs,hx,hr];exact hK _ _ (h v' w' h2 h3 h4 h5)
end
theorem wB.blk (h:wB w v)(hg:v.ownBlock=some g):∃(t:TypeId) (cs:Array Value),zh w g t cs/\∀u ∈ cs.toList,xg u:=by
 obtain⟨a,e,h1,h2⟩:=h g hg;exact⟨e,a,h1,h2⟩
theorem oG (h:zR w A n c xs)(hk:zh w g t cs)(hs:∀u ∈ cs.toList,xg u)(ho:zZ g w w'):zR w' A n c xs:=by
 refine⟨h.len,h.fits,h.most,λi x hi=>?_⟩;obtain⟨ad,b,B,m,d,F,u,v,e,h1,h2,h3,h4,h5⟩:=h.num i x hi;have a:ad.block≠g:=λhg=>by
  have hb:(ad.add (i*3)).block=g:=by rw [y4];exact hg
  generalize ad.add (i*3)=q at hb h2;obtain⟨bk,off,pr⟩:=q;simp only at hb;subst hb;unfold zh at hk;cases pr with
  |none=>
    rw [show w.cell? ⟨bk,off,none⟩=cs[off]? from cell_of_row w bk off _ t (0,0) hk,<-QS] at h2;obtain⟨A9,n9,c9,e9⟩:=hs _ (QX h2);cases e9
  |some q=>simp [World.cell?,hk] at h2
 have o:y9 cs:=λq hq k z e9=>by
  obtain⟨A9,n9,c9,e8⟩:=hs q hq;rw [e8] at e9;cases e9
 have hc:∀j,w'.cell? (ad.add j)=w.cell? (ad.add j):=λj=>ho.2 _ (by rw [y4];exact h1) (by rw [y4];exact a);exact⟨ad,b,B,m,d,F,u,v,e,qJ h1 ho.1,(hc _).trans h2,(hc _).trans h3,(hc _).trans h4,z6.offg h5 hk o ho⟩
theorem VP (h:zR w A n c xs)(hg:w.grownBy w' v.ownBlock)(hn:wB w v):zR w' A n c xs:=by
 cases hv:v.ownBlock with
 |none=>rw [hv] at hg;exact h.keep (uI hg)
 |some g=>
   rw [hv] at hg;obtain⟨t,cs,hk,hc⟩:=hn.blk hv;exact oG h hk hc (zZ.of_grown hg)
structure sX (w:World)(base:Nat)(v:Value)(Ls:List (List Rat))(vs:List Value):Prop where
 own:w.ownsRow base 41 1 v Ls.length vs
 sl:wB w v
 num:∀(i:Nat) (L:List Rat),Ls[i]?=some L->∃(B:ze) (d:Nat),vs[i]?=some (Value.slice B L.length d)/\zR w B L.length d L
theorem sX.nil (w:World)(a:Nat):sX w a (.slice none 0 0) [] []:=⟨XR _ _ _ _,wB.nil _ _,λi L hi=>by simp at hi⟩
theorem sX.len (h:sX w a v Ls vs):vs.length=Ls.length:=by have:=h.own.1;omega
theorem sX.shape {n:Nat}(h:sX w a v Ls vs)(hn:Ls.length=n):∃A c,v=.slice A n c/\gI w A n Ls:=by
 subst hn;obtain⟨A,c,e,h1,h2,h3⟩:=zN.of_grown_own h.own;refine⟨A,c,e,rfl,λi L hi=>?_⟩;obtain⟨B,d,hv,hw⟩:=h.num i L hi;have hlt:=(List.getElem?_eq_some_iff.1 hi).1;obtain⟨ad,ea,hb,hc⟩:=h3.2 za;exact⟨ad,B,d,ea,hb,hc i _ hv,hw⟩
theorem sX.below (h:sX w a v Ls vs)(hb:Below w.heap.size w w'):sX w' a v Ls vs:=by
 refine⟨⟨h.own.1,?_⟩,h.sl.below hb,λi L hi=>?_⟩
 ·rcases h.own.2 with h1|⟨g,cap,cur,e1,e2,e3,e4⟩
  ·exact .inl h1
  ·exact .inr ⟨g,cap,cur,e1,e2,(hb.block g (zh.lt (t:=41) (cs:=cur) e3)).trans e3,e4⟩
 ·obtain⟨B,d,hv,hw⟩:=h.num i L hi;exact⟨B,d,hv,hw.keep hb⟩
theorem sX.grow {n:Nat}{v':Value}{L:List Rat}{B:ze}{d:Nat}(h:sX w a v Ls vs)(hx:zR w B L.length d L)
  (ho:w'.ownsRow a 41 1 v' n (vs++[.slice B L.length d])) (hn:n=Ls.length+1) (hg:w.grownBy w' v.ownBlock) (hs:wB w' v'):sX w' a v' (Ls++[L]) (vs++[.slice B L.length d]):=by
 have hl:=h.len;refine⟨by rw [qB,YB,<-hn];exact ho,hs,λi M hi=>?_⟩;by_cases hlt:i<Ls.length
 ·rw [QP hlt] at hi;obtain⟨C,e,hv,hw⟩:=h.num i M hi;exact⟨C,e,by rw [QP za];exact hv,VP hw hg h.sl⟩
 ·rw [QJ za] at hi;have g:i=Ls.length:=by
   have:=(List.getElem?_eq_some_iff.1 hi).1;simp at this;omega
  subst g;obtain rfl:L=M:=by
   rw [XK] at hi;injection hi
  exact⟨B,d,by rw [QJ za,hl,XK];rfl,VP hx hg h.sl⟩
theorem kG:(prog.info? 41).map (λi=>(i.zero,i.size,i.bytes))=some (some (.slice none 0 0),1,24):=yd
theorem gI.get (h:gI w A n Ls){i m:Nat}(hi:i<n)(hm:(Ls.getD i []).length=m):∃(ad:Addr) (B:ze) (d:Nat),A=some ad/\w.cell? (ad.add i)=some (.slice B m d)/\zR w B m d (Ls.getD i []):=by
 have hl:=h.len;obtain⟨ad,B,d,e,_,h1,h2⟩:=h.num i _ (ws (d:=[]) za);rw [hm] at h1 h2;exact⟨ad,B,d,e,h1,h2⟩
abbrev nf:=Nat->ze×Nat×Nat×List (Int×Int)
section
variable {α:Type}{E:El α}
theorem lj {xs:List α}(h:yg E w A n c xs)(hk:zh w g t cs)(hs:∀u ∈ cs.toList,∀b,u≠.bool b):0<n->∀ad,A=some ad->ad.block≠g:=λhn a e0 hg=>by
 have hl:=h.len;have h0:0<xs.length:=za;obtain⟨ad,b,B,m,d,F,u,v,e,h1,h2,h3,h4,h5⟩:=h.num 0 _ (qY h0);obtain rfl:a=ad:=by rw [e0] at e;injection e
 have hb:(a.add (0*3)).block=g:=by rw [y4];exact hg
 generalize a.add (0*3)=q at hb h2;obtain⟨bk,off,pr⟩:=q;simp only at hb;subst hb;unfold zh at hk;cases pr with
 |none=>
   rw [show w.cell? ⟨bk,off,none⟩=cs[off]? from cell_of_row w bk off _ t (0,0) hk,<-QS] at h2;exact hs _ (QX h2) b rfl
 |some q=>simp [World.cell?,hk] at h2
theorem TH {xs:List α}(h:yg E w A n c xs)(hk:zh w g t cs)(hs:∀u ∈ cs.toList,∀b,u≠.bool b)(ho:zZ g w w')
  (hE:∀{x:α} {b:Bool} {A:ze} {n c:Nat} {F:ze} {k f:Nat},E w x b A n c F k f->E w' x b A n c F k f):yg E w' A n c xs:=by
 have a:=lj h hk hs;refine⟨h.len,h.fits,h.most,λi x hi=>?_⟩;have hl:=h.len;have hlt:=(List.getElem?_eq_some_iff.1 hi).1;obtain⟨ad,b,B,m,d,F,u,v,e,h1,h2,h3,h4,h5⟩:=h.num i x hi;have hc:∀j,w'.cell? (ad.add j)=w.cell? (ad.add j):=λj=>ho.2 _ (by rw [y4];exact h1) (by rw [y4];exact a za ad e);exact⟨ad,b,B,m,d,F,u,v,e,qJ h1 ho.1,(hc _).trans h2,(hc _).trans h3,(hc _).trans h4,hE h5⟩
theorem PY (hs:∀u ∈ cs.toList,xg u):∀u ∈ cs.toList,∀b,u≠.bool b:=λu hu b e=>by
 obtain⟨A,n,c,e2⟩:=hs u hu;rw [e2] at e;cases e
theorem jt (hs:∀u ∈ cs.toList,xg u):y9 cs:=λq hq k z e9=>by
 obtain⟨A9,n9,c9,e8⟩:=hs q hq;rw [e8] at e9;cases e9
theorem U7 (hE:tY E){w w':World}{A:ze}{n c g:Nat}{xs:List α}{t:TypeId}{cs:Array Value}(h:yg E w A n c xs)(hk:zh w g t cs)(hs:∀u ∈ cs.toList,xg u)(ho:zZ g w w'):yg E w' A n c xs:=
 TH h hk (PY hs) ho (λh5=>hE.offg h5 hk (jt hs) ho)
end
abbrev RP (α:Type):=World->ze->Nat->Nat->List α->Prop
structure tp {α:Type}(R:RP α):Prop where
 len:∀{w:World} {A:ze} {n c:Nat} {xs:List α},R w A n c xs->xs.length=n
 below:∀{w w':World} {A:ze} {n c:Nat} {xs:List α},R w A n c xs->Below w.heap.size w w'->R w' A n c xs
 offS:∀{w w':World} {A:ze} {n c g:Nat} {xs:List α} {t:TypeId} {cs:Array Value},R w A n c xs->zh w g t cs->(∀u ∈ cs.toList,xg u)->zZ g w w'->R w' A n c xs
 nil:∀w:World,R w none 0 0 []
theorem xe {α:Type}{E:El α}(hE:tY E):tp (yg E):=⟨λh=>h.len,λh hb=>h.below hE hb,λh hk hs ho=>U7 hE h hk hs ho,λw=>yg.nil w⟩
theorem tp.grown {α:Type}{R:RP α}(hR:tp R){w w':World}{v:Value}{A:ze}{n c:Nat}{xs:List α}(h:R w A n c xs)(hg:w.grownBy w' v.ownBlock)(hn:wB w v):R w' A n c xs:=by
 cases hv:v.ownBlock with
 |none=>rw [hv] at hg;exact hR.below h (uI hg)
 |some g=>
   rw [hv] at hg;obtain⟨t,cs,hk,hc⟩:=hn.blk hv;exact hR.offS h hk hc (zZ.of_grown hg)
section
variable {α:Type}{R:RP α}
structure yx (R:RP α)(w:World)(A:ze)(n:Nat)(Ls:List (List α)):Prop where
 len:Ls.length=n
 num:∀i L,Ls[i]?=some L->∃(ad:Addr) (B:ze) (d:Nat),A=some ad/\ad.block<w.heap.size/\w.cell? (ad.add i)=some (.slice B L.length d)/\R w B L.length d L
theorem yx.below (hR:tp R){w w':World}{A:ze}{n:Nat}{Ls:List (List α)}(h:yx R w A n Ls)(hb:Below w.heap.size w w'):yx R w' A n Ls:=
 ⟨h.len,λi L hi=>by
  obtain⟨ad,B,d,e,h1,h2,h3⟩:=h.num i L hi;exact⟨ad,B,d,e,qJ h1 hb.size,zw hb h2,hR.below h3 hb⟩⟩
theorem yx.nil (w:World)(A:ze):yx R w A 0 []:=⟨rfl,λi L hi=>by simp at hi⟩
theorem yx.get (hR:tp R){w wr:World}{A:ze}{n m:Nat}{Ls:List (List α)}(h:yx R w A n Ls)(hb:Below w.heap.size w wr){i:Nat}(hi:i<n)(hm:(Ls.getD i []).length=m):∃(ad:Addr) (B:ze) (d:Nat),A=some ad/\ad.block<w.heap.size/\wr.cell? (ad.add i)=some (.slice B m d)/\R wr B m d (Ls.getD i []):=by
 have hl:=h.len;obtain⟨ad,B,d,e,h1,h2,h3⟩:=h.num i _ (ws (d:=[]) za);rw [hm] at h2 h3;exact⟨ad,B,d,e,h1,zw hb h2,hR.below h3 hb⟩
theorem yx.off {Ls:List (List α)}(h:yx R w A n Ls)(hf:∀ad,A=some ad->ad.block≠g)(ho:zZ g w w')(a:∀{B:ze} {m d:Nat} {L:List α},R w B m d L->R w' B m d L):yx R w' A n Ls:=
 ⟨h.len,λi L hi=>by
  obtain⟨ad,B,d,e,h1,h2,h3⟩:=h.num i L hi;exact⟨ad,B,d,e,qJ h1 ho.1,(ho.2 _ (by rw [y4];exact h1) (by rw [y4];exact hf ad e)).trans h2,a h3⟩⟩
structure wn (R:RP α)(w:World)(t:TypeId)(g n:Nat)(Ls:List (List α)):Prop where
 len:Ls.length=n
 blk:∃cs:Array Value,zh w g t cs/\(∀u ∈ cs.toList,xg u)/\cs.size=n
 num:∀i L,Ls[i]?=some L->∃(B:ze) (d:Nat),w.cell? ⟨g,i,none⟩=some (.slice B L.length d)/\R w B L.length d L
theorem wn.lt {t:TypeId}{Ls:List (List α)}(h:wn R w t g n Ls):g<w.heap.size:=by
 obtain⟨cs,hk,_⟩:=h.blk;exact hk.lt
theorem wn.below (hR:tp R){w w':World}{t:TypeId}{g n:Nat}{Ls:List (List α)}(h:wn R w t g n Ls)(hb:Below w.heap.size w w'):wn R w' t g n Ls:=by
 refine⟨h.len,?_,λi x hi=>?_⟩
 ·obtain⟨cs,hk,h1,h2⟩:=h.blk;exact⟨cs,zg hb hk,h1,h2⟩
 ·obtain⟨B,d,h1,h2⟩:=h.num i x hi;exact⟨B,d,zw hb h1,hR.below h2 hb⟩
theorem wn.rows {Ls:List (List α)}(h:wn R w t g n Ls):yx R w (some ⟨g,0,none⟩) n Ls:=
 ⟨h.len,λi x hi=>by
  obtain⟨B,d,h1,h2⟩:=h.num i x hi;exact⟨_,B,d,rfl,h.lt,by rw [xv];exact h1,h2⟩⟩
theorem wn.ready {Ls:List (List α)}(h:wn R w t g n Ls){i:Nat}(hi:i<n):∃a:Value,w.cell? ⟨g,i,none⟩=some a/\w.frozen? ⟨g,i,none⟩=false:=by
 obtain⟨cs,hk,h1,h2⟩:=h.blk;have e0:i<cs.size:=za;exact⟨_,(hk.cell _).trans (QU e0),hk.frozen _⟩
theorem wn.set_ (hR:tp R){w:World}{t:TypeId}{g n m:Nat}{Ls:List (List α)}(h:wn R w t g n Ls){i:Nat}(hi:i<n){L:List α}{B:ze}{d:Nat}(hx:R w B m d L)(hm:L.length=m):
  wn R (w.setCell ⟨g,i,none⟩ (.slice B m d)) t g n (Ls.set i L):=by
 subst hm;obtain⟨cs,hk,h1,h2⟩:=h.blk;have ho:zZ g w (w.setCell ⟨g,i,none⟩ (.slice B L.length d)):=zZ.of_far ((zT.refl g w).set_ i _);have a:=hk.set_ i (.slice B L.length d);refine⟨by rw [QY];exact h.len,⟨_,a,?_,by simp;exact h2⟩,λj y hj=>?_⟩
 ·intro u hu;rw [QO] at hu;rcases xJ hu with hu|rfl
  ·exact h1 u hu
  ·exact⟨_,_,_,rfl⟩
 ·by_cases hij:i=j
  ·subst hij;have hl:=h.len;rw [XQ za] at hj;injection hj with hj;subst hj;refine⟨B,d,?_,hR.offS hx hk h1 ho⟩;rw [a.cell,QZ za]
  ·rw [XY hij] at hj;obtain⟨B',d',c1,c2⟩:=h.num j y hj;refine⟨B',d',?_,hR.offS c2 hk h1 ho⟩;rw [a.cell,qK za,<-hk.cell];exact c1
def iA:Array Value:=#[.slice none 0 0]
theorem oT (n:Nat):∀u ∈(madeCells iA n).toList,xg u:=by
 intro v hv;rw [YX,Array.mem_iff_getElem?] at hv;obtain⟨j,hj⟩:=hv;have a:j<n:=by
  have:=(Array.getElem?_eq_some_iff.1 hj).1;rwa [size_madeCells] at this
 rw [kj _ _ _ a,show iA.size=1 from rfl,XZ] at hj;simp [iA] at hj;exact⟨_,_,_,hj.symm⟩
theorem wn.made (hR:tp R)(w:World)(t:TypeId)(n:Nat):wn R (w.alloc (.cells (madeCells iA n) t)) t w.heap.size n (List.replicate n []):=by
 have hk:=zh.new w t (madeCells iA n);refine⟨zF,⟨_,hk,oT _,size_madeCells _ _⟩,λi x hi=>?_⟩;have a:i<n:=by
  have:=(List.getElem?_eq_some_iff.1 hi).1;simpa using this
 obtain rfl:[]=x:=by
  rw [List.getElem?_replicate,if_pos a] at hi;injection hi
 refine⟨none,0,?_,hR.nil _⟩;rw [hk.cell,kj _ _ _ a,show iA.size=1 from rfl,XZ];rfl
structure wv (R:RP α)(w:World)(base:Nat)(t:TypeId)(v:Value)(Ls:List (List α))(vs:List Value):Prop where
 own:w.ownsRow base t 1 v Ls.length vs
 sl:wB w v
 num:∀(i:Nat) (L:List α),Ls[i]?=some L->∃(B:ze) (d:Nat),vs[i]?=some (Value.slice B L.length d)/\R w B L.length d L
theorem wv.nil (w:World)(a:Nat)(t:TypeId):wv R w a t (.slice none 0 0) [] []:=⟨XR _ _ _ _,wB.nil _ _,λi L hi=>by simp at hi⟩
theorem wv.len {Ls:List (List α)}(h:wv R w a t v Ls vs):vs.length=Ls.length:=by have:=h.own.1;omega
theorem wv.shape {n:Nat}{Ls:List (List α)}(h:wv R w a t v Ls vs)(hn:Ls.length=n):∃A c,v=.slice A n c/\n<=c/\c<=9223372036854775807/\yx R w A n Ls/\∀ad,A=some ad->a<=ad.block:=by
 subst hn;rcases h.own.2 with⟨rfl,h0⟩|⟨g,cap,cur,rfl,hbg,hg,hnc,hcm,hcs,htake⟩
 ·have hx:Ls=[]:=QV h0;subst hx;exact⟨none,0,rfl,qX _,zf,yx.nil w none,λad e=>by cases e⟩
 ·have j:=h.own.cells (g:=g) rfl;refine⟨some ⟨g,0,none⟩,cap,rfl,hnc,by unfold maxLen at hcm;omega,⟨rfl,λi L hi=>?_⟩,λad e=>by injection e with e;subst e;exact hbg⟩;obtain⟨B,d,hv,hw⟩:=h.num i L hi;exact⟨_,B,d,rfl,(Array.getElem?_eq_some_iff.1 hg).1,j _ _ hv,hw⟩
theorem wv.below (hR:tp R){w w':World}{a:Nat}{t:TypeId}{v:Value}{Ls:List (List α)}{vs:List Value}(h:wv R w a t v Ls vs)(hb:Below w.heap.size w w'):wv R w' a t v Ls vs:=by
 refine⟨⟨h.own.1,?_⟩,h.sl.below hb,λi L hi=>?_⟩
 ·rcases h.own.2 with h1|⟨g,cap,cur,e1,e2,e3,e4⟩
  ·exact .inl h1
  ·exact .inr ⟨g,cap,cur,e1,e2,(hb.block g (zh.lt (t:=t) (cs:=cur) e3)).trans e3,e4⟩
 ·obtain⟨B,d,hv,hw⟩:=h.num i L hi;exact⟨B,d,hv,hR.below hw hb⟩
theorem wv.grow (hR:tp R){w w':World}{a n m:Nat}{t:TypeId}{v v':Value}{Ls:List (List α)}{vs:List Value}{L:List α}{B:ze}{d:Nat}(h:wv R w a t v Ls vs)(hx:R w B m d L)(hm:L.length=m)
  (ho:w'.ownsRow a t 1 v' n (vs++[.slice B m d])) (hn:n=Ls.length+1) (hg:w.grownBy w' v.ownBlock) (hs:wB w' v'):wv R w' a t v' (Ls++[L]) (vs++[.slice B m d]):=by
 subst hm;have hl:=h.len;refine⟨by rw [qB,YB,<-hn];exact ho,hs,λi M hi=>?_⟩;by_cases hlt:i<Ls.length
 ·rw [QP hlt] at hi;obtain⟨C,e,hv,hw⟩:=h.num i M hi;exact⟨C,e,by rw [QP za];exact hv,hR.grown hw hg h.sl⟩
 ·rw [QJ za] at hi;have g:i=Ls.length:=by
   have:=(List.getElem?_eq_some_iff.1 hi).1;simp at this;omega
  subst g;obtain rfl:L=M:=by
   rw [XK] at hi;injection hi
  exact⟨B,d,by rw [QJ za,hl,XK];rfl,hR.grown hx hg h.sl⟩
theorem VF (hR:tp R){w:World}{g:Nat}{t:TypeId}{A B:ze}{n m c d:Nat}{xs ys:List α}(h:zh w g t #[.slice A n c,.slice B m d])(h1:R w A n c xs)(h2:R w B m d ys):yx R w (some ⟨g,0,none⟩) 2 [xs,ys]:=by
 refine⟨rfl,λi L hi=>?_⟩;have a:=hR.len h1;have j:=hR.len h2
 match i,hi with
 |0,hi=>
   obtain rfl:xs=L:=by simpa using hi
   rw [a];exact⟨_,A,c,rfl,h.lt,by rw [xv];exact h.cell 0,h1⟩
 |1,hi=>
   obtain rfl:ys=L:=by simpa using hi
   rw [j];exact⟨_,B,d,rfl,h.lt,by rw [xv];exact h.cell 1,h2⟩
 |i+2,hi=>simp at hi
end
theorem cV (n:Nat)(hn:n<=1099511627776):∃Z:Array Value,∀W:World,(Instr.makeSlice 26 (.int .i64 (n:Int)) (.int .i64 (n:Int))).run prog W=.ok (.slice (some ⟨W.heap.size,0,none⟩) n n) (W.alloc (.cells Z 41))/\wn (yg zo) (W.alloc (.cells Z 41)) 41 W.heap.size n (List.replicate n []):=by
 obtain⟨i0,a,d,g,i⟩:=info_parts kG;refine⟨madeCells iA n,λW=>⟨?_,wn.made (xe z6) W _ n⟩⟩;have h:=oN (P:=prog) _ _ i0 _ underlying26 a d .i64 .i64 n n (qX _) (by rw [i];omega) za W;rw [g,xO] at h;exact h
theorem iE {P:Program}(w:World){o:Oper}{a:Act}{K:Act->World->Prop}{Q:Exit->Act->World->Prop}(s x:Operand)(t:TypeId)
  (ho:o.op=.call {callee:=.builtin .append,args:=#[s,x],argTypes:=#[t,t]})
  (g:Nat) (e:TypeId) (i:TypeInfo) (z:Value) (size bytes:Nat) (ht:P.underlying t=some (.slice e)) (hi:P.info? e=some i) (hz:i.zero=some z)
  (B:i.size=size) (E:i.bytes=bytes) (H:z.cells.size=size) (hsz:0<size)
  (v:Value) (n:Nat) (xs:List Value) (hs:a.eval s=v) (C:w.ownsRow g e size v n xs)
  (ad:Addr) (m c:Nat) (d:List Value) (hx:a.eval x=.slice (some ad) m c) (hl:d.length=m*size) (A:∀j u,d[j]?=some u->w.cell? (ad.add j)=some u) (h1:∀u ∈ d,u.oneCell'=true)
  (D:n+m<=maxLen) (k:(n+m)*bytes<=140737488355328) (y:g<=w.heap.size)
  (hv:wB w v) (G:∀u ∈ z.cells.toList,xg u) (F:∀u ∈ d,xg u)
  (h:∀v' w',w'.ownsRow g e size v' (n+m) (xs++d)->w.grownBy w' v.ownBlock->(v'.ownBlock=v.ownBlock\/v'.ownBlock=some w.heap.size)->wB w' v'->K (a.put o.dst v') w'):Oper.wp P o a w K Q:=by
 obtain⟨v',w',hr,h2,h3,h4,h5⟩:=Wh (P:=P) w g t o.type e i z size bytes ht hi hz B E H hsz v n xs C ad m c d hl A h1 D k y hv G F;unfold Oper.wp execOp;simp only [ho,resolve,invoke,builtin,Sem.run_bind,Sem.run_pure,Result.andThen_ok,yM,yQ,List.map_nil,hs,hx,hr];exact h v' w' h2 h3 h4 h5
