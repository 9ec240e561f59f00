/- What this claim leans on. -/
import Derived.Test.YtdfdjfiognhbgaaGreatDoorDBunP
import Derived.Test.YtdfdjfiognhbgaaGreatDoorDR7Ref
set_option linter.unusedVariables false
set_option linter.unusedSimpArgs false
namespace Go.Proofs.YtdfdjfiognhbgaaGreatDoor
open Go Go.RowKit Go.Proofs.Tryz
set_option maxHeartbeats 16000000
variable {cs:Array Value}{b:Bool}{z:Int}{Ls:List (List Rat)}{xs:List Rat}{vs:List Value}{B K a c g n x:Nat}{t:TypeId}{v:Value}{w w':World}{T:World->Prop}{A:ze}
def yp (u:Value):Prop:=∃A n c,u=.slice A n c
def wu (w:World)(v:Value):Prop:=∀g,v.ownBlock=some g->∃(cur:Array Value) (e:TypeId),w.heap[g]?=some (.cells cur e (0,0))/\∀u ∈ cur.toList,yp u
theorem wu.nil (w:World)(c:Nat):wu w (.slice none 0 c):=λg h=>by simp [Value.ownBlock] at h
theorem wu.block (h:wu w v)(hg:∀g,v.ownBlock=some g->w'.heap[g]?=w.heap[g]?):wu w' v:=λg e=>by
 obtain⟨a,t,h1,h2⟩:=h g e;exact⟨a,t,(hg g e).trans h1,h2⟩
theorem wu.below (h:wu w v)(hb:Below w.heap.size w w'):wu w' v:=λg e=>by
 obtain⟨a,t,h1,h2⟩:=h g e;exact⟨a,t,(hb.block g (Array.getElem?_eq_some_iff.1 h1).1).trans h1,h2⟩
theorem Yb {z:Array Value}{k:Nat}{u:Value}(hz:0<z.size)(hu:u ∈(Builtin.zeroCells z k).toList):u ∈ z.toList:=by
 unfold Builtin.zeroCells at hu;rw [yT,Array.mem_map] at hu;obtain⟨i,_,rfl⟩:=hu;have a:i%z.size<z.size:=QH _ hz;rw [getElem!_pos z (i%z.size) a,yT];exact Array.getElem_mem a
section
variable {P:Program}(w:World)
theorem Yg (s:Nat)(t ty e:TypeId)(i:TypeInfo)(z:Value)(size bytes:Nat)(ht:P.underlying t=some (.slice e))(hi:P.info? e=some i)(hz:i.zero=some z)
  (I:i.size=size) (Q:i.bytes=bytes) (T:z.cells.size=size) (hsz:0<size)
  (v:Value) (n:Nat) (xs:List Value) (o:w.ownsRow s e size v n xs)
  (a:Addr) (m c:Nat) (d:List Value) (hl:d.length=m*size) (B:∀j u,d[j]?=some u->w.cell? (a.add j)=some u) (h1:∀u ∈ d,u.oneCell'=true)
  (K:n+m<=maxLen) (C:(n+m)*bytes<=140737488355328) (F:s<=w.heap.size)
  (hv:wu w v) (S:∀u ∈ z.cells.toList,yp u) (O:∀u ∈ d,yp u):
  ∃ v' w',(Builtin.append_ #[t,t] ty #[v,.slice (some a) m c]).run P w = .ok v' w' ∧ w'.ownsRow s e size v' (n + m) (xs ++ d) ∧ w.grownBy w' v.ownBlock ∧
   (v'.ownBlock=v.ownBlock\/v'.ownBlock=some w.heap.size)/\wu w' v':=by
 subst I;subst Q;have hsmall:n+m<=9223372036854775807:=by simp only [maxLen] at K;omega
 have D:(xs++d).length=(n+m)*i.size:=by rw [QV,o.1,hl,QE]
 have grown : ∀ (old : Nat),old < n + m → (∀ u ∈ xs,yp u) → ∀ (row : Option Nat),
   (w.drew.alloc (.cells (xs.toArray ++ d.toArray ++ Builtin.zeroCells z.cells (grownCap w (n + m) old e - (n + m))) e)).ownsRow s e i.size
     (.slice (some ⟨w.heap.size,0,none⟩) (n+m) (grownCap w (n+m) old e)) (n+m) (xs++d)/\
   w.grownBy (w.drew.alloc (.cells (xs.toArray++d.toArray++Builtin.zeroCells z.cells (grownCap w (n+m) old e - (n+m))) e)) row/\
   wu (w.drew.alloc (.cells (xs.toArray++d.toArray++Builtin.zeroCells z.cells (grownCap w (n+m) old e - (n+m))) e)) (.slice (some ⟨w.heap.size,0,none⟩) (n+m) (grownCap w (n+m) old e)):=by
  intro old ho J row;have R:=grownCap_ge w (n+m) old e;have G:grownCap w (n+m) old e<=maxLen:=grownCap_le_maxLen w (n+m) old e K;refine⟨⟨D,.inr ⟨w.heap.size,_,_,rfl,F,heap_alloc_new w.drew _,R,G,?_,?_⟩⟩,⟨rfl,rfl,rfl,zE,λk hk _=>heap_alloc_old w.drew _ hk⟩,?_⟩
  ·simp only [Array.size_append,XG,size_zeroCells,T,o.1,hl,<-QE];congr 1;omega
  ·simp only [YU,xJ];rw [<-xJ,<-D];exact jX
  ·intro g hg;simp [Value.ownBlock] at hg;subst hg;refine⟨_,_,heap_alloc_new w.drew _,λu hu=>?_⟩;simp only [YU,yY] at hu;rcases hu with(hu|hu)|hu
   ·exact J u hu
   ·exact O u hu
   ·exact S u (Yb zb hu)
 rcases o.2 with⟨rfl,rfl⟩|⟨g,cap,cur,rfl,hbg,hg,hnc,G,hcs,htake⟩
 ·have hx:xs=[]:=QY (by simpa using o.1);subst hx;by_cases hm:m=0
  ·subst hm;have hn:d=[]:=QY (by simpa using hl);subst hn;refine⟨.slice none 0 0,w,?_,xK w s e i.size,⟨rfl,rfl,rfl,qY _,λ_ _ _=>rfl⟩,Or.inl rfl,wu.nil _ _⟩;simp [Builtin.append_,run_underlying ht,sizeOf,typeInfo,hi,Builtin.lenOf,Builtin.firstCells,loadCells,loadCellsFrom]
  ·have hr:=run_append_nil (P:=P) w t ty e i z ht hi hz a m c d hl B zb zb (by have hb:=C;simp only [xA] at hb;omega);have A:=grown 0 zb (λu hu=>by cases hu) (Value.ownBlock (.slice none 0 0));simp only [xA,yK,Array.empty_append] at A⊢;exact⟨_,_,hr,A.1,A.2.1,Or.inr rfl,A.2.2⟩
 ·obtain⟨y,e2,E,H⟩:=hv g rfl;have L:y=cur:=by
   rw [hg] at E;injection E with E;injection E with E;exact E.symm
  subst L;by_cases hroom:n+m<=cap
  ·have M:n*i.size+d.length<=y.size:=by rw [hl,hcs,<-QE];exact qW _ hroom
   have hr:=run_append_room (P:=P) w t ty e i ht hi g n cap y hg a m c d hl B h1 hroom M;refine⟨_,_,hr,⟨D,.inr ⟨g,cap,_,rfl,hbg,setRow_heap w g y _ e _ hg,hroom,G,?_,?_⟩⟩,⟨rfl,rfl,rfl,zE,λk _ hk=>setRow_other w g k _ (λe=>hk (by simp [Value.ownBlock,e]))⟩,Or.inl rfl,?_⟩
   ·simp only [XG,QV,qB,XX,YZ];omega
   ·rw [htake,<-D];exact jX
   ·intro g' N;simp [Value.ownBlock] at N;subst N;refine⟨_,_,setRow_heap w g y _ e _ hg,λu hu=>?_⟩;rw [yY,yY] at hu;rcases hu with(hu|hu)|hu
    ·exact H u (XY hu)
    ·exact O u hu
    ·exact H u (XD hu)
  ·have holds:∀j u,xs[j]?=some u->w.cell? ((⟨g,0,none⟩:Addr).add j)=some u:=o.cells (g:=g) rfl;have hr:=run_append_grow (P:=P) w t ty e i z ht hi hz ⟨g,0,none⟩ n cap xs o.1 holds a m c d hl B zb zb (growslice_fits zb C);have J:∀u ∈ xs,yp u:=λu hu=>H u (XY (by rw [htake];exact hu));have A:=grown cap zb J (Value.ownBlock (.slice (some ⟨g,0,none⟩) n cap));exact⟨_,_,hr,A.1,A.2.1,Or.inr rfl,A.2.2⟩
theorem gP {D:Array Oper}{rest:List Oper}{o:Oper}{a:Act}{Q:Exit->Act->World->Prop}(G:o.guard=none)(s x:Operand)(t:TypeId)
  (ho:o.op=.call {callee:=.builtin .append,args:=#[s,x],argTypes:=#[t,t]})
  (g:Nat) (e:TypeId) (i:TypeInfo) (z:Value) (size bytes:Nat) (ht:P.underlying t=some (.slice e)) (hi:P.info? e=some i) (hz:i.zero=some z)
  (B:i.size=size) (F:i.bytes=bytes) (J:z.cells.size=size) (hsz:0<size)
  (v:Value) (n:Nat) (xs:List Value) (hs:a.eval s=v) (C:w.ownsRow g e size v n xs)
  (ad:Addr) (m c:Nat) (d:List Value) (hx:a.eval x=.slice (some ad) m c) (hl:d.length=m*size) (A:∀j u,d[j]?=some u->w.cell? (ad.add j)=some u) (h1:∀u ∈ d,u.oneCell'=true)
  (E:n+m<=maxLen) (k:(n+m)*bytes<=140737488355328) (y:g<=w.heap.size)
  (hv:wu w v) (I:∀u ∈ z.cells.toList,yp u) (H:∀u ∈ d,yp u)
  (h:∀v' w',w'.ownsRow g e size v' (n+m) (xs++d)->w.grownBy w' v.ownBlock->(v'.ownBlock=v.ownBlock\/v'.ownBlock=some w.heap.size)->wu w' v'->wpList P D Q rest (a.put o.dst v') w'):
  wpList P D Q (o::rest) a w:=by
 refine wpList_plain G λK hK=>?_;obtain⟨v',w',hr,h2,h3,h4,h5⟩:=Yg (P:=P) w g t o.type e i z size bytes ht hi hz B F J hsz v n xs C ad m c d hl A h1 E k y hv I H;unfold Oper.wp execOp;simp only [ho,resolve,invoke,builtin,Sem.run_bind,Sem.run_pure,Result.andThen_ok,yI,yX,List.map_nil,hs,hx,hr];exact hK _ _ (h v' w' h2 h3 h4 h5)
end
theorem wu.blk (h:wu w v)(hg:v.ownBlock=some g):∃(t:TypeId) (cs:Array Value),zh w g t cs/\∀u ∈ cs.toList,yp u:=by
 obtain⟨a,e,h1,h2⟩:=h g hg;exact⟨e,a,h1,h2⟩
theorem pN (h:zU w A n c xs)(hk:zh w g t cs)(hs:∀u ∈ cs.toList,yp u)(ho:ya g w w'):zU w' A n c xs:=by
 refine⟨h.len,h.fits,h.most,λi x hi=>?_⟩;obtain⟨ad,b,B,m,d,F,u,v,e,h1,h2,h3,h4,h5⟩:=h.num i x hi;have a:ad.block≠g:=λhg=>by
  have hb:(ad.add (i*3)).block=g:=by rw [y8];exact hg
  generalize ad.add (i*3)=q at hb h2;obtain⟨bk,off,pr⟩:=q;simp only at hb;subst hb;unfold zh at hk;cases pr with
  |none=>
    rw [show w.cell? ⟨bk,off,none⟩=cs[off]? from cell_of_row w bk off _ t (0,0) hk,<-QM] at h2;obtain⟨A9,n9,c9,e9⟩:=hs _ (QJ h2);cases e9
  |some q=>simp [World.cell?,hk] at h2
 have o:yf cs:=λq hq k z e9=>by
  obtain⟨A9,n9,c9,e8⟩:=hs q hq;rw [e8] at e9;cases e9
 have hc:∀j,w'.cell? (ad.add j)=w.cell? (ad.add j):=λj=>ho.2 _ (by rw [y8];exact h1) (by rw [y8];exact a);exact⟨ad,b,B,m,d,F,u,v,e,qJ h1 ho.1,(hc _).trans h2,(hc _).trans h3,(hc _).trans h4,zS.offg h5 hk o ho⟩
theorem WO (h:zU w A n c xs)(hg:w.grownBy w' v.ownBlock)(hn:wu w v):zU w' A n c xs:=by
 cases hv:v.ownBlock with
 |none=>rw [hv] at hg;exact h.keep (lP hg)
 |some g=>
   rw [hv] at hg;obtain⟨t,cs,hk,hc⟩:=hn.blk hv;exact pN h hk hc (ya.of_grown hg)
structure se (w:World)(base:Nat)(v:Value)(Ls:List (List Rat))(vs:List Value):Prop where
 own:w.ownsRow base 64 1 v Ls.length vs
 sl:wu w v
 num:∀(i:Nat) (L:List Rat),Ls[i]?=some L->∃(B:ze) (d:Nat),vs[i]?=some (Value.slice B L.length d)/\zU w B L.length d L
theorem se.nil (w:World)(a:Nat):se w a (.slice none 0 0) [] []:=⟨xK _ _ _ _,wu.nil _ _,λi L hi=>by simp at hi⟩
theorem se.len (h:se w a v Ls vs):vs.length=Ls.length:=by have:=h.own.1;omega
theorem se.shape {n:Nat}(h:se w a v Ls vs)(hn:Ls.length=n):∃A c,v=.slice A n c/\iQ w A n Ls:=by
 subst hn;obtain⟨A,c,e,h1,h2,h3⟩:=zH.of_grown_own h.own;refine⟨A,c,e,rfl,λi L hi=>?_⟩;obtain⟨B,d,hv,hw⟩:=h.num i L hi;have hlt:=(List.getElem?_eq_some_iff.1 hi).1;obtain⟨ad,ea,hb,hc⟩:=h3.2 zb;exact⟨ad,B,d,ea,hb,hc i _ hv,hw⟩
theorem se.below (h:se w a v Ls vs)(hb:Below w.heap.size w w'):se w' a v Ls vs:=by
 refine⟨⟨h.own.1,?_⟩,h.sl.below hb,λi L hi=>?_⟩
 ·rcases h.own.2 with h1|⟨g,cap,cur,e1,e2,e3,e4⟩
  ·exact .inl h1
  ·exact .inr ⟨g,cap,cur,e1,e2,(hb.block g (zh.lt (t:=64) (cs:=cur) e3)).trans e3,e4⟩
 ·obtain⟨B,d,hv,hw⟩:=h.num i L hi;exact⟨B,d,hv,hw.keep hb⟩
theorem se.grow {n:Nat}{v':Value}{L:List Rat}{B:ze}{d:Nat}(h:se w a v Ls vs)(hx:zU w B L.length d L)
  (ho:w'.ownsRow a 64 1 v' n (vs++[.slice B L.length d])) (hn:n=Ls.length+1) (hg:w.grownBy w' v.ownBlock) (hs:wu w' v'):se w' a v' (Ls++[L]) (vs++[.slice B L.length d]):=by
 have hl:=h.len;refine⟨by rw [QV,yM,<-hn];exact ho,hs,λi M hi=>?_⟩;by_cases hlt:i<Ls.length
 ·rw [QR hlt] at hi;obtain⟨C,e,hv,hw⟩:=h.num i M hi;exact⟨C,e,by rw [QR zb];exact hv,WO hw hg h.sl⟩
 ·rw [QK zb] at hi;have c:i=Ls.length:=by
   have:=(List.getElem?_eq_some_iff.1 hi).1;simp at this;omega
  subst c;obtain rfl:L=M:=by
   rw [yJ] at hi;injection hi
  exact⟨B,d,by rw [QK zb,hl,yJ];rfl,WO hx hg h.sl⟩
theorem jK:(prog.info? 64).map (λi=>(i.zero,i.size,i.bytes))=some (some (.slice none 0 0),1,24):=zP
theorem iQ.get (h:iQ w A n Ls){i m:Nat}(hi:i<n)(hm:(Ls.getD i []).length=m):∃(ad:Addr) (B:ze) (d:Nat),A=some ad/\w.cell? (ad.add i)=some (.slice B m d)/\zU w B m d (Ls.getD i []):=by
 have hl:=h.len;obtain⟨ad,B,d,e,_,h1,h2⟩:=h.num i _ (vY (d:=[]) zb);rw [hm] at h1 h2;exact⟨ad,B,d,e,h1,h2⟩
abbrev so:=Nat->ze×Nat×Nat×List (Int×Int)
set_option maxRecDepth 100000
theorem xn (h:zd (Sz K x))(k:zB w x A n c)(e:4*K<=B:=by omega):n<=B:=qL (h.o.holds' k) e
theorem mJ (h:zd (Sz K z.natAbs))(k:yl w z b A n c)(e:4*K<=B:=by omega):n<=B:=qL (h.o.holds' k.holds) e
theorem Vf (h:zB w x A n c)(hk:zh w g t cs)(a:yf cs)(ho:z4 g w w'):zB w' x A n c:=⟨Ww h.1 hk a ho,h.2⟩
theorem jN (h:yl w z b A n c)(hk:zh w g t cs)(a:yf cs)(ho:z4 g w w'):yl w' z b A n c:=⟨h.1,Vf h.2 hk a ho⟩
theorem Se (t:∀w w',T w->Below w.heap.size w w'->T w')(IC:wQ T)(z:Int)(bp:Bool)(Bp:ze)(mp dp:Nat)(bq:Bool)(Bq:ze)(mq dq:Nat)(K:Nat)(hKK:K<=16777216)(w:World)(sz:Sz K z.natAbs)(hp:zZ w z bp Bp mp dp)(hq:yl w z bq Bq mq dq)(hT:T w)(h:z<0):
  Calls prog 45 #[.agg #[.bool bp,.slice Bp mp dp],.agg #[.bool bq,.slice Bq mq dq]] w λe w'=>e=.returned (.bool true)/\Below w.heap.size w w':=by
 have k:=za IC;have HT:=zj w (λw' hb=>t w w' hT hb);have c:=za hp;have g:=za hq;have i:=za sz;have s:=za sz;have Hh:=za h;clear IC hT hp hq sz h;go_enter func45,ntmps45;have hB:=qZ w.heap.size w;obtain rfl:bq=true:=(g.o).1.trans (decide_eq_true (by have:=Hh.o;omega));obtain⟨j,m,n,bz⟩:=zX w 39 47 #[.bool bp,.slice Bp mp dp] #[.bool true,.slice Bq mq dq];have hB:=zc hB j;have c:=za (c.o.below j);have g:=za (g.o.below j);obtain⟨g1,e1⟩:=m.c2;obtain⟨g2,e2⟩:=n.c2;clear j m n bz;go_wp2_with fail;generalize (w.alloc (.cells #[.bool bp,.slice Bp mp dp] 39)).alloc (.cells #[.bool true,.slice Bq mq dq] 47)=W1 at*;have C0:=zj W1 (λw' h=>bR (b:=true) (decide_eq_true (by have:=Hh.o;omega)) (k.o.belowI (z) bp Bp mp dp w' (HT.o _ (zc hB h)) (c.o.below h) (by have:=Sz.words i.o c.o.words;omega)));have C1:=zj W1 (λw' h=>ZJ (v:=-1) ((mz Hh.o)) (k.o.sign (z) bp Bp mp dp w' (HT.o _ (zc hB h)) (c.o.below h) (by have:=Sz.words i.o c.o.words;omega)));have o:zd (Sz (K) (z.natAbs)):=i.o;have C2:=zj W1 (λw' h=>k.o.abs (z) bp Bp mp dp w' (HT.o _ (zc hB h)) (c.o.below h) (by have:=Sz.words i.o c.o.words;omega));have C3:=zj W1 (λw' h B3 m3 d3 (d:zn w' (z.natAbs) B3 m3 d3)=>iv (z.natAbs) B3 Bq m3 d3 mq dq w' d (g.o.below h).2 (by have:=Sz.words o.o d;omega) (by have:=Sz.holds' s.o g.o.2;omega));have a:=(qZ W1.heap.size W1).drew;refine rg (zl g1 (zl e1 (zl g2 (zl e2 zJ)))) (λhHeld=>?_);refine tk 0 ?_;refine tk 2 ?_;refine tk 3 ?_;refine rc 1 (λK hK=>?_);go_simp;go_at_call 97;(with_reducible refine(C0.o _ a).mono ?_);rintro e wa2 ⟨rfl,hb⟩;have a:=zc a hb;refine hK.out _ _ (Cs.below hHeld hb) (λhHeld=>?_);clear hK K hb
 try simp only [zG]
 refine tk 4 ?_;refine tk 5 ?_;refine tk 6 ?_;refine tk 8 ?_;refine rc 7 (λK hK=>?_);go_simp;go_at_call 86;(with_reducible refine(C1.o _ a).mono ?_);rintro e wa3 ⟨rfl,hb⟩;have a:=zc a hb;refine hK.out _ _ (Cs.below hHeld hb) (λhHeld=>?_);clear hK K hb
 try simp only [zG]
 refine tk 9 ?_;refine tk 10 ?_;refine tk 11 ?_;refine tk 12 ?_;refine tk 14 ?_;refine tk 15 ?_;refine rc 13 (λK hK=>?_);go_simp;go_at_call 98;(with_reducible refine(C2.o _ a).mono ?_);rintro e wa4 ⟨B3,m3,d3,rfl,d,hb⟩;have a:=zc a hb;refine hK.out _ _ (Cs.below hHeld hb) (λhHeld=>?_);clear hK K hb
 try simp only [zG]
 refine rc 16 (λK hK=>?_);go_simp;go_at_call 47;(with_reducible refine(C3.o _ a _ _ _ d).mono ?_);rintro e wa5 ⟨rfl,hb⟩;have a:=zc a hb;have d:=d.below hb;refine hK.out _ _ (Cs.below hHeld hb) (λhHeld=>?_);clear hK K hb
 try simp only [zG]
 refine tk 17 ?_;refine tk 18 ?_;refine zT ?_;have hB:=zc hB a;obtain⟨g1,e1,g2,e2⟩:=xy a g1 e1 g2 e2;clear a hHeld d C0 C1 C2 C3;go_wp2;go_ret;exact⟨by first|rfl|simp,hB⟩
theorem Sc (t:∀w w',T w->Below w.heap.size w w'->T w')(IC:wQ T)(z:Int)(bp:Bool)(Bp:ze)(mp dp:Nat)(bq:Bool)(Bq:ze)(mq dq:Nat)(K:Nat)(hKK:K<=16777216)(w:World)(sz:Sz K z.natAbs)(hp:zZ w z bp Bp mp dp)(hq:yl w z bq Bq mq dq)(hT:T w)(h:z=0):
  Calls prog 45 #[.agg #[.bool bp,.slice Bp mp dp],.agg #[.bool bq,.slice Bq mq dq]] w λe w'=>e=.returned (.bool true)/\Below w.heap.size w w':=by
 have k:=za IC;have HT:=zj w (λw' hb=>t w w' hT hb);have c:=za hp;have g:=za hq;have i:=za sz;have s:=za sz;have Hh:=za h;clear IC hT hp hq sz h;go_enter func45,ntmps45;have hB:=qZ w.heap.size w;obtain rfl:bq=false:=(g.o).1.trans (decide_eq_false (by have:=Hh.o;omega));have u:=aJ (g.o).2 (by have:=Hh.o;omega);have hrq:((mq:Int)==0)=true:=by rw [beq_iff_eq];omega
 clear u;obtain⟨j,m,n,bz⟩:=zX w 39 47 #[.bool bp,.slice Bp mp dp] #[.bool false,.slice Bq mq dq];have hB:=zc hB j;have c:=za (c.o.below j);have g:=za (g.o.below j);obtain⟨g1,e1⟩:=m.c2;obtain⟨g2,e2⟩:=n.c2;clear j m n bz;go_wp2_with fail;generalize (w.alloc (.cells #[.bool bp,.slice Bp mp dp] 39)).alloc (.cells #[.bool false,.slice Bq mq dq] 47)=W1 at*;have C0:=zj W1 (λw' h=>bR (b:=false) (decide_eq_false (by have:=Hh.o;omega)) (k.o.belowI (z) bp Bp mp dp w' (HT.o _ (zc hB h)) (c.o.below h) (by have:=Sz.words i.o c.o.words;omega)));have C1:=zj W1 (λw' h=>ZJ (v:=0) (((mw _).2 Hh.o)) (k.o.sign (z) bp Bp mp dp w' (HT.o _ (zc hB h)) (c.o.below h) (by have:=Sz.words i.o c.o.words;omega)));have o:zd (Sz (K) (z.natAbs)):=i.o;have C2:=zj W1 (λw' h=>k.o.abs (z) bp Bp mp dp w' (HT.o _ (zc hB h)) (c.o.below h) (by have:=Sz.words i.o c.o.words;omega));have C3:=zj W1 (λw' h B3 m3 d3 (d:zn w' (z.natAbs) B3 m3 d3)=>iv (z.natAbs) B3 Bq m3 d3 mq dq w' d (g.o.below h).2 (by have:=Sz.words o.o d;omega) (by have:=Sz.holds' s.o g.o.2;omega));have a:=(qZ W1.heap.size W1).drew;refine rg (zl g1 (zl e1 (zl g2 (zl e2 zJ)))) (λhHeld=>?_);refine tk 0 ?_;refine tk 2 ?_;refine tk 3 ?_;refine rc 1 (λK hK=>?_);go_simp;go_at_call 97;(with_reducible refine(C0.o _ a).mono ?_);rintro e wa2 ⟨rfl,hb⟩;have a:=zc a hb;refine hK.out _ _ (Cs.below hHeld hb) (λhHeld=>?_);clear hK K hb
 try simp only [zG]
 refine tk 4 ?_;refine tk 5 ?_;refine tk 6 ?_;refine tk 8 ?_;refine rc 7 (λK hK=>?_);go_simp;go_at_call 86;(with_reducible refine(C1.o _ a).mono ?_);rintro e wa3 ⟨rfl,hb⟩;have a:=zc a hb;refine hK.out _ _ (Cs.below hHeld hb) (λhHeld=>?_);clear hK K hb
 try simp only [zG]
 refine tk 9 ?_;refine tk 10 ?_;refine tk 11 ?_;refine tk 12 ?_;refine tk 14 ?_;refine tk 15 ?_;refine rc 13 (λK hK=>?_);go_simp;go_at_call 98;(with_reducible refine(C2.o _ a).mono ?_);rintro e wa4 ⟨B3,m3,d3,rfl,d,hb⟩;have a:=zc a hb;refine hK.out _ _ (Cs.below hHeld hb) (λhHeld=>?_);clear hK K hb
 try simp only [zG]
 refine rc 16 (λK hK=>?_);go_simp;go_at_call 47;(with_reducible refine(C3.o _ a _ _ _ d).mono ?_);rintro e wa5 ⟨rfl,hb⟩;have a:=zc a hb;have d:=d.below hb;refine hK.out _ _ (Cs.below hHeld hb) (λhHeld=>?_);clear hK K hb
 try simp only [zG]
 refine tk 17 ?_;refine tk 18 ?_;refine zT ?_;have hB:=zc hB a;obtain⟨g1,e1,g2,e2⟩:=xy a g1 e1 g2 e2;clear a hHeld d C0 C1 C2 C3;go_wp2;go_ret;exact⟨by first|rfl|simp,hB⟩
theorem Sd (t:∀w w',T w->Below w.heap.size w w'->T w')(IC:wQ T)(z:Int)(bp:Bool)(Bp:ze)(mp dp:Nat)(bq:Bool)(Bq:ze)(mq dq:Nat)(K:Nat)(hKK:K<=16777216)(w:World)(sz:Sz K z.natAbs)(hp:zZ w z bp Bp mp dp)(hq:yl w z bq Bq mq dq)(hT:T w)(h:0<z):
  Calls prog 45 #[.agg #[.bool bp,.slice Bp mp dp],.agg #[.bool bq,.slice Bq mq dq]] w λe w'=>e=.returned (.bool true)/\Below w.heap.size w w':=by
 have k:=za IC;have HT:=zj w (λw' hb=>t w w' hT hb);have c:=za hp;have g:=za hq;have i:=za sz;have s:=za sz;have Hh:=za h;clear IC hT hp hq sz h;go_enter func45,ntmps45;have hB:=qZ w.heap.size w;obtain rfl:bq=false:=(g.o).1.trans (decide_eq_false (by have:=Hh.o;omega));have u:=ZF (g.o).2 (by have:=Hh.o;omega);have hrq:((mq:Int)==0)=false:=by rw [beq_eq_false_iff_ne];omega
 clear u;obtain⟨j,m,n,bz⟩:=zX w 39 47 #[.bool bp,.slice Bp mp dp] #[.bool false,.slice Bq mq dq];have hB:=zc hB j;have c:=za (c.o.below j);have g:=za (g.o.below j);obtain⟨g1,e1⟩:=m.c2;obtain⟨g2,e2⟩:=n.c2;clear j m n bz;go_wp2_with fail;generalize (w.alloc (.cells #[.bool bp,.slice Bp mp dp] 39)).alloc (.cells #[.bool false,.slice Bq mq dq] 47)=W1 at*;have C0:=zj W1 (λw' h=>bR (b:=false) (decide_eq_false (by have:=Hh.o;omega)) (k.o.belowI (z) bp Bp mp dp w' (HT.o _ (zc hB h)) (c.o.below h) (by have:=Sz.words i.o c.o.words;omega)));have C1:=zj W1 (λw' h=>ZJ (v:=1) ((mC Hh.o)) (k.o.sign (z) bp Bp mp dp w' (HT.o _ (zc hB h)) (c.o.below h) (by have:=Sz.words i.o c.o.words;omega)));have o:zd (Sz (K) (z.natAbs)):=i.o;have C2:=zj W1 (λw' h=>k.o.abs (z) bp Bp mp dp w' (HT.o _ (zc hB h)) (c.o.below h) (by have:=Sz.words i.o c.o.words;omega));have C3:=zj W1 (λw' h B3 m3 d3 (d:zn w' (z.natAbs) B3 m3 d3)=>iv (z.natAbs) B3 Bq m3 d3 mq dq w' d (g.o.below h).2 (by have:=Sz.words o.o d;omega) (by have:=Sz.holds' s.o g.o.2;omega));have a:=(qZ W1.heap.size W1).drew;refine rg (zl g1 (zl e1 (zl g2 (zl e2 zJ)))) (λhHeld=>?_);refine tk 0 ?_;refine tk 2 ?_;refine tk 3 ?_;refine rc 1 (λK hK=>?_);go_simp;go_at_call 97;(with_reducible refine(C0.o _ a).mono ?_);rintro e wa2 ⟨rfl,hb⟩;have a:=zc a hb;refine hK.out _ _ (Cs.below hHeld hb) (λhHeld=>?_);clear hK K hb
 try simp only [zG]
 refine tk 4 ?_;refine tk 5 ?_;refine tk 6 ?_;refine tk 8 ?_;refine rc 7 (λK hK=>?_);go_simp;go_at_call 86;(with_reducible refine(C1.o _ a).mono ?_);rintro e wa3 ⟨rfl,hb⟩;have a:=zc a hb;refine hK.out _ _ (Cs.below hHeld hb) (λhHeld=>?_);clear hK K hb
 try simp only [zG]
 refine tk 9 ?_;refine tk 10 ?_;refine tk 11 ?_;refine tk 12 ?_;refine tk 14 ?_;refine tk 15 ?_;refine rc 13 (λK hK=>?_);go_simp;go_at_call 98;(with_reducible refine(C2.o _ a).mono ?_);rintro e wa4 ⟨B3,m3,d3,rfl,d,hb⟩;have a:=zc a hb;refine hK.out _ _ (Cs.below hHeld hb) (λhHeld=>?_);clear hK K hb
 try simp only [zG]
 refine rc 16 (λK hK=>?_);go_simp;go_at_call 47;(with_reducible refine(C3.o _ a _ _ _ d).mono ?_);rintro e wa5 ⟨rfl,hb⟩;have a:=zc a hb;have d:=d.below hb;refine hK.out _ _ (Cs.below hHeld hb) (λhHeld=>?_);clear hK K hb
 try simp only [zG]
 refine tk 17 ?_;refine tk 18 ?_;refine zT ?_;have hB:=zc hB a;obtain⟨g1,e1,g2,e2⟩:=xy a g1 e1 g2 e2;clear a hHeld d C0 C1 C2 C3;go_wp2;go_ret;exact⟨by first|rfl|simp,hB⟩
theorem bS (c:∀w w',T w->Below w.heap.size w w'->T w')(IC:wQ T)(z:Int)(bp:Bool)(Bp:ze)(mp dp:Nat)(bq:Bool)(Bq:ze)(mq dq:Nat)(K:Nat)(a:K<=16777216)(w:World)(sz:Sz K z.natAbs)(hp:zZ w z bp Bp mp dp)(hq:yl w z bq Bq mq dq)(hT:T w):
  Calls prog 45 #[.agg #[.bool bp,.slice Bp mp dp],.agg #[.bool bq,.slice Bq mq dq]] w λe w'=>e=.returned (.bool true)/\Below w.heap.size w w':=by
 rcases Int.lt_trichotomy z 0 with h|h|h
 ·exact Se c IC z bp Bp mp dp bq Bq mq dq K a w sz hp hq hT h
 ·exact Sc c IC z bp Bp mp dp bq Bq mq dq K a w sz hp hq hT h
 ·exact Sd c IC z bp Bp mp dp bq Bq mq dq K a w sz hp hq hT h
