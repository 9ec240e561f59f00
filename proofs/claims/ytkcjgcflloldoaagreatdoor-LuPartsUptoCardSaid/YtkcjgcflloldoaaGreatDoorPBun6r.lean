/- What this claim leans on. -/
import Derived.Test.YtkcjgcflloldoaaGreatDoorPBunR
set_option linter.unusedVariables false
set_option linter.unusedSimpArgs false
namespace Go.Proofs.YtkcjgcflloldoaaGreatDoor
open Go Go.RowKit Go.Proofs.Tryz
set_option maxHeartbeats 16000000
set_option maxRecDepth 100000
variable {vs:List Value}{g:Nat}{t:TypeId}{v:Value}{w w':World}
theorem Nl (x mm:Nat)(A:ze)(n c:Nat)(w:World)(hA:zE w x A n c)(hn:n<=274877906944)(O:0<mm)(hm1:mm<=32768):
  Calls prog 166 #[.slice A n c,.int .i64 mm] w (V9 w x mm):=by
 obtain⟨i0,N,Q,R,S⟩:=info_parts kI;have I:=zb hA.len;have hR:=hA.1;clear hA;obtain⟨Z,hZ⟩:∃Z,madeCells (Value.cells (.int .i64 0)) (n*i0.size)=Z:=⟨_,rfl⟩;have HZ:zd (Z.size=n):=by show _=_;rw [<-hZ,size_madeCells,R,xS]
 have P:∀W:World,(Instr.makeSlice 38 (.int .i64 (n:Int)) (.int .i64 (n:Int))).run prog W=.ok (.slice (some ⟨W.heap.size,0,none⟩) n n) (W.alloc (.cells Z 3)):=λW=>by
  rw [<-hZ];exact sV _ _ i0 _ underlying38 N Q _ _ n n (qX _) (by rw [S];omega) za W
 clear hZ;go_enter func166,ntmps166;go_wp2;clear P
 go_loopg [7,8,9] (n + 1) (fun g s i _ wr => ∃ (k d : Nat) (cs : Array Value) (out : List Nat),k ≤ n ∧ k < g ∧ i = .int .i64 ((k : Int) - 1) ∧ s = .int .i64 d ∧ kw x mm n k out d ∧
   zh wr w.heap.size 3 cs/\cs.size=n/\cs.toList.drop k=zt .i64 out/\Below w.heap.size w wr)
 case atStart=>exact⟨n,0,Z,[],qX _,za,rfl,rfl,kw.start O (by have:=I.o;omega),zh.new w _ _,HZ.o,by rw [xA (by have:=HZ.o;simp;omega)];rfl,(qZ _ _).alloc (qX _) _⟩
 case round=>
  obtain⟨k,d,cs,out,hk,hg,rfl,rfl,m,hB,hsz,o,t⟩:=hrel;by_cases hk0:k=0
  ·subst hk0;obtain⟨f1,f2⟩:=m.done;have F:out.length=n:=by have:=m.len;omega
   have G:zL wr wr.heap.size 1 (some ⟨w.heap.size,0,none⟩) n (zt .i64 out):=by
    refine⟨by rw [wL];omega,λ_=>⟨_,rfl,hB.lt,λj u hu=>?_⟩⟩;have e:(⟨w.heap.size,0,none⟩:Addr).add j=⟨w.heap.size,j,none⟩:=by unfold Addr.add;split<;>simp_all
    rw [e,hB.cell j,<-QR];rw [List.drop_zero] at o;rw [o];exact hu
   have T:=YF (some ⟨w.heap.size,0,none⟩) n n out wr G m.dgs (qX _) za za;rw [f1] at T;have HT:=zb T;have F2:=zb f2;clear T G f1 f2 m o hsz F;go_wp2_with fail;refine HT.o.mono ?_;intro e w2 y;have E:=y.from_ t;obtain⟨A2,n2,c2,rfl,M,L⟩:=y.elim;have H:=zb E;clear y M L E;go_wp2_with fail
   go_ret2
   exact⟨_,by rw [<-F2.o];rfl,H.o⟩
  ·obtain⟨j,rfl⟩:∃j,k=j+1:=⟨k - 1,za⟩;obtain⟨ad,rfl,B,C⟩:=wQ hR (k:=j) za;have D:wr.cell? (ad.add j)=some (.int .i64 ((dg 65536 x).getD j 0:Nat)):=(t.cell (by rw [yw];exact B)).trans C;rw [ng] at D;have K:x / 65536^j%65536<65536:=QA _ zf;have z:=m.step hk rfl;have hleft:=m.rest;obtain⟨a,ha⟩:∃b,x / 65536^j%65536=b:=⟨_,rfl⟩;rw [ha] at D K z;have hfr:=hB.frozen j;have v:∃u,wr.cell? ⟨w.heap.size,j,none⟩=some u:=by
    rw [hB.cell j];exact⟨cs[j]' za,QU za⟩
   obtain⟨u,hu⟩:=v;have J:=zb z;have HS:=zb hsz;have HD:=zb o;clear z ha m C hsz o;go_wp2;go_roundg (j+1)
   case measure=>omega
   case rel=>exact⟨j,(d*65536+a)%mm,cs.setIfInBounds j (.int .i64 (((d:Int)*65536+(a:Int)) / (mm:Int))),_,za,za,by go_num,by go_num,J.o,hB.set_ _ _,by simpa using HS.o,by rw [drop_set _ _ _ (by have:=HS.o;omega),HD.o];simp [zt],t.setCell (qX _) _⟩
def tP (b x y:Nat)(D:List Nat):Prop:=D++dg b y=dg b x
theorem tP.step {b x y:Nat}{D:List Nat}(h:tP b x y D)(hb:2<=b)(hy:y≠0):tP b x (y / b) (D++[y%b]):=by
 unfold tP at h⊢;rw [<-h,js hb hy,xV];rfl
def tM (u:Value):Prop:=∀k z,u≠.int k z
def wV (w:World)(v:Value):Prop:=∀g,v.ownBlock=some g->∃(cur:Array Value) (e:TypeId),w.heap[g]?=some (.cells cur e (0,0))/\∀u ∈ cur.toList,tM u
theorem wV.nil (w:World)(c:Nat):wV w (.slice none 0 c):=λg h=>by simp [Value.ownBlock] at h
theorem wV.block (h:wV w v)(hg:∀g,v.ownBlock=some g->w'.heap[g]?=w.heap[g]?):wV w' v:=λg e=>by
 obtain⟨a,t,h1,h2⟩:=h g e;exact⟨a,t,(hg g e).trans h1,h2⟩
theorem wV.below (h:wV w v)(hb:Below w.heap.size w w'):wV w' v:=λg e=>by
 obtain⟨a,t,h1,h2⟩:=h g e;exact⟨a,t,(hb.block g (Array.getElem?_eq_some_iff.1 h1).1).trans h1,h2⟩
theorem Rm {z:Array Value}{k:Nat}{u:Value}(hz:0<z.size)(hu:u ∈(Builtin.zeroCells z k).toList):u ∈ z.toList:=by
 unfold Builtin.zeroCells at hu;rw [YZ,Array.mem_map] at hu;obtain⟨i,_,rfl⟩:=hu;have a:i%z.size<z.size:=QA _ hz;rw [getElem!_pos z (i%z.size) a,YZ];exact Array.getElem_mem a
section
variable {P:Program}(w:World)
theorem Va (s:Nat)(t ty e:TypeId)(i:TypeInfo)(z:Value)(size bytes:Nat)(ht:P.underlying t=some (.slice e))(hi:P.info? e=some i)(hz:i.zero=some z)
  (I:i.size=size) (Q:i.bytes=bytes) (T:z.cells.size=size) (hsz:0<size)
  (v:Value) (n:Nat) (xs:List Value) (o:w.ownsRow s e size v n xs)
  (a:Addr) (m c:Nat) (d:List Value) (hl:d.length=m*size) (B:∀j u,d[j]?=some u->w.cell? (a.add j)=some u) (h1:∀u ∈ d,u.oneCell'=true)
  (K:n+m<=maxLen) (C:(n+m)*bytes<=140737488355328) (F:s<=w.heap.size)
  (hv:wV w v) (S:∀u ∈ z.cells.toList,tM u) (O:∀u ∈ d,tM u):
  ∃ v' w',(Builtin.append_ #[t,t] ty #[v,.slice (some a) m c]).run P w = .ok v' w' ∧ w'.ownsRow s e size v' (n + m) (xs ++ d) ∧ w.grownBy w' v.ownBlock ∧
   (v'.ownBlock=v.ownBlock\/v'.ownBlock=some w.heap.size)/\wV w' v':=by
 subst I;subst Q;have hsmall:n+m<=9223372036854775807:=by simp only [maxLen] at K;omega
 have D:(xs++d).length=(n+m)*i.size:=by rw [qT,o.1,hl,QN]
 have grown : ∀ (old : Nat),old < n + m → (∀ u ∈ xs,tM u) → ∀ (row : Option Nat),
   (w.drew.alloc (.cells (xs.toArray ++ d.toArray ++ Builtin.zeroCells z.cells (grownCap w (n + m) old e - (n + m))) e)).ownsRow s e i.size
     (.slice (some ⟨w.heap.size,0,none⟩) (n+m) (grownCap w (n+m) old e)) (n+m) (xs++d)/\
   w.grownBy (w.drew.alloc (.cells (xs.toArray++d.toArray++Builtin.zeroCells z.cells (grownCap w (n+m) old e - (n+m))) e)) row/\
   wV (w.drew.alloc (.cells (xs.toArray++d.toArray++Builtin.zeroCells z.cells (grownCap w (n+m) old e - (n+m))) e)) (.slice (some ⟨w.heap.size,0,none⟩) (n+m) (grownCap w (n+m) old e)):=by
  intro old ho J row;have R:=grownCap_ge w (n+m) old e;have G:grownCap w (n+m) old e<=maxLen:=grownCap_le_maxLen w (n+m) old e K;refine⟨⟨D,.inr ⟨w.heap.size,_,_,rfl,F,heap_alloc_new w.drew _,R,G,?_,?_⟩⟩,⟨rfl,rfl,rfl,zG,λk hk _=>heap_alloc_old w.drew _ hk⟩,?_⟩
  ·simp only [Array.size_append,XR,size_zeroCells,T,o.1,hl,<-QN];congr 1;omega
  ·simp only [YD,xV];rw [<-xV,<-D];exact jJ
  ·intro g hg;simp [Value.ownBlock] at hg;subst hg;refine⟨_,_,heap_alloc_new w.drew _,λu hu=>?_⟩;simp only [YD,yG] at hu;rcases hu with(hu|hu)|hu
   ·exact J u hu
   ·exact O u hu
   ·exact S u (Rm za hu)
 rcases o.2 with⟨rfl,rfl⟩|⟨g,cap,cur,rfl,hbg,hg,hnc,G,hcs,htake⟩
 ·have hx:xs=[]:=QX (by simpa using o.1);subst hx;by_cases hm:m=0
  ·subst hm;have hn:d=[]:=QX (by simpa using hl);subst hn;refine⟨.slice none 0 0,w,?_,xJ w s e i.size,⟨rfl,rfl,rfl,qX _,λ_ _ _=>rfl⟩,Or.inl rfl,wV.nil _ _⟩;simp [Builtin.append_,run_underlying ht,sizeOf,typeInfo,hi,Builtin.lenOf,Builtin.firstCells,loadCells,loadCellsFrom]
  ·have hr:=run_append_nil (P:=P) w t ty e i z ht hi hz a m c d hl B za za (by have hb:=C;simp only [xR] at hb;omega);have A:=grown 0 za (λu hu=>by cases hu) (Value.ownBlock (.slice none 0 0));simp only [xR,yQ,Array.empty_append] at A⊢;exact⟨_,_,hr,A.1,A.2.1,Or.inr rfl,A.2.2⟩
 ·obtain⟨y,e2,E,H⟩:=hv g rfl;have L:y=cur:=by
   rw [hg] at E;injection E with E;injection E with E;exact E.symm
  subst L;by_cases hroom:n+m<=cap
  ·have M:n*i.size+d.length<=y.size:=by rw [hl,hcs,<-QN];exact qE _ hroom
   have hr:=run_append_room (P:=P) w t ty e i ht hi g n cap y hg a m c d hl B h1 hroom M;refine⟨_,_,hr,⟨D,.inr ⟨g,cap,_,rfl,hbg,setRow_heap w g y _ e _ hg,hroom,G,?_,?_⟩⟩,⟨rfl,rfl,rfl,zG,λk _ hk=>setRow_other w g k _ (λe=>hk (by simp [Value.ownBlock,e]))⟩,Or.inl rfl,?_⟩
   ·simp only [XR,qT,qL,xK,XE];omega
   ·rw [htake,<-D];exact jJ
   ·intro g' N;simp [Value.ownBlock] at N;subst N;refine⟨_,_,setRow_heap w g y _ e _ hg,λu hu=>?_⟩;rw [yG,yG] at hu;rcases hu with(hu|hu)|hu
    ·exact H u (XZ hu)
    ·exact O u hu
    ·exact H u (XA hu)
  ·have holds:∀j u,xs[j]?=some u->w.cell? ((⟨g,0,none⟩:Addr).add j)=some u:=o.cells (g:=g) rfl;have hr:=run_append_grow (P:=P) w t ty e i z ht hi hz ⟨g,0,none⟩ n cap xs o.1 holds a m c d hl B za za (growslice_fits za C);have J:∀u ∈ xs,tM u:=λu hu=>H u (XZ (by rw [htake];exact hu));have A:=grown cap za J (Value.ownBlock (.slice (some ⟨g,0,none⟩) n cap));exact⟨_,_,hr,A.1,A.2.1,Or.inr rfl,A.2.2⟩
theorem WS {D:Array Oper}{rest:List Oper}{o:Oper}{a:Act}{Q:Exit->Act->World->Prop}(G:o.guard=none)(s x:Operand)(t:TypeId)
  (ho:o.op=.call {callee:=.builtin .append,args:=#[s,x],argTypes:=#[t,t]})
  (g:Nat) (e:TypeId) (i:TypeInfo) (z:Value) (size bytes:Nat) (ht:P.underlying t=some (.slice e)) (hi:P.info? e=some i) (hz:i.zero=some z)
  (B:i.size=size) (F:i.bytes=bytes) (J:z.cells.size=size) (hsz:0<size)
  (v:Value) (n:Nat) (xs:List Value) (hs:a.eval s=v) (C:w.ownsRow g e size v n xs)
  (ad:Addr) (m c:Nat) (d:List Value) (hx:a.eval x=.slice (some ad) m c) (hl:d.length=m*size) (A:∀j u,d[j]?=some u->w.cell? (ad.add j)=some u) (h1:∀u ∈ d,u.oneCell'=true)
  (E:n+m<=maxLen) (k:(n+m)*bytes<=140737488355328) (y:g<=w.heap.size)
  (hv:wV w v) (I:∀u ∈ z.cells.toList,tM u) (H:∀u ∈ d,tM u)
  (h:∀v' w',w'.ownsRow g e size v' (n+m) (xs++d)->w.grownBy w' v.ownBlock->(v'.ownBlock=v.ownBlock\/v'.ownBlock=some w.heap.size)->wV w' v'->wpList P D Q rest (a.put o.dst v') w'):
  wpList P D Q (o::rest) a w:=by
 refine wpList_plain G λK hK=>?_;obtain⟨v',w',hr,h2,h3,h4,h5⟩:=Va (P:=P) w g t o.type e i z size bytes ht hi hz B F J hsz v n xs C ad m c d hl A h1 E k y hv I H;unfold Oper.wp execOp;simp only [ho,resolve,invoke,builtin,Sem.run_bind,Sem.run_pure,Result.andThen_ok,YQ,yV,List.map_nil,hs,hx,hr];exact hK _ _ (h v' w' h2 h3 h4 h5)
end
theorem wV.blk (h:wV w v)(hg:v.ownBlock=some g):∃(t:TypeId) (cs:Array Value),zh w g t cs/\yb cs:=by
 obtain⟨a,e,h1,h2⟩:=h g hg;exact⟨e,a,h1,λu hu k z=>h2 u hu k z⟩
theorem vU.grown {α:Type}{E:El α}(hE:vU E){w w':World}{v:Value}{x:α}{b:Bool}{A:ze}{n c:Nat}{F:ze}{k f:Nat}(h:E w x b A n c F k f)(hg:w.grownBy w' v.ownBlock)(hn:wV w v):E w' x b A n c F k f:=by
 cases hv:v.ownBlock with
 |none=>rw [hv] at hg;exact hE.below h (sU hg)
 |some g=>
   rw [hv] at hg;obtain⟨t,cs,hk,hc⟩:=hn.blk hv;exact hE.offg h hk hc (yl.of_grown hg)
theorem uw {cs:Array Value}{row:Option Nat}(h:zh w g t cs)(hg:w.grownBy w' row)(a:row≠some g):zh w' g t cs:=(hg.block g (zh.lt h) (λe=>a e.symm)).trans h
structure yx {α:Type}(E:El α)(w:World)(base:Nat)(t:TypeId)(v:Value)(xs:List α)(vs:List Value):Prop where
 own:w.ownsRow base t 3 v xs.length vs
 nou:wV w v
 num:∀i x,xs[i]?=some x->∃(b:Bool) (B:ze) (m d:Nat) (F:ze) (u f:Nat),vs[i*3]?=some (.bool b)/\vs[i*3+1]?=some (.slice B m d)/\vs[i*3+2]?=some (.slice F u f)/\E w x b B m d F u f
section
variable {α:Type}{E:El α}
theorem yx.nil (w:World)(a:Nat)(t:TypeId):yx E w a t (.slice none 0 0) [] []:=⟨xJ _ _ _ _,wV.nil _ _,λi x hi=>by simp at hi⟩
theorem yx.len {a:Nat}{xs:List α}(h:yx E w a t v xs vs):vs.length=xs.length*3:=h.own.1
theorem yx.shape {j:Nat}{xs:List α}(h:yx E w j t v xs vs):∃A c,v=.slice A xs.length c/\zZ E w A xs.length c xs/\∀ad,A=some ad->j<=ad.block:=by
 rcases h.own.2 with⟨rfl,h0⟩|⟨g,cap,cur,rfl,hbg,hg,hnc,hcm,hcs,htake⟩
 ·have hx:xs=[]:=QX h0;subst hx;exact⟨none,0,rfl,zZ.nil w,λad e=>by cases e⟩
 ·have a:=h.own.cells (g:=g) rfl;refine⟨some ⟨g,0,none⟩,cap,rfl,⟨rfl,hnc,by unfold maxLen at hcm;omega,λi x hi=>?_⟩,λad e=>by injection e with e;subst e;exact hbg⟩;obtain⟨b,B,m,d,F,u,f,h1,h2,h3,h4⟩:=h.num i x hi;exact⟨_,b,B,m,d,F,u,f,rfl,(Array.getElem?_eq_some_iff.1 hg).1,a _ _ h1,a _ _ h2,a _ _ h3,h4⟩
theorem yx.below (hE:vU E){w w':World}{a:Nat}{t:TypeId}{v:Value}{xs:List α}{vs:List Value}(h:yx E w a t v xs vs)(hb:Below w.heap.size w w'):yx E w' a t v xs vs:=by
 refine⟨⟨h.own.1,?_⟩,h.nou.below hb,λi x hi=>?_⟩
 ·rcases h.own.2 with h1|⟨g,cap,cur,e1,e2,e3,e4⟩
  ·exact .inl h1
  ·exact .inr ⟨g,cap,cur,e1,e2,(hb.block g (zh.lt (t:=t) (cs:=cur) e3)).trans e3,e4⟩
 ·obtain⟨b,B,m,d,F,u,f,h1,h2,h3,h4⟩:=h.num i x hi;exact⟨b,B,m,d,F,u,f,h1,h2,h3,hE.below h4 hb⟩
theorem yx.grow (hE:vU E){w w':World}{a n:Nat}{t:TypeId}{v v':Value}{xs:List α}{vs:List Value}{x:α}{b:Bool}{B F:ze}{m d u f:Nat}(h:yx E w a t v xs vs)(hx:E w x b B m d F u f)
  (ho:w'.ownsRow a t 3 v' n (vs++[.bool b,.slice B m d,.slice F u f])) (hn:n=xs.length+1) (hg:w.grownBy w' v.ownBlock) (g:wV w' v'):yx E w' a t v' (xs++[x]) (vs++[.bool b,.slice B m d,.slice F u f]):=by
 have hl:=h.len;refine⟨by rw [qT,yI,<-hn];exact ho,g,λi y hi=>?_⟩;by_cases hlt:i<xs.length
 ·rw [QH hlt] at hi;obtain⟨b1,B1,m1,d1,F1,u1,f1,h1,h2,h3,h4⟩:=h.num i y hi;exact⟨b1,B1,m1,d1,F1,u1,f1,by rw [QH za];exact h1,by rw [QH za];exact h2,by rw [QH za];exact h3,hE.grown h4 hg h.nou⟩
 ·rw [QJ za] at hi;have c:i=xs.length:=by
   have:=(List.getElem?_eq_some_iff.1 hi).1;simp at this;omega
  subst c;obtain rfl:x=y:=by
   rw [XG] at hi;injection hi
  exact⟨b,B,m,d,F,u,f,by rw [QJ za,hl,XG];rfl,by rw [QJ za,hl,yO];rfl,by rw [QJ za,hl,yO];rfl,hE.grown hx hg h.nou⟩
end
theorem Z6 {P:Program}(w:World){o:Oper}{a:Act}{K:Act->World->Prop}{Q:Exit->Act->World->Prop}(s x:Operand)(t:TypeId)
  (ho:o.op=.call {callee:=.builtin .append,args:=#[s,x],argTypes:=#[t,t]})
  (g:Nat) (e:TypeId) (i:TypeInfo) (z:Value) (size bytes:Nat) (ht:P.underlying t=some (.slice e)) (hi:P.info? e=some i) (hz:i.zero=some z)
  (B:i.size=size) (E:i.bytes=bytes) (H:z.cells.size=size) (hsz:0<size)
  (v:Value) (n:Nat) (xs:List Value) (hs:a.eval s=v) (C:w.ownsRow g e size v n xs)
  (ad:Addr) (m c:Nat) (d:List Value) (hx:a.eval x=.slice (some ad) m c) (hl:d.length=m*size) (A:∀j u,d[j]?=some u->w.cell? (ad.add j)=some u) (h1:∀u ∈ d,u.oneCell'=true)
  (D:n+m<=maxLen) (k:(n+m)*bytes<=140737488355328) (y:g<=w.heap.size)
  (hv:wV w v) (G:∀u ∈ z.cells.toList,tM u) (F:∀u ∈ d,tM u)
  (h:∀v' w',w'.ownsRow g e size v' (n+m) (xs++d)->w.grownBy w' v.ownBlock->(v'.ownBlock=v.ownBlock\/v'.ownBlock=some w.heap.size)->wV w' v'->K (a.put o.dst v') w'):Oper.wp P o a w K Q:=by
 obtain⟨v',w',hr,h2,h3,h4,h5⟩:=Va (P:=P) w g t o.type e i z size bytes ht hi hz B E H hsz v n xs C ad m c d hl A h1 D k y hv G F;unfold Oper.wp execOp;simp only [ho,resolve,invoke,builtin,Sem.run_bind,Sem.run_pure,Result.andThen_ok,YQ,yV,List.map_nil,hs,hx,hr];exact h v' w' h2 h3 h4 h5
theorem bW {b:Bool}{B F:ze}{m d u f:Nat}(h:zh w g t #[.bool b,.slice B m d,.slice F u f]):∀j v,[Value.bool b,.slice B m d,.slice F u f][j]?=some v->w.cell? ((⟨g,0,none⟩:Addr).add j)=some v:=λj v hv=>by
 rw [wu]
 match j,hv with
 |0,hv=>simp at hv;subst hv;exact h.cell 0
 |1,hv=>simp at hv;subst hv;exact h.cell 1
 |2,hv=>simp at hv;subst hv;exact h.cell 2
theorem Zn (b:Bool)(B F:ze)(m d u f:Nat):∀v ∈ [Value.bool b,.slice B m d,.slice F u f],v.oneCell'=true:=by intro v hv;simp at hv;rcases hv with rfl|rfl|rfl<;>rfl
theorem Zm (b:Bool)(B F:ze)(m d u f:Nat):∀v ∈ [Value.bool b,.slice B m d,.slice F u f],tM v:=by intro v hv y z;simp at hv;rcases hv with rfl|rfl|rfl<;>(intro h9;cases h9)
theorem aY:∀u ∈(Value.agg #[.bool false,.slice none 0 0,.slice none 0 0]).cells.toList,tM u:=by intro u hu y z;simp [Value.cells] at hu;rcases hu with rfl|rfl<;>(intro h9;cases h9)
theorem mz {T:World->Prop}{M:Nat->Prop}(I:∀w w',T w->Below w.heap.size w w'->T w')(IC:vf T)(QC:tu T M)(p q:Int)(r:Rat)(K:Nat)(bx:Bool)(Bx:ze)(mx dx:Nat)(Ex:ze)(ux vx:Nat)(w:World)(hK:K<=16777216)(hz:zm K r)(h:zp w r bx Bx mx dx Ex ux vx)(hT:T w)(v: -9223372036854775808<=p)(z:p<=9223372036854775807)(A: -9223372036854775808<=q)(B:q<=9223372036854775807)(J:q≠0)(he:r=Rat.divInt p q):
  Calls prog 31 #[.agg #[.bool bx,.slice Bx mx dx,.slice Ex ux vx],.int .i64 p,.int .i64 q] w λe w'=>e=.returned (.bool true)/\Below w.heap.size w w':=by
 have D:=zb IC;have n:=zb QC;have HT:=zj w (λw' hb=>I w w' hT hb);have HE:=zb he;have s:=zb hz;have g:=zb h;clear IC QC hT he hz h;go_enter func31,ntmps31;have hB:=qZ w.heap.size w;obtain⟨i,t,bz⟩:=zw w 54 #[.bool bx,.slice Bx mx dx,.slice Ex ux vx];have hB:=zc hB i;have g:=zb (g.o.below i);obtain⟨g1,e1,i1⟩:=t.c3;clear i t bz;go_wp2_with fail;generalize w.alloc (.cells #[.bool bx,.slice Bx mx dx,.slice Ex ux vx] 54)=W1 at*;have o:zd (zm (1) (Rat.divInt p q)):=zm.made (K:=1) (by show Int.natAbs p<18446744073709551616^1;have e1: -9223372036854775808<=p:=v;have e2:p<=9223372036854775807:=z;omega) (by show Int.natAbs q<18446744073709551616^1;have e1: -9223372036854775808<=q:=A;have e2:q<=9223372036854775807:=B;omega) zf;(with_reducible refine(n.o.of p q _ (HT.o _ hB) v z A B J).mono ?_);rintro e u ⟨b2,B2,m2,d2,E2,u2,v2,rfl,C,hb⟩;have hB:=zc hB hb;have g:=zb (g.o.below hb);obtain⟨g1,e1,i1⟩:=yi hb g1 e1 i1;have k:=zb C;clear hb C;obtain⟨i,t,bz⟩:=zw u 54 #[.bool b2,.slice B2 m2 d2,.slice E2 u2 v2];have hB:=zc hB i;have g:=zb (g.o.below i);obtain⟨g1,e1,i1⟩:=yi i g1 e1 i1;have k:=zb (k.o.below i);obtain⟨g3,e3,i3⟩:=t.c3;clear i t bz;go_wp2_with fail;generalize u.alloc (.cells #[.bool b2,.slice B2 m2 d2,.slice E2 u2 v2] 54)=W3 at*;generalize u.heap.size=q3 at*;have C0:=zj W3 (λw' h=>wg (decide_eq_true HE.o) (n.o.same (r) (Rat.divInt p q) bx b2 Bx B2 mx m2 dx d2 Ex E2 ux u2 vx v2 w' (HT.o _ (zc hB h)) (g.o.below h) (k.o.below h) (szq s g.o) (szq o k.o)));have E:zd (Sz (K) (r.num).natAbs):=zm.num s.o;have C1:=zj W3 (λw' h=>n.o.num (r) bx Bx mx dx Ex ux vx w' (HT.o _ (zc hB h)) (g.o.below h) (szq s g.o));have F:zd (Sz (1) ((Rat.divInt p q).num).natAbs):=zm.num o.o;have C2:=zj W3 (λw' h=>n.o.num (Rat.divInt p q) b2 B2 m2 d2 E2 u2 v2 w' (HT.o _ (zc hB h)) (k.o.below h) (szq o k.o));have C3:=zj W3 (λw' h b4 B4 m4 d4 (c:z6 w' (r.num) b4 B4 m4 d4) b5 B5 m5 d5 (d:z6 w' ((Rat.divInt p q).num) b5 B5 m5 d5)=>mo (by rw [HE.o]) (D.o.cmp (r.num) ((Rat.divInt p q).num) b4 b5 B4 B5 m4 m5 d4 d5 w' (HT.o _ (zc hB h)) c d (by have:=Sz.words E.o c.words;omega) (by have:=Sz.words F.o d.words;omega)));have G:zd (Sz (K) (r.den)):=zm.den s.o;have C4:=zj W3 (λw' h=>n.o.den (r) bx Bx mx dx Ex ux vx w' (HT.o _ (zc hB h)) (g.o.below h) (szq s g.o));have H:zd (Sz (1) ((Rat.divInt p q).den)):=zm.den o.o;have C5:=zj W3 (λw' h=>n.o.den (Rat.divInt p q) b2 B2 m2 d2 E2 u2 v2 w' (HT.o _ (zc hB h)) (k.o.below h) (szq o k.o));have C6:=zj W3 (λw' h B6 m6 d6 (j:zo w' (r.den) B6 m6 d6) B7 m7 d7 (m:zo w' ((Rat.divInt p q).den) B7 m7 d7)=>fQ (x:=r.den) (y:=(Rat.divInt p q).den) (by rw [HE.o]) j m (yz G j) (yz H m));have a:=(qZ W3.heap.size W3).drew;refine rg (zk g1 (zk e1 (zk i1 (zk g3 (zk e3 (zk i3 zO)))))) (λhHeld=>?_);refine tk 0 ?_;refine tk 1 ?_;refine tk 2 ?_;refine tk 3 ?_;refine rc 4 (λK hK=>?_);go_simp;go_at_call 79;(with_reducible refine(C0.o _ a).mono ?_);rintro e wa4 ⟨rfl,hb⟩;have a:=zc a hb;refine hK.out _ _ (Cs.below hHeld hb) (λhHeld=>?_);clear hK K hb
 try simp only [zI]
 refine tk 5 ?_;refine tk 6 ?_;refine tk 7 ?_;refine tk 9 ?_;refine rc 8 (λK hK=>?_);go_simp;go_at_call 45;(with_reducible refine(C1.o _ a).mono ?_);rintro e wa5 ⟨b4,B4,m4,d4,rfl,c,hb⟩;have a:=zc a hb;refine hK.out _ _ (Cs.below hHeld hb) (λhHeld=>?_);clear hK K hb
 try simp only [zI]
 refine rc 10 (λK hK=>?_);go_simp;go_at_call 45;(with_reducible refine(C2.o _ a).mono ?_);rintro e wa6 ⟨b5,B5,m5,d5,rfl,d,hb⟩;have a:=zc a hb;have c:=c.below hb;refine hK.out _ _ (Cs.below hHeld hb) (λhHeld=>?_);clear hK K hb
 try simp only [zI]
 refine rc 11 (λK hK=>?_);go_simp;go_at_call 80;(with_reducible refine(C3.o _ a _ _ _ _ c _ _ _ _ d).mono ?_);rintro e wa7 ⟨rfl,hb⟩;have a:=zc a hb;have c:=c.below hb;have d:=d.below hb;refine hK.out _ _ (Cs.below hHeld hb) (λhHeld=>?_);clear hK K hb
 try simp only [zI]
 refine tk 12 ?_;refine tk 13 ?_;refine tk 14 ?_;refine tk 15 ?_;refine tk 17 ?_;refine rc 16 (λK hK=>?_);go_simp;go_at_call 47;(with_reducible refine(C4.o _ a).mono ?_);rintro e wa8 ⟨B6,m6,d6,rfl,j,hb⟩;have a:=zc a hb;have c:=c.below hb;have d:=d.below hb;refine hK.out _ _ (Cs.below hHeld hb) (λhHeld=>?_);clear hK K hb
 try simp only [zI]
 refine rc 18 (λK hK=>?_);go_simp;go_at_call 47;(with_reducible refine(C5.o _ a).mono ?_);rintro e wa9 ⟨B7,m7,d7,rfl,m,hb⟩;have a:=zc a hb;have c:=c.below hb;have d:=d.below hb;have j:=j.below hb;refine hK.out _ _ (Cs.below hHeld hb) (λhHeld=>?_);clear hK K hb
 try simp only [zI]
 refine rc 19 (λK hK=>?_);go_simp;go_at_call 81;(with_reducible refine(C6.o _ a _ _ _ j _ _ _ m).mono ?_);rintro e wa10 ⟨rfl,hb⟩;have a:=zc a hb;have c:=c.below hb;have d:=d.below hb;have j:=j.below hb;have m:=m.below hb;refine hK.out _ _ (Cs.below hHeld hb) (λhHeld=>?_);clear hK K hb
 try simp only [zI]
 refine tk 20 ?_;refine tk 21 ?_;refine tk 22 ?_;refine z4 ?_;have hB:=zc hB a;obtain⟨g1,e1,i1,g3,e3,i3⟩:=zR a g1 e1 i1 g3 e3 i3;clear a hHeld c d j m C0 C1 C2 C3 C4 C5 C6;go_wp2;go_ret;exact⟨by first|rfl|simp,hB⟩
