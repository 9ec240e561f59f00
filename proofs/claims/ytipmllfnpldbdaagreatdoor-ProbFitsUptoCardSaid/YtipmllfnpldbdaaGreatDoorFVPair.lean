/- What this claim leans on. -/
import Derived.Test.YtipmllfnpldbdaaGreatDoorFVMath
import Derived.Test.YtipmllfnpldbdaaGreatDoorFJ8Mul
import Derived.Test.YtipmllfnpldbdaaGreatDoorFJ8Ord
set_option linter.unusedVariables false
set_option linter.unusedSimpArgs false
namespace Go.Proofs.YtipmllfnpldbdaaGreatDoor
open Go Go.RowKit Go.Proofs.Tryz
set_option maxHeartbeats 16000000
set_option maxRecDepth 100000
variable {xs:List Rat}{vs:List Value}{c g k n:Nat}{t:TypeId}{v:Value}{w w':World}{A:zf}
theorem fM (f:Rat->Rat->Rat)(F:FuncId)(H:Array Value)(xs ys:List Rat)(A B:zf)(n c d:Nat)(w:World)(ha:zy w A n c xs)(hb:zy w B n d ys)(hn:n<=1073741824)
  (hEn:∀(args:Array Value) (w':World),Sem.run prog (callFunc F args) w'=.ok (.enter F args) w')
  (hF : ∀ i,i < n → ∀ w',Below w.heap.size w w' → ∀ (b b' : Bool) (A A' : zf) (n n' c c' : Nat) (E E' : zf) (k k' f9 I : Nat),zt w' (xs.getD i 0) b A n c E k f9 → zt w' (ys.getD i 0) b' A' n' c' E' k' I →
    Calls prog F (#[.agg #[.bool b,.slice A n c,.slice E k f9],.agg #[.bool b',.slice A' n' c',.slice E' k' I]]++H) w' (yc w' (f (xs.getD i 0) (ys.getD i 0)))):
  Calls prog 62 #[.slice A n c,.slice B n d,.func (.func F) #[] H] w (nE w n (List.zipWith f xs ys)):=by
 have O:=ha.len;have P:=hb.len;have x:(List.zipWith f xs ys).length=n:=bD O P;unfold nE;have u:∀i,i<n->(List.zipWith f xs ys)[i]?=some (f (xs.getD i 0) (ys.getD i 0)):=λi hi=>by
  rw [List.getElem?_zipWith,qQ,qQ,qZ za,qZ za];rfl
 obtain⟨zs,S⟩:∃zs,List.zipWith f xs ys=zs:=⟨_,rfl⟩;rw [S] at u x⊢;have HG:=zd u;have G:=zd x;have HF:=zd hF;have HA:=zd ha;have U:=zd hb;obtain⟨Z,hZ⟩:=ov n za;have ac:=λW=>(hZ W).1;have m:=zd (λW=>(hZ W).2);clear hF ha hb O P x S u hZ;have hd0:((n:Int) !=(n:Int))=false:=zD;have i0:(0:Int)<=(n:Int):=za;go_enter func62,ntmps62;go_wp2_with fail;clear ac;have a:=m.o w;have hB:Below w.heap.size w (w.alloc (.cells Z 60)):=(qY _ w).alloc (qX _) _;obtain⟨gp,v⟩:∃g,w.heap.size=g:=⟨_,rfl⟩;have R:w.heap.size<=gp:=za;have hz:gp+1<=(w.alloc (.cells Z 60)).heap.size:=by simp [v]
 rw [v] at a⊢;rw [<-pK 0 zs n] at a;generalize w.alloc (.cells Z 60)=W1 at*;clear v m
 go_loopg [21] (n+1) (λg ix wr=>∃(k:Nat),k<=n/\n<g+k/\ix=.int .i64 k/\yk wr gp n (wF 0 zs n k)/\Below w.heap.size w wr)
 case atStart=>exact⟨0,QE _,za,rfl,a,hB⟩
 case round=>
  clear a hB hz;obtain⟨k,hkn,hg,rfl,a,hB⟩:=hrel;by_cases hlt:k<n
  ·obtain⟨ad,b1,B1,m1,d1,E1,u1,v1,rfl,-,X,Y,aa,hx⟩:=HA.o.get hB hlt;obtain⟨ae,b2,B2,m2,d2,E2,u2,v2,rfl,hae,L,M,N,hy⟩:=U.o.get hB hlt;have ab:decide ((k:Int)<(n:Int))=true:=by simp;omega
   have i1:(0:Int)<=(k:Int):=za;have i2:(k:Int)<(n:Int):=za;have hgr:=a.lt;obtain⟨st,d3,d4⟩:=zF wr 60 #[.bool b1,.slice B1 m1 d1,.slice E1 u1 v1];have D:=zd d3;have HX:=zd (hx.below st);have HY:=zd (hy.below st);have t:=zd (a.keep st);have j:=zd (ze hB st);have HE:=zd (And.intro (zq st L) (And.intro (zq st M) (zq st N)));clear hx hy a hB st d3 d4 L M N;go_wp2_with fail;clear X Y aa;generalize wr.alloc (.cells #[.bool b1,.slice B1 m1 d1,.slice E1 u1 v1] 60)=W2 at*;generalize wr.heap.size=gb at*;obtain⟨p0,p1,p2⟩:=D.o.c3;obtain⟨e0,e1,e2⟩:=HE.o;have h:=(qY W2.heap.size W2).drew;have y:=qF (k:=k*3) (show ae.block≠gp by omega);refine rg (zk p0 (zk p1 (zk p2 (zk e0 (zk e1 (zk e2 zP)))))) (λhHeld=>?_);refine tk 0 ?_;refine tk 1 ?_;refine tk 2 ?_;refine tk 3 ?_;refine tk 4 ?_;refine tk 5 ?_;refine tk 6 ?_;refine tk 7 ?_;refine rc 8 (λK hK=>?_);go_simp;refine(HF.o k hlt _ (ze j.o h) _ _ _ _ _ _ _ _ _ _ _ _ _ _ (HX.o.below h) (HY.o.below h)).mono ?_;rintro e w3 ⟨b3,A3,n3,c3,E3,k3,f3,rfl,Q,hb⟩;have h:=ze h hb;refine hK.out _ _ (Cs.below hHeld hb) (λhHeld=>?_);clear hK K hb;refine tk 9 ?_;have z:=t.o.keep h;obtain⟨q0,q1,q2,af,ai,ag,aj,ah,ak⟩:=z.ready hlt (.bool b3) (.slice A3 n3 c3);refine rc 10 (λK hK=>?_);go_simp;have C:=y6.set_ yx z hlt Q;rw [pM 0 zs n k G.o hlt _ (HG.o k hlt)] at C;have J:=pI (k*3) (k*3+1) (k*3+2) (.bool b3) (.slice A3 n3 c3) (.slice E3 k3 f3) R (ze j.o h);refine hK.out _ _ (Cs.far hHeld (kj _ _ _ _ _ _ _ _) (by refine⟨?_,?_,?_,y,y,y,trivial⟩<;>(show gb≠gp;omega))) (λhHeld=>?_);clear hK K;refine yb ?_;have V:=zd C;have T:=zd J;clear C J z hHeld h Q af ai ag aj ah ak p0 p1 p2 e0 e1 e2 D HX HY t j HE;go_wp2;go_roundg (n - k)
   case measure=>omega
   case rel=>exact⟨k+1,za,za,by go_num,V.o,T.o⟩
  ·have hk:k=n:=za;subst hk;have ab:decide ((k:Int)<(k:Int))=false:=zD;have HR:=zd (pL 0 zs k G.o▸a);have j:=zd hB;clear a hB;go_wp2
   go_ret2
   exact⟨gp,rfl,R,HR.o,j.o⟩
section
variable {K K':Nat}{x y:Rat}{b b':Bool}{A A':zf}{n n' c c':Nat}{E E':zf}{k k' f f':Nat}{w:World}
theorem lk (hT:zu w)(h:zt w x b A n c E k f)(h':zt w y b' A' n' c' E' k' f')(z:zp K x)(z':zp K' y)(hK:K<=67108864:=by omega)(a:K'<=67108864:=by omega):
  Calls prog 27 #[.agg #[.bool b,.slice A n c,.slice E k f],.agg #[.bool b',.slice A' n' c',.slice E' k' f']] w (yc w (x+y)):=jf x y b A n c E k f b' A' n' c' E' k' f' w hT h h' (z.fit h hK) (z'.fit h' a)
theorem og (hT:zu w)(h:zt w x b A n c E k f)(h':zt w y b' A' n' c' E' k' f')(z:zp K x)(z':zp K' y)(hK:K<=67108864:=by omega)(a:K'<=67108864:=by omega):
  Calls prog 40 #[.agg #[.bool b,.slice A n c,.slice E k f],.agg #[.bool b',.slice A' n' c',.slice E' k' f']] w (yc w (x - y)):=cS x y b A n c E k f b' A' n' c' E' k' f' w hT h h' (z.fit h hK) (z'.fit h' a)
theorem ll (hT:zu w)(h:zt w x b A n c E k f)(h':zt w y b' A' n' c' E' k' f')(z:zp K x)(z':zp K' y)(hK:K<=67108864:=by omega)(a:K'<=67108864:=by omega):
  Calls prog 63 #[.agg #[.bool b,.slice A n c,.slice E k f],.agg #[.bool b',.slice A' n' c',.slice E' k' f']] w (yc w (x*y)):=cP x y b A n c E k f b' A' n' c' E' k' f' w hT h h' (z.fit h hK) (z'.fit h' a)
theorem oe (hT:zu w)(h:zt w x b A n c E k f)(h':zt w y b' A' n' c' E' k' f')(z:zp K x)(z':zp K' y)(hK:K<=67108864:=by omega)(a:K'<=67108864:=by omega):
  Calls prog 25 #[.agg #[.bool b,.slice A n c,.slice E k f],.agg #[.bool b',.slice A' n' c',.slice E' k' f']] w (wI w (xp x y)):=cM x y b A n c E k f b' A' n' c' E' k' f' w hT h h' (z.fit h hK) (z'.fit h' a)
theorem jm {t:Bool}(e:decide (x=y)=t)(hT:zu w)(h:zt w x b A n c E k f)(h':zt w y b' A' n' c' E' k' f')(z:zp K x)(z':zp K' y)(hK:K<=67108864:=by omega)(a:K'<=67108864:=by omega):
  Calls prog 26 #[.agg #[.bool b,.slice A n c,.slice E k f],.agg #[.bool b',.slice A' n' c',.slice E' k' f']] w (λe w'=>e=.returned (.bool t)/\Below w.heap.size w w'):=xc e (dG x y b A n c E k f b' A' n' c' E' k' f' w hT h h' (z.fit h hK) (z'.fit h' a))
theorem iS {t:Bool}(e:decide (x=0)=t)(hT:zu w)(h:zt w x b A n c E k f)(z:zp K x)(hK:K<=67108864:=by omega):
  Calls prog 66 #[.agg #[.bool b,.slice A n c,.slice E k f]] w (λe w'=>e=.returned (.bool t)/\Below w.heap.size w w'):=xc e (vn x b A n c E k f w hT h (z.fit h hK))
theorem iR {v:Int}(e:vz x=v)(hT:zu w)(h:zt w x b A n c E k f)(z:zp K x)(hK:K<=67108864:=by omega):
  Calls prog 61 #[.agg #[.bool b,.slice A n c,.slice E k f]] w (λe w'=>e=.returned (.int .i64 v)/\Below w.heap.size w w'):=vN e (kX x b A n c E k f w hT h (z.fit h hK))
end
theorem oU:∀(args:Array Value) (w':World),Sem.run prog (callFunc 40 args) w'=.ok (.enter 40 args) w':=Go.Proofs.enters_of func40 zV rfl
theorem oR:∀(args:Array Value) (w':World),Sem.run prog (callFunc 63 args) w'=.ok (.enter 63 args) w':=Go.Proofs.enters_of func63 zV rfl
theorem zy.rats (h:zy w A n c xs):lS w A n c xs:=⟨h.len,h.fits,h.most,λi hi=>h.at_ hi 0⟩
theorem sB (rs:List Rat):uG rs=ul rs:=rfl
theorem kk {K:Nat}(hT:zu w)(h:zy w A n c xs)(hx:zH K xs)(hn:n<=1073741824)(hK:1+n*(K+1)<=67108864):
  Calls prog 55 #[.slice A n c] w (yc w (ul xs)):=by
 have hl:=h.len;have e:=sB xs;rw [<-e];refine pk xs A n c (1+n*(K+1)) w hT h.rats hn hK (λi hi=>(hx.at_ za).up ?_) (λk hk=>?_)
 ·have:K+1<=n*(K+1):=Nat.le_mul_of_pos_left _ za;omega
 ·rw [sB];exact pB hx hl k hk
theorem il {x:Rat}{b:Bool}{E:zf}{f:Nat}(h:zi w g t #[.bool b,.slice A n c,.slice E k f])(hx:zt w x b A n c E k f):zy w (some ⟨g,0,none⟩) 1 1 [x]:=
 ⟨rfl,qX _,zh,λi y hi=>by
  have h0:i=0:=by
   have:=(List.getElem?_eq_some_iff.1 hi).1;simpa using this
  subst h0;obtain rfl:x=y:=by simpa using hi
  exact⟨_,b,A,n,c,E,k,f,rfl,h.lt,by rw [xh];exact h.cell 0,by rw [xh];exact h.cell 1,by rw [xh];exact h.cell 2,hx⟩⟩
def vV (u:Value):Prop:=∀k z,u≠.int k z
def wn (w:World)(v:Value):Prop:=∀g,v.ownBlock=some g->∃(cur:Array Value) (e:TypeId),w.heap[g]?=some (.cells cur e (0,0))/\∀u ∈ cur.toList,vV u
theorem wn.nil (w:World)(c:Nat):wn w (.slice none 0 c):=λg h=>by simp [Value.ownBlock] at h
theorem wn.block (h:wn w v)(hg:∀g,v.ownBlock=some g->w'.heap[g]?=w.heap[g]?):wn w' v:=λg e=>by
 obtain⟨a,t,h1,h2⟩:=h g e;exact⟨a,t,(hg g e).trans h1,h2⟩
theorem wn.below (h:wn w v)(hb:Below w.heap.size w w'):wn w' v:=λg e=>by
 obtain⟨a,t,h1,h2⟩:=h g e;exact⟨a,t,(hb.block g (Array.getElem?_eq_some_iff.1 h1).1).trans h1,h2⟩
theorem jH {z:Array Value}{u:Value}(hz:0<z.size)(hu:u ∈(Builtin.zeroCells z k).toList):u ∈ z.toList:=by
 unfold Builtin.zeroCells at hu;rw [YG,Array.mem_map] at hu;obtain⟨i,_,rfl⟩:=hu;have a:i%z.size<z.size:=QN _ hz;rw [getElem!_pos z (i%z.size) a,YG];exact Array.getElem_mem a
section
variable {P:Program}(w:World)
theorem aW (x:Nat)(t ty e:TypeId)(i:TypeInfo)(z:Value)(size bytes:Nat)(ht:P.underlying t=some (.slice e))(hi:P.info? e=some i)(hz:i.zero=some z)
  (J:i.size=size) (R:i.bytes=bytes) (U:z.cells.size=size) (hsz:0<size)
  (v:Value) (n:Nat) (xs:List Value) (h:w.ownsRow x e size v n xs)
  (a:Addr) (m c:Nat) (d:List Value) (hl:d.length=m*size) (B:∀j u,d[j]?=some u->w.cell? (a.add j)=some u) (h1:∀u ∈ d,u.oneCell'=true)
  (L:n+m<=maxLen) (C:(n+m)*bytes<=140737488355328) (F:x<=w.heap.size)
  (hv:wn w v) (T:∀u ∈ z.cells.toList,vV u) (Q:∀u ∈ d,vV u):
  ∃ v' w',(Builtin.append_ #[t,t] ty #[v,.slice (some a) m c]).run P w = .ok v' w' ∧ w'.ownsRow x e size v' (n + m) (xs ++ d) ∧ w.grownBy w' v.ownBlock ∧
   (v'.ownBlock=v.ownBlock\/v'.ownBlock=some w.heap.size)/\wn w' v':=by
 subst J;subst R;have hsmall:n+m<=9223372036854775807:=by simp only [maxLen] at L;omega
 have D:(xs++d).length=(n+m)*i.size:=by rw [qB,h.1,hl,QD]
 have grown : ∀ (old : Nat),old < n + m → (∀ u ∈ xs,vV u) → ∀ (row : Option Nat),
   (w.drew.alloc (.cells (xs.toArray ++ d.toArray ++ Builtin.zeroCells z.cells (grownCap w (n + m) old e - (n + m))) e)).ownsRow x e i.size
     (.slice (some ⟨w.heap.size,0,none⟩) (n+m) (grownCap w (n+m) old e)) (n+m) (xs++d)/\
   w.grownBy (w.drew.alloc (.cells (xs.toArray++d.toArray++Builtin.zeroCells z.cells (grownCap w (n+m) old e - (n+m))) e)) row/\
   wn (w.drew.alloc (.cells (xs.toArray++d.toArray++Builtin.zeroCells z.cells (grownCap w (n+m) old e - (n+m))) e)) (.slice (some ⟨w.heap.size,0,none⟩) (n+m) (grownCap w (n+m) old e)):=by
  intro old ho K row;have S:=grownCap_ge w (n+m) old e;have G:grownCap w (n+m) old e<=maxLen:=grownCap_le_maxLen w (n+m) old e L;refine⟨⟨D,.inr ⟨w.heap.size,_,_,rfl,F,heap_alloc_new w.drew _,S,G,?_,?_⟩⟩,⟨rfl,rfl,rfl,zD,λk hk _=>heap_alloc_old w.drew _ hk⟩,?_⟩
  ·simp only [Array.size_append,xH,size_zeroCells,U,h.1,hl,<-QD];congr 1;omega
  ·simp only [yI,xQ];rw [<-xQ,<-D];exact YL
  ·intro g hg;simp [Value.ownBlock] at hg;subst hg;refine⟨_,_,heap_alloc_new w.drew _,λu hu=>?_⟩;simp only [yI,XM] at hu;rcases hu with(hu|hu)|hu
   ·exact K u hu
   ·exact Q u hu
   ·exact T u (jH za hu)
 rcases h.2 with⟨rfl,rfl⟩|⟨g,cap,cur,rfl,hbg,hg,hnc,G,hcs,htake⟩
 ·have hx:xs=[]:=qN (by simpa using h.1);subst hx;by_cases hm:m=0
  ·subst hm;have hn:d=[]:=qN (by simpa using hl);subst hn;refine⟨.slice none 0 0,w,?_,XG w x e i.size,⟨rfl,rfl,rfl,qX _,λ_ _ _=>rfl⟩,Or.inl rfl,wn.nil _ _⟩;simp [Builtin.append_,run_underlying ht,sizeOf,typeInfo,hi,Builtin.lenOf,Builtin.firstCells,loadCells,loadCellsFrom]
  ·have hr:=run_append_nil (P:=P) w t ty e i z ht hi hz a m c d hl B za za (by have hb:=C;simp only [xG] at hb;omega);have A:=grown 0 za (λu hu=>by cases hu) (Value.ownBlock (.slice none 0 0));simp only [xG,XP,Array.empty_append] at A⊢;exact⟨_,_,hr,A.1,A.2.1,Or.inr rfl,A.2.2⟩
 ·obtain⟨y,e2,E,H⟩:=hv g rfl;have M:y=cur:=by
   rw [hg] at E;injection E with E;injection E with E;exact E.symm
  subst M;by_cases hroom:n+m<=cap
  ·have N:n*i.size+d.length<=y.size:=by rw [hl,hcs,<-QD];exact QJ _ hroom
   have hr:=run_append_room (P:=P) w t ty e i ht hi g n cap y hg a m c d hl B h1 hroom N;refine⟨_,_,hr,⟨D,.inr ⟨g,cap,_,rfl,hbg,setRow_heap w g y _ e _ hg,hroom,G,?_,?_⟩⟩,⟨rfl,rfl,rfl,zD,λk _ hk=>setRow_other w g k _ (λe=>hk (by simp [Value.ownBlock,e]))⟩,Or.inl rfl,?_⟩
   ·simp only [xH,qB,QX,yW,XH];omega
   ·rw [htake,<-D];exact YL
   ·intro g' O;simp [Value.ownBlock] at O;subst O;refine⟨_,_,setRow_heap w g y _ e _ hg,λu hu=>?_⟩;rw [XM,XM] at hu;rcases hu with(hu|hu)|hu
    ·exact H u (XJ hu)
    ·exact Q u hu
    ·exact H u (YU hu)
  ·have I:∀j u,xs[j]?=some u->w.cell? ((⟨g,0,none⟩:Addr).add j)=some u:=h.cells (g:=g) rfl;have hr:=run_append_grow (P:=P) w t ty e i z ht hi hz ⟨g,0,none⟩ n cap xs h.1 I a m c d hl B za za (growslice_fits za C);have K:∀u ∈ xs,vV u:=λu hu=>H u (XJ (by rw [htake];exact hu));have A:=grown cap za K (Value.ownBlock (.slice (some ⟨g,0,none⟩) n cap));exact⟨_,_,hr,A.1,A.2.1,Or.inr rfl,A.2.2⟩
theorem gO {E:Array Oper}{rest:List Oper}{o:Oper}{a:Act}{Q:Exit->Act->World->Prop}(H:o.guard=none)(s x:Operand)(t:TypeId)
  (ho:o.op=.call {callee:=.builtin .append,args:=#[s,x],argTypes:=#[t,t]})
  (g:Nat) (e:TypeId) (i:TypeInfo) (z:Value) (size bytes:Nat) (ht:P.underlying t=some (.slice e)) (hi:P.info? e=some i) (hz:i.zero=some z)
  (C:i.size=size) (G:i.bytes=bytes) (L:z.cells.size=size) (hsz:0<size)
  (v:Value) (n:Nat) (xs:List Value) (hs:a.eval s=v) (D:w.ownsRow g e size v n xs)
  (ad:Addr) (m c:Nat) (d:List Value) (hx:a.eval x=.slice (some ad) m c) (hl:d.length=m*size) (B:∀j u,d[j]?=some u->w.cell? (ad.add j)=some u) (h1:∀u ∈ d,u.oneCell'=true)
  (F:n+m<=maxLen) (y:(n+m)*bytes<=140737488355328) (A:g<=w.heap.size)
  (hv:wn w v) (J:∀u ∈ z.cells.toList,vV u) (I:∀u ∈ d,vV u)
  (h:∀v' w',w'.ownsRow g e size v' (n+m) (xs++d)->w.grownBy w' v.ownBlock->(v'.ownBlock=v.ownBlock\/v'.ownBlock=some w.heap.size)->wn w' v'->wpList P E Q rest (a.put o.dst v') w'):
  wpList P E Q (o::rest) a w:=by
 refine wpList_plain H λK hK=>?_;obtain⟨v',w',hr,h2,h3,h4,h5⟩:=aW (P:=P) w g t o.type e i z size bytes ht hi hz C G L hsz v n xs D ad m c d hl B h1 F y A hv J I;unfold Oper.wp execOp;simp only [ho,resolve,invoke,builtin,Sem.run_bind,Sem.run_pure,Result.andThen_ok,YP,YJ,List.map_nil,hs,hx,hr];exact hK _ _ (h v' w' h2 h3 h4 h5)
end
theorem wn.blk (h:wn w v)(hg:v.ownBlock=some g):∃(t:TypeId) (cs:Array Value),zi w g t cs/\ye cs:=by
 obtain⟨a,e,h1,h2⟩:=h g hg;exact⟨e,a,h1,λu hu k z=>h2 u hu k z⟩
theorem sP.grown {α:Type}{E:El α}(hE:sP E){w w':World}{v:Value}{x:α}{b:Bool}{A:zf}{n c:Nat}{F:zf}{k f:Nat}(h:E w x b A n c F k f)(hg:w.grownBy w' v.ownBlock)(hn:wn w v):E w' x b A n c F k f:=by
 cases hv:v.ownBlock with
 |none=>rw [hv] at hg;exact hE.below h (mi hg)
 |some g=>
   rw [hv] at hg;obtain⟨t,cs,hk,hc⟩:=hn.blk hv;exact hE.offg h hk hc (zZ.of_grown hg)
theorem Zl {cs:Array Value}{row:Option Nat}(h:zi w g t cs)(hg:w.grownBy w' row)(a:row≠some g):zi w' g t cs:=(hg.block g (zi.lt h) (λe=>a e.symm)).trans h
structure xo {α:Type}(E:El α)(w:World)(base:Nat)(t:TypeId)(v:Value)(xs:List α)(vs:List Value):Prop where
 own:w.ownsRow base t 3 v xs.length vs
 nou:wn w v
 num:∀i x,xs[i]?=some x->∃(b:Bool) (B:zf) (m d:Nat) (F:zf) (u f:Nat),vs[i*3]?=some (.bool b)/\vs[i*3+1]?=some (.slice B m d)/\vs[i*3+2]?=some (.slice F u f)/\E w x b B m d F u f
section
variable {α:Type}{E:El α}
theorem xo.nil (w:World)(a:Nat)(t:TypeId):xo E w a t (.slice none 0 0) [] []:=⟨XG _ _ _ _,wn.nil _ _,λi x hi=>by simp at hi⟩
theorem xo.len {a:Nat}{xs:List α}(h:xo E w a t v xs vs):vs.length=xs.length*3:=h.own.1
theorem xo.shape {j:Nat}{xs:List α}(h:xo E w j t v xs vs):∃A c,v=.slice A xs.length c/\yh E w A xs.length c xs/\∀ad,A=some ad->j<=ad.block:=by
 rcases h.own.2 with⟨rfl,h0⟩|⟨g,cap,cur,rfl,hbg,hg,hnc,hcm,hcs,htake⟩
 ·have hx:xs=[]:=qN h0;subst hx;exact⟨none,0,rfl,yh.nil w,λad e=>by cases e⟩
 ·have a:=h.own.cells (g:=g) rfl;refine⟨some ⟨g,0,none⟩,cap,rfl,⟨rfl,hnc,by unfold maxLen at hcm;omega,λi x hi=>?_⟩,λad e=>by injection e with e;subst e;exact hbg⟩;obtain⟨b,B,m,d,F,u,f,h1,h2,h3,h4⟩:=h.num i x hi;exact⟨_,b,B,m,d,F,u,f,rfl,(Array.getElem?_eq_some_iff.1 hg).1,a _ _ h1,a _ _ h2,a _ _ h3,h4⟩
theorem xo.below (hE:sP E){w w':World}{a:Nat}{t:TypeId}{v:Value}{xs:List α}{vs:List Value}(h:xo E w a t v xs vs)(hb:Below w.heap.size w w'):xo E w' a t v xs vs:=by
 refine⟨⟨h.own.1,?_⟩,h.nou.below hb,λi x hi=>?_⟩
 ·rcases h.own.2 with h1|⟨g,cap,cur,e1,e2,e3,e4⟩
  ·exact .inl h1
  ·exact .inr ⟨g,cap,cur,e1,e2,(hb.block g (zi.lt (t:=t) (cs:=cur) e3)).trans e3,e4⟩
 ·obtain⟨b,B,m,d,F,u,f,h1,h2,h3,h4⟩:=h.num i x hi;exact⟨b,B,m,d,F,u,f,h1,h2,h3,hE.below h4 hb⟩
theorem xo.grow (hE:sP E){w w':World}{a n:Nat}{t:TypeId}{v v':Value}{xs:List α}{vs:List Value}{x:α}{b:Bool}{B F:zf}{m d u f:Nat}(h:xo E w a t v xs vs)(hx:E w x b B m d F u f)
  (ho:w'.ownsRow a t 3 v' n (vs++[.bool b,.slice B m d,.slice F u f])) (hn:n=xs.length+1) (hg:w.grownBy w' v.ownBlock) (j:wn w' v'):xo E w' a t v' (xs++[x]) (vs++[.bool b,.slice B m d,.slice F u f]):=by
 have hl:=h.len;refine⟨by rw [qB,XO,<-hn];exact ho,j,λi y hi=>?_⟩;by_cases hlt:i<xs.length
 ·rw [qO hlt] at hi;obtain⟨b1,B1,m1,d1,F1,u1,f1,h1,h2,h3,h4⟩:=h.num i y hi;exact⟨b1,B1,m1,d1,F1,u1,f1,by rw [qO za];exact h1,by rw [qO za];exact h2,by rw [qO za];exact h3,hE.grown h4 hg h.nou⟩
 ·rw [qD za] at hi;have g:i=xs.length:=by
   have:=(List.getElem?_eq_some_iff.1 hi).1;simp at this;omega
  subst g;obtain rfl:x=y:=by
   rw [xI] at hi;injection hi
  exact⟨b,B,m,d,F,u,f,by rw [qD za,hl,xI];rfl,by rw [qD za,hl,QW];rfl,by rw [qD za,hl,QW];rfl,hE.grown hx hg h.nou⟩
end
theorem Vp:∀u ∈(Value.agg #[.bool false,.slice none 0 0,.slice none 0 0]).cells.toList,vV u:=by intro u hu y z;simp [Value.cells] at hu;rcases hu with rfl|rfl<;>(intro h9;cases h9)
