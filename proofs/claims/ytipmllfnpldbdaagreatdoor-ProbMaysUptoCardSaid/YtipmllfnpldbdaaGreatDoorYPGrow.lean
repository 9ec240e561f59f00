/- What this claim leans on. -/
import Derived.Test.YtipmllfnpldbdaaGreatDoorYPZero
set_option linter.unusedVariables false
set_option linter.unusedSimpArgs false
namespace Go.Proofs.YtipmllfnpldbdaaGreatDoor
open Go Go.RowKit Go.Proofs.Tryz
set_option maxHeartbeats 16000000
set_option maxRecDepth 100000
variable {b:Bool}{vs:List Value}{a c d f m u:Nat}{t:TypeId}{v:Value}{w w':World}{B C E:zf}
def uA (Φ:Value->Prop)(w:World)(v:Value):Prop:=∀g,v.ownBlock=some g->∃(cur:Array Value) (e:TypeId),w.heap[g]?=some (.cells cur e (0,0))/\∀u ∈ cur.toList,Φ u
theorem uA.nil (Φ:Value->Prop)(w:World)(c:Nat):uA Φ w (.slice none 0 c):=λg h=>by simp [Value.ownBlock] at h
theorem uA.below {Φ:Value->Prop}(h:uA Φ w v)(hb:Below w.heap.size w w'):uA Φ w' v:=λg e=>by
 obtain⟨a,t,h1,h2⟩:=h g e;exact⟨a,t,(hb.block g (Array.getElem?_eq_some_iff.1 h1).1).trans h1,h2⟩
section
variable {P:Program}{Φ:Value->Prop}(w:World)
theorem ZP (x:Nat)(t ty e:TypeId)(i:TypeInfo)(z:Value)(size bytes:Nat)(ht:P.underlying t=some (.slice e))(hi:P.info? e=some i)(hz:i.zero=some z)
  (J:i.size=size) (R:i.bytes=bytes) (U:z.cells.size=size) (hsz:0<size)
  (v:Value) (n:Nat) (xs:List Value) (h:w.ownsRow x e size v n xs)
  (a:Addr) (m c:Nat) (d:List Value) (hl:d.length=m*size) (B:∀j u,d[j]?=some u->w.cell? (a.add j)=some u) (h1:∀u ∈ d,u.oneCell'=true)
  (L:n+m<=maxLen) (C:(n+m)*bytes<=140737488355328) (F:x<=w.heap.size)
  (hv:uA Φ w v) (T:∀u ∈ z.cells.toList,Φ u) (Q:∀u ∈ d,Φ u):
  ∃ v' w',(Builtin.append_ #[t,t] ty #[v,.slice (some a) m c]).run P w = .ok v' w' ∧ w'.ownsRow x e size v' (n + m) (xs ++ d) ∧ w.grownBy w' v.ownBlock ∧
   (v'.ownBlock=v.ownBlock\/v'.ownBlock=some w.heap.size)/\uA Φ w' v':=by
 subst J;subst R;have hsmall:n+m<=9223372036854775807:=by simp only [maxLen] at L;omega
 have D:(xs++d).length=(n+m)*i.size:=by rw [qA,h.1,hl,QH]
 have grown : ∀ (old : Nat),old < n + m → (∀ u ∈ xs,Φ u) → ∀ (row : Option Nat),
   (w.drew.alloc (.cells (xs.toArray ++ d.toArray ++ Builtin.zeroCells z.cells (grownCap w (n + m) old e - (n + m))) e)).ownsRow x e i.size
     (.slice (some ⟨w.heap.size,0,none⟩) (n+m) (grownCap w (n+m) old e)) (n+m) (xs++d)/\
   w.grownBy (w.drew.alloc (.cells (xs.toArray++d.toArray++Builtin.zeroCells z.cells (grownCap w (n+m) old e - (n+m))) e)) row/\
   uA Φ (w.drew.alloc (.cells (xs.toArray++d.toArray++Builtin.zeroCells z.cells (grownCap w (n+m) old e - (n+m))) e)) (.slice (some ⟨w.heap.size,0,none⟩) (n+m) (grownCap w (n+m) old e)):=by
  intro old ho K row;have S:=grownCap_ge w (n+m) old e;have G:grownCap w (n+m) old e<=maxLen:=grownCap_le_maxLen w (n+m) old e L;refine⟨⟨D,.inr ⟨w.heap.size,_,_,rfl,F,heap_alloc_new w.drew _,S,G,?_,?_⟩⟩,⟨rfl,rfl,rfl,zD,λk hk _=>heap_alloc_old w.drew _ hk⟩,?_⟩
  ·simp only [Array.size_append,xH,size_zeroCells,U,h.1,hl,<-QH];congr 1;omega
  ·simp only [yT,xX];rw [<-xX,<-D];exact YO
  ·intro g hg;simp [Value.ownBlock] at hg;subst hg;refine⟨_,_,heap_alloc_new w.drew _,λu hu=>?_⟩;simp only [yT,XI] at hu;rcases hu with(hu|hu)|hu
   ·exact K u hu
   ·exact Q u hu
   ·exact T u (ig za hu)
 rcases h.2 with⟨rfl,rfl⟩|⟨g,cap,cur,rfl,hbg,hg,hnc,G,hcs,htake⟩
 ·have hx:xs=[]:=qM (by simpa using h.1);subst hx;by_cases hm:m=0
  ·subst hm;have hn:d=[]:=qM (by simpa using hl);subst hn;refine⟨.slice none 0 0,w,?_,XH w x e i.size,⟨rfl,rfl,rfl,qX _,λ_ _ _=>rfl⟩,Or.inl rfl,uA.nil _ _ _⟩;simp [Builtin.append_,run_underlying ht,sizeOf,typeInfo,hi,Builtin.lenOf,Builtin.firstCells,loadCells,loadCellsFrom]
  ·have hr:=run_append_nil (P:=P) w t ty e i z ht hi hz a m c d hl B za za (by have hb:=C;simp only [xG] at hb;omega);have A:=grown 0 za (λu hu=>by cases hu) (Value.ownBlock (.slice none 0 0));simp only [xG,XR,Array.empty_append] at A⊢;exact⟨_,_,hr,A.1,A.2.1,Or.inr rfl,A.2.2⟩
 ·obtain⟨y,e2,E,H⟩:=hv g rfl;have M:y=cur:=by
   rw [hg] at E;injection E with E;injection E with E;exact E.symm
  subst M;by_cases hroom:n+m<=cap
  ·have N:n*i.size+d.length<=y.size:=by rw [hl,hcs,<-QH];exact QK _ hroom
   have hr:=run_append_room (P:=P) w t ty e i ht hi g n cap y hg a m c d hl B h1 hroom N;refine⟨_,_,hr,⟨D,.inr ⟨g,cap,_,rfl,hbg,setRow_heap w g y _ e _ hg,hroom,G,?_,?_⟩⟩,⟨rfl,rfl,rfl,zD,λk _ hk=>setRow_other w g k _ (λe=>hk (by simp [Value.ownBlock,e]))⟩,Or.inl rfl,?_⟩
   ·simp only [xH,qA,QY,YX,XL];omega
   ·rw [htake,<-D];exact YO
   ·intro g' O;simp [Value.ownBlock] at O;subst O;refine⟨_,_,setRow_heap w g y _ e _ hg,λu hu=>?_⟩;rw [XI,XI] at hu;rcases hu with(hu|hu)|hu
    ·exact H u (XK hu)
    ·exact Q u hu
    ·exact H u (YV hu)
  ·have I:∀j u,xs[j]?=some u->w.cell? ((⟨g,0,none⟩:Addr).add j)=some u:=h.cells (g:=g) rfl;have hr:=run_append_grow (P:=P) w t ty e i z ht hi hz ⟨g,0,none⟩ n cap xs h.1 I a m c d hl B za za (growslice_fits za C);have K:∀u ∈ xs,Φ u:=λu hu=>H u (XK (by rw [htake];exact hu));have A:=grown cap za K (Value.ownBlock (.slice (some ⟨g,0,none⟩) n cap));exact⟨_,_,hr,A.1,A.2.1,Or.inr rfl,A.2.2⟩
end
def mZ (u:Value):Prop:=∀z,u≠.int .u64 z
theorem qr:(prog.info? 83).map (λi=>(i.zero,i.size,i.bytes))=some (some (.agg #[.slice none 0 0,.int .i64 0,.bool false,.slice none 0 0,.slice none 0 0]),5,88):=zm
structure xx (w:World)(base:Nat)(v:Value)(ps:List PR)(vs:List Value):Prop where
 own:w.ownsRow base 83 5 v ps.length vs
 now:uA mZ w v
 num : ∀ i p,ps[i]? = some p → ∃ (C : zf) (c : Nat) (b : Bool) (B : zf) (m d : Nat) (E : zf) (u f : Nat),vs[i * 5]? = some (.slice C p.co.length c) ∧ vs[i * 5 + 1]? = some (.int .i64 p.kd) ∧ vs[i * 5 + 2]? = some (.bool b) ∧ vs[i * 5 + 3]? = some (.slice B m d) ∧ vs[i * 5 + 4]? = some (.slice E u f) ∧
  zF w C p.co.length c p.co/\(∀ad,C=some ad->yv w ad.block 60)/\zu w p.rhs b B m d E u f
theorem xx.nil (w:World)(a:Nat):xx w a (.slice none 0 0) [] []:=⟨XH _ _ _ _,uA.nil _ _ _,λi p hi=>by simp at hi⟩
theorem xx.len {ps:List PR}(h:xx w a v ps vs):vs.length=ps.length*5:=h.own.1
theorem xx.shape {t:Nat}{ps:List PR}(h:xx w t v ps vs):∃A c,v=.slice A ps.length c/\re w A ps.length ps/\ps.length<=c/\c<=9223372036854775807/\∀ad,A=some ad->t<=ad.block:=by
 rcases h.own.2 with⟨rfl,h0⟩|⟨g,cap,cur,rfl,hbg,hg,hnc,hcm,hcs,htake⟩
 ·have hx:ps=[]:=qM h0;subst hx;exact⟨none,0,rfl,re.nil w none,qX _,zh,λad e=>by cases e⟩
 ·have a:=h.own.cells (g:=g) rfl;refine⟨some ⟨g,0,none⟩,cap,rfl,⟨rfl,λi p hi=>⟨_,rfl,(Array.getElem?_eq_some_iff.1 hg).1,?_⟩⟩,hnc,by unfold maxLen at hcm;omega,λad e=>by injection e with e;subst e;exact hbg⟩;obtain⟨C,c,b,B,m,d,E,u,f,h0,h1,h2,h3,h4,h5,h6,h7⟩:=h.num i p hi;have k:∀j v,vs[i*5+j]?=some v->w.cell? ⟨((⟨g,0,none⟩:Addr).add (i*5)).block,((⟨g,0,none⟩:Addr).add (i*5)).off+j,none⟩=some v:=λj v hv=>by
   have h8:=a _ _ hv;rw [xn] at h8⊢;exact h8
  exact⟨C,c,b,B,m,d,E,u,f,a _ _ h0,k 1 _ h1,k 2 _ h2,k 3 _ h3,k 4 _ h4,h5,h6,h7⟩
theorem xx.below {ps:List PR}(h:xx w a v ps vs)(hb:Below w.heap.size w w'):xx w' a v ps vs:=by
 refine⟨⟨h.own.1,?_⟩,h.now.below hb,λi p hi=>?_⟩
 ·rcases h.own.2 with h1|⟨g,cap,cur,e1,e2,e3,e4⟩
  ·exact .inl h1
  ·exact .inr ⟨g,cap,cur,e1,e2,(hb.block g (zi.lt (t:=83) (cs:=cur) e3)).trans e3,e4⟩
 ·obtain⟨C,c,b,B,m,d,E,u,f,h0,h1,h2,h3,h4,h5,h6,h7⟩:=h.num i p hi;exact⟨C,c,b,B,m,d,E,u,f,h0,h1,h2,h3,h4,h5.keep hb,λad e=>(h6 ad e).below hb,h7.below hb⟩
theorem iw {n:Nat}{ps:List PR}{L:List Rat}(h:xx w a v ps vs)(hg:w.grownBy w' v.ownBlock)(hv:zF w C n c L)(ht:∀ad,C=some ad->yv w ad.block 60):zF w' C n c L/\∀ad,C=some ad->yv w' ad.block 60:=by
 cases hw:v.ownBlock with
 |none=>rw [hw] at hg;exact⟨hv.keep (mw hg),λad e=>(ht ad e).below (mw hg)⟩
 |some g=>
   rw [hw] at hg;rcases h.own.2 with⟨rfl,_⟩|⟨g2,cap,cur,rfl,_,hk,_⟩
   ·cases hw
   ·obtain rfl:g2=g:=by simpa [Value.ownBlock] using hw
    have j:zi w g2 83 cur:=hk;obtain⟨d,e,h3,h4⟩:=h.now g2 rfl;have i:d=cur:=by
     rw [hk] at h3;injection h3 with h3;injection h3 with h3;exact h3.symm
    subst i;have m:∀ad,C=some ad->ad.block≠g2:=λad e=>(ht ad e).ne j zh;refine⟨zF.offB hv j (λv hv z=>h4 v hv z) (zY.of_grown hg) m,λad e=>?_⟩;obtain⟨ds,hd⟩:=ht ad e;exact⟨ds,(hg.block _ hd.lt (λe2=>m ad e (Option.some.inj e2))).trans hd⟩
theorem eM {ps:List PR}{r:Rat}(h:xx w a v ps vs)(hg:w.grownBy w' v.ownBlock)(hr:zu w r b B m d E u f):zu w' r b B m d E u f:=by
 cases hw:v.ownBlock with
 |none=>rw [hw] at hg;exact hr.below (mw hg)
 |some g=>
   rw [hw] at hg;obtain⟨i,e,h3,h4⟩:=h.now g hw;exact nZ (t:=e) (cs:=i) h3 (λv hv z=>h4 v hv z) (zY.of_grown hg) hr
theorem xx.grow {n:Nat}{v':Value}{ps:List PR}{p:PR}{k:Nat}(h:xx w a v ps vs)(hc:zF w C k c p.co)(ht:∀ad,C=some ad->yv w ad.block 60)(hr:zu w p.rhs b B m d E u f)
  (ho:w'.ownsRow a 83 5 v' n (vs++[.slice C k c,.int .i64 p.kd,.bool b,.slice B m d,.slice E u f])) (hn:n=ps.length+1) (hg:w.grownBy w' v.ownBlock) (hs:uA mZ w' v'):xx w' a v' (ps++[p]) (vs++[.slice C k c,.int .i64 p.kd,.bool b,.slice B m d,.slice E u f]):=by
 obtain rfl:p.co.length=k:=hc.len;have hl:=h.len;refine⟨by rw [qA,XS,<-hn];exact ho,hs,λi q hi=>?_⟩;by_cases hlt:i<ps.length
 ·rw [qO hlt] at hi;obtain⟨C,c,b,B,m,d,E,u,f,h0,h1,h2,h3,h4,h5,h6,h7⟩:=h.num i q hi;obtain⟨a1,a2⟩:=iw h hg h5 h6;exact⟨C,c,b,B,m,d,E,u,f,by rw [qO za];exact h0,by rw [qO za];exact h1,by rw [qO za];exact h2,by rw [qO za];exact h3,by rw [qO za];exact h4,a1,a2,eM h hg h7⟩
 ·rw [qD za] at hi;have g:i=ps.length:=by
   have:=(List.getElem?_eq_some_iff.1 hi).1;simp at this;omega
  subst g;obtain rfl:p=q:=by
   rw [xW] at hi;injection hi
  obtain⟨a1,a2⟩:=iw h hg hc ht;exact⟨C,c,b,B,m,d,E,u,f,by rw [qD za,hl,xW];rfl,by rw [qD za,hl,QW];rfl,by rw [qD za,hl,QW];rfl,by rw [qD za,hl,QW];rfl,by rw [qD za,hl,QW];rfl,a1,a2,eM h hg hr⟩
theorem kN {g:Nat}{x y z u:Value}(h:zi w g t #[x,y,z,u,v]):∀j a,[x,y,z,u,v][j]?=some a->w.cell? ((⟨g,0,none⟩:Addr).add j)=some a:=λj a ha=>by
 rw [xn]
 match j,ha with
 |0,ha=>simp at ha;subst ha;exact h.cell 0
 |1,ha=>simp at ha;subst ha;exact h.cell 1
 |2,ha=>simp at ha;subst ha;exact h.cell 2
 |3,ha=>simp at ha;subst ha;exact h.cell 3
 |4,ha=>simp at ha;subst ha;exact h.cell 4
theorem tQ (C B E:zf)(k c m d u f:Nat)(z:Int)(b:Bool):∀v ∈ [Value.slice C k c,.int .i64 z,.bool b,.slice B m d,.slice E u f],v.oneCell'=true:=by intro v hv;simp at hv;rcases hv with rfl|rfl|rfl|rfl|rfl<;>rfl
theorem tP (C B E:zf)(k c m d u f:Nat)(z:Int)(b:Bool):∀v ∈ [Value.slice C k c,.int .i64 z,.bool b,.slice B m d,.slice E u f],mZ v:=by intro v hv y;simp at hv;rcases hv with rfl|rfl|rfl|rfl|rfl<;>(intro h9;cases h9)
theorem UC:∀u ∈(Value.agg #[.slice none 0 0,.int .i64 0,.bool false,.slice none 0 0,.slice none 0 0]).cells.toList,mZ u:=by intro u hu y;simp [Value.cells] at hu;rcases hu with rfl|rfl|rfl|rfl<;>(intro h9;cases h9)
theorem wH.ty {A:zf}{n:Nat}{xs:List Rat}(h:wH zu w a t (.slice A n c) xs vs):∀ad,A=some ad->yv w ad.block t:=λad e=>by
 rcases h.own.2 with⟨e1,_⟩|⟨g,cap,cur,e1,_,hk,_⟩
 ·rw [e] at e1;cases e1
 ·rw [e] at e1;injection e1 with e1;injection e1 with e1;subst e1;exact⟨cur,hk⟩
