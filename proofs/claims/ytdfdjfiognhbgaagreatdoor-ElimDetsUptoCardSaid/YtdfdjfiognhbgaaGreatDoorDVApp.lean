/- What this claim leans on. -/
import Derived.Test.YtdfdjfiognhbgaaGreatDoorDBunJ
set_option linter.unusedVariables false
set_option linter.unusedSimpArgs false
namespace Go.Proofs.YtdfdjfiognhbgaaGreatDoor
open Go Go.RowKit
set_option maxHeartbeats 16000000
variable {ld xs:List Nat}{vs:List Value}{c g j k m n n':Nat}{M M' R:Nat->Nat->Rat}{u:Nat->Rat}{t:TypeId}{v:Value}{w w':World}
def tR (u:Value):Prop:=∀k z,u≠.int k z
def ve (w:World)(v:Value):Prop:=∀g,v.ownBlock=some g->∃(cur:Array Value) (e:TypeId),w.heap[g]?=some (.cells cur e (0,0))/\∀u ∈ cur.toList,tR u
theorem ve.nil (w:World)(c:Nat):ve w (.slice none 0 c):=λg h=>by simp [Value.ownBlock] at h
theorem ve.block (h:ve w v)(hg:∀g,v.ownBlock=some g->w'.heap[g]?=w.heap[g]?):ve w' v:=λg e=>by
 obtain⟨a,t,h1,h2⟩:=h g e;exact⟨a,t,(hg g e).trans h1,h2⟩
theorem ve.below (h:ve w v)(hb:Below w.heap.size w w'):ve w' v:=λg e=>by
 obtain⟨a,t,h1,h2⟩:=h g e;exact⟨a,t,(hb.block g (Array.getElem?_eq_some_iff.1 h1).1).trans h1,h2⟩
theorem Tz {z:Array Value}{u:Value}(hz:0<z.size)(hu:u ∈(Builtin.zeroCells z k).toList):u ∈ z.toList:=by
 unfold Builtin.zeroCells at hu;rw [yT,Array.mem_map] at hu;obtain⟨i,_,rfl⟩:=hu;have a:i%z.size<z.size:=QH _ hz;rw [getElem!_pos z (i%z.size) a,yT];exact Array.getElem_mem a
section
variable {P:Program}(w:World)
theorem Ya (s:Nat)(t ty e:TypeId)(i:TypeInfo)(z:Value)(size bytes:Nat)(ht:P.underlying t=some (.slice e))(hi:P.info? e=some i)(hz:i.zero=some z)
  (I:i.size=size) (Q:i.bytes=bytes) (T:z.cells.size=size) (hsz:0<size)
  (v:Value) (n:Nat) (xs:List Value) (o:w.ownsRow s e size v n xs)
  (a:Addr) (m c:Nat) (d:List Value) (hl:d.length=m*size) (B:∀j u,d[j]?=some u->w.cell? (a.add j)=some u) (h1:∀u ∈ d,u.oneCell'=true)
  (K:n+m<=maxLen) (C:(n+m)*bytes<=140737488355328) (F:s<=w.heap.size)
  (hv:ve w v) (S:∀u ∈ z.cells.toList,tR u) (O:∀u ∈ d,tR u):
  ∃ v' w',(Builtin.append_ #[t,t] ty #[v,.slice (some a) m c]).run P w = .ok v' w' ∧ w'.ownsRow s e size v' (n + m) (xs ++ d) ∧ w.grownBy w' v.ownBlock ∧
   (v'.ownBlock=v.ownBlock\/v'.ownBlock=some w.heap.size)/\ve w' v':=by
 subst I;subst Q;have hsmall:n+m<=9223372036854775807:=by simp only [maxLen] at K;omega
 have D:(xs++d).length=(n+m)*i.size:=by rw [QV,o.1,hl,QE]
 have grown : ∀ (old : Nat),old < n + m → (∀ u ∈ xs,tR u) → ∀ (row : Option Nat),
   (w.drew.alloc (.cells (xs.toArray ++ d.toArray ++ Builtin.zeroCells z.cells (grownCap w (n + m) old e - (n + m))) e)).ownsRow s e i.size
     (.slice (some ⟨w.heap.size,0,none⟩) (n+m) (grownCap w (n+m) old e)) (n+m) (xs++d)/\
   w.grownBy (w.drew.alloc (.cells (xs.toArray++d.toArray++Builtin.zeroCells z.cells (grownCap w (n+m) old e - (n+m))) e)) row/\
   ve (w.drew.alloc (.cells (xs.toArray++d.toArray++Builtin.zeroCells z.cells (grownCap w (n+m) old e - (n+m))) e)) (.slice (some ⟨w.heap.size,0,none⟩) (n+m) (grownCap w (n+m) old e)):=by
  intro old ho J row;have R:=grownCap_ge w (n+m) old e;have G:grownCap w (n+m) old e<=maxLen:=grownCap_le_maxLen w (n+m) old e K;refine⟨⟨D,.inr ⟨w.heap.size,_,_,rfl,F,heap_alloc_new w.drew _,R,G,?_,?_⟩⟩,⟨rfl,rfl,rfl,zE,λk hk _=>heap_alloc_old w.drew _ hk⟩,?_⟩
  ·simp only [Array.size_append,XG,size_zeroCells,T,o.1,hl,<-QE];congr 1;omega
  ·simp only [YU,xJ];rw [<-xJ,<-D];exact jX
  ·intro g hg;simp [Value.ownBlock] at hg;subst hg;refine⟨_,_,heap_alloc_new w.drew _,λu hu=>?_⟩;simp only [YU,yY] at hu;rcases hu with(hu|hu)|hu
   ·exact J u hu
   ·exact O u hu
   ·exact S u (Tz zb hu)
 rcases o.2 with⟨rfl,rfl⟩|⟨g,cap,cur,rfl,hbg,hg,hnc,G,hcs,htake⟩
 ·have hx:xs=[]:=QY (by simpa using o.1);subst hx;by_cases hm:m=0
  ·subst hm;have hn:d=[]:=QY (by simpa using hl);subst hn;refine⟨.slice none 0 0,w,?_,xK w s e i.size,⟨rfl,rfl,rfl,qY _,λ_ _ _=>rfl⟩,Or.inl rfl,ve.nil _ _⟩;simp [Builtin.append_,run_underlying ht,sizeOf,typeInfo,hi,Builtin.lenOf,Builtin.firstCells,loadCells,loadCellsFrom]
  ·have hr:=run_append_nil (P:=P) w t ty e i z ht hi hz a m c d hl B zb zb (by have hb:=C;simp only [xA] at hb;omega);have A:=grown 0 zb (λu hu=>by cases hu) (Value.ownBlock (.slice none 0 0));simp only [xA,yK,Array.empty_append] at A⊢;exact⟨_,_,hr,A.1,A.2.1,Or.inr rfl,A.2.2⟩
 ·obtain⟨y,e2,E,H⟩:=hv g rfl;have L:y=cur:=by
   rw [hg] at E;injection E with E;injection E with E;exact E.symm
  subst L;by_cases hroom:n+m<=cap
  ·have M:n*i.size+d.length<=y.size:=by rw [hl,hcs,<-QE];exact qW _ hroom
   have hr:=run_append_room (P:=P) w t ty e i ht hi g n cap y hg a m c d hl B h1 hroom M;refine⟨_,_,hr,⟨D,.inr ⟨g,cap,_,rfl,hbg,setRow_heap w g y _ e _ hg,hroom,G,?_,?_⟩⟩,⟨rfl,rfl,rfl,zE,λk _ hk=>setRow_other w g k _ (λe=>hk (by simp [Value.ownBlock,e]))⟩,Or.inl rfl,?_⟩
   ·simp only [XG,QV,qB,XX,YZ];omega
   ·rw [htake,<-D];exact jX
   ·intro g' N;simp [Value.ownBlock] at N;subst N;refine⟨_,_,setRow_heap w g y _ e _ hg,λu hu=>?_⟩;rw [yY,yY] at hu;rcases hu with(hu|hu)|hu
    ·exact H u (XY hu)
    ·exact O u hu
    ·exact H u (XD hu)
  ·have holds:∀j u,xs[j]?=some u->w.cell? ((⟨g,0,none⟩:Addr).add j)=some u:=o.cells (g:=g) rfl;have hr:=run_append_grow (P:=P) w t ty e i z ht hi hz ⟨g,0,none⟩ n cap xs o.1 holds a m c d hl B zb zb (growslice_fits zb C);have J:∀u ∈ xs,tR u:=λu hu=>H u (XY (by rw [htake];exact hu));have A:=grown cap zb J (Value.ownBlock (.slice (some ⟨g,0,none⟩) n cap));exact⟨_,_,hr,A.1,A.2.1,Or.inr rfl,A.2.2⟩
theorem Z6 {D:Array Oper}{rest:List Oper}{o:Oper}{a:Act}{Q:Exit->Act->World->Prop}(G:o.guard=none)(s x:Operand)(t:TypeId)
  (ho:o.op=.call {callee:=.builtin .append,args:=#[s,x],argTypes:=#[t,t]})
  (g:Nat) (e:TypeId) (i:TypeInfo) (z:Value) (size bytes:Nat) (ht:P.underlying t=some (.slice e)) (hi:P.info? e=some i) (hz:i.zero=some z)
  (B:i.size=size) (F:i.bytes=bytes) (J:z.cells.size=size) (hsz:0<size)
  (v:Value) (n:Nat) (xs:List Value) (hs:a.eval s=v) (C:w.ownsRow g e size v n xs)
  (ad:Addr) (m c:Nat) (d:List Value) (hx:a.eval x=.slice (some ad) m c) (hl:d.length=m*size) (A:∀j u,d[j]?=some u->w.cell? (ad.add j)=some u) (h1:∀u ∈ d,u.oneCell'=true)
  (E:n+m<=maxLen) (k:(n+m)*bytes<=140737488355328) (y:g<=w.heap.size)
  (hv:ve w v) (I:∀u ∈ z.cells.toList,tR u) (H:∀u ∈ d,tR u)
  (h:∀v' w',w'.ownsRow g e size v' (n+m) (xs++d)->w.grownBy w' v.ownBlock->(v'.ownBlock=v.ownBlock\/v'.ownBlock=some w.heap.size)->ve w' v'->wpList P D Q rest (a.put o.dst v') w'):
  wpList P D Q (o::rest) a w:=by
 refine wpList_plain G λK hK=>?_;obtain⟨v',w',hr,h2,h3,h4,h5⟩:=Ya (P:=P) w g t o.type e i z size bytes ht hi hz B F J hsz v n xs C ad m c d hl A h1 E k y hv I H;unfold Oper.wp execOp;simp only [ho,resolve,invoke,builtin,Sem.run_bind,Sem.run_pure,Result.andThen_ok,yI,yX,List.map_nil,hs,hx,hr];exact hK _ _ (h v' w' h2 h3 h4 h5)
end
theorem ve.blk (h:ve w v)(hg:v.ownBlock=some g):∃(t:TypeId) (cs:Array Value),zh w g t cs/\yf cs:=by
 obtain⟨a,e,h1,h2⟩:=h g hg;exact⟨e,a,h1,λu hu k z=>h2 u hu k z⟩
theorem si.grown {α:Type}{E:El α}(hE:si E){w w':World}{v:Value}{x:α}{b:Bool}{A:ze}{n c:Nat}{F:ze}{k f:Nat}(h:E w x b A n c F k f)(hg:w.grownBy w' v.ownBlock)(hn:ve w v):E w' x b A n c F k f:=by
 cases hv:v.ownBlock with
 |none=>rw [hv] at hg;exact hE.below h (lP hg)
 |some g=>
   rw [hv] at hg;obtain⟨t,cs,hk,hc⟩:=hn.blk hv;exact hE.offg h hk hc (ya.of_grown hg)
theorem tI {cs:Array Value}{row:Option Nat}(h:zh w g t cs)(hg:w.grownBy w' row)(a:row≠some g):zh w' g t cs:=(hg.block g (zh.lt h) (λe=>a e.symm)).trans h
structure wH {α:Type}(E:El α)(w:World)(base:Nat)(t:TypeId)(v:Value)(xs:List α)(vs:List Value):Prop where
 own:w.ownsRow base t 3 v xs.length vs
 nou:ve w v
 num:∀i x,xs[i]?=some x->∃(b:Bool) (B:ze) (m d:Nat) (F:ze) (u f:Nat),vs[i*3]?=some (.bool b)/\vs[i*3+1]?=some (.slice B m d)/\vs[i*3+2]?=some (.slice F u f)/\E w x b B m d F u f
section
variable {α:Type}{E:El α}
theorem wH.nil (w:World)(a:Nat)(t:TypeId):wH E w a t (.slice none 0 0) [] []:=⟨xK _ _ _ _,ve.nil _ _,λi x hi=>by simp at hi⟩
theorem wH.len {a:Nat}{xs:List α}(h:wH E w a t v xs vs):vs.length=xs.length*3:=h.own.1
theorem wH.shape {xs:List α}(h:wH E w j t v xs vs):∃A c,v=.slice A xs.length c/\zY E w A xs.length c xs/\∀ad,A=some ad->j<=ad.block:=by
 rcases h.own.2 with⟨rfl,h0⟩|⟨g,cap,cur,rfl,hbg,hg,hnc,hcm,hcs,htake⟩
 ·have hx:xs=[]:=QY h0;subst hx;exact⟨none,0,rfl,zY.nil w,λad e=>by cases e⟩
 ·have a:=h.own.cells (g:=g) rfl;refine⟨some ⟨g,0,none⟩,cap,rfl,⟨rfl,hnc,by unfold maxLen at hcm;omega,λi x hi=>?_⟩,λad e=>by injection e with e;subst e;exact hbg⟩;obtain⟨b,B,m,d,F,u,f,h1,h2,h3,h4⟩:=h.num i x hi;exact⟨_,b,B,m,d,F,u,f,rfl,(Array.getElem?_eq_some_iff.1 hg).1,a _ _ h1,a _ _ h2,a _ _ h3,h4⟩
theorem wH.below (hE:si E){w w':World}{a:Nat}{t:TypeId}{v:Value}{xs:List α}{vs:List Value}(h:wH E w a t v xs vs)(hb:Below w.heap.size w w'):wH E w' a t v xs vs:=by
 refine⟨⟨h.own.1,?_⟩,h.nou.below hb,λi x hi=>?_⟩
 ·rcases h.own.2 with h1|⟨g,cap,cur,e1,e2,e3,e4⟩
  ·exact .inl h1
  ·exact .inr ⟨g,cap,cur,e1,e2,(hb.block g (zh.lt (t:=t) (cs:=cur) e3)).trans e3,e4⟩
 ·obtain⟨b,B,m,d,F,u,f,h1,h2,h3,h4⟩:=h.num i x hi;exact⟨b,B,m,d,F,u,f,h1,h2,h3,hE.below h4 hb⟩
theorem wH.grow (hE:si E){w w':World}{a n:Nat}{t:TypeId}{v v':Value}{xs:List α}{vs:List Value}{x:α}{b:Bool}{B F:ze}{m d u f:Nat}(h:wH E w a t v xs vs)(hx:E w x b B m d F u f)
  (ho:w'.ownsRow a t 3 v' n (vs++[.bool b,.slice B m d,.slice F u f])) (hn:n=xs.length+1) (hg:w.grownBy w' v.ownBlock) (g:ve w' v'):wH E w' a t v' (xs++[x]) (vs++[.bool b,.slice B m d,.slice F u f]):=by
 have hl:=h.len;refine⟨by rw [QV,yM,<-hn];exact ho,g,λi y hi=>?_⟩;by_cases hlt:i<xs.length
 ·rw [QR hlt] at hi;obtain⟨b1,B1,m1,d1,F1,u1,f1,h1,h2,h3,h4⟩:=h.num i y hi;exact⟨b1,B1,m1,d1,F1,u1,f1,by rw [QR zb];exact h1,by rw [QR zb];exact h2,by rw [QR zb];exact h3,hE.grown h4 hg h.nou⟩
 ·rw [QK zb] at hi;have c:i=xs.length:=by
   have:=(List.getElem?_eq_some_iff.1 hi).1;simp at this;omega
  subst c;obtain rfl:x=y:=by
   rw [yJ] at hi;injection hi
  exact⟨b,B,m,d,F,u,f,by rw [QK zb,hl,yJ];rfl,by rw [QK zb,hl,yH];rfl,by rw [QK zb,hl,yH];rfl,hE.grown hx hg h.nou⟩
end
theorem TN {P:Program}(w:World){o:Oper}{a:Act}{K:Act->World->Prop}{Q:Exit->Act->World->Prop}(s x:Operand)(t:TypeId)
  (ho:o.op=.call {callee:=.builtin .append,args:=#[s,x],argTypes:=#[t,t]})
  (g:Nat) (e:TypeId) (i:TypeInfo) (z:Value) (size bytes:Nat) (ht:P.underlying t=some (.slice e)) (hi:P.info? e=some i) (hz:i.zero=some z)
  (B:i.size=size) (E:i.bytes=bytes) (H:z.cells.size=size) (hsz:0<size)
  (v:Value) (n:Nat) (xs:List Value) (hs:a.eval s=v) (C:w.ownsRow g e size v n xs)
  (ad:Addr) (m c:Nat) (d:List Value) (hx:a.eval x=.slice (some ad) m c) (hl:d.length=m*size) (A:∀j u,d[j]?=some u->w.cell? (ad.add j)=some u) (h1:∀u ∈ d,u.oneCell'=true)
  (D:n+m<=maxLen) (k:(n+m)*bytes<=140737488355328) (y:g<=w.heap.size)
  (hv:ve w v) (G:∀u ∈ z.cells.toList,tR u) (F:∀u ∈ d,tR u)
  (h:∀v' w',w'.ownsRow g e size v' (n+m) (xs++d)->w.grownBy w' v.ownBlock->(v'.ownBlock=v.ownBlock\/v'.ownBlock=some w.heap.size)->ve w' v'->K (a.put o.dst v') w'):Oper.wp P o a w K Q:=by
 obtain⟨v',w',hr,h2,h3,h4,h5⟩:=Ya (P:=P) w g t o.type e i z size bytes ht hi hz B E H hsz v n xs C ad m c d hl A h1 D k y hv G F;unfold Oper.wp execOp;simp only [ho,resolve,invoke,builtin,Sem.run_bind,Sem.run_pure,Result.andThen_ok,yI,yX,List.map_nil,hs,hx,hr];exact h v' w' h2 h3 h4 h5
theorem Xp {b:Bool}{B F:ze}{d u f:Nat}(h:zh w g t #[.bool b,.slice B m d,.slice F u f]):∀j v,[Value.bool b,.slice B m d,.slice F u f][j]?=some v->w.cell? ((⟨g,0,none⟩:Addr).add j)=some v:=λj v hv=>by
 rw [vz]
 match j,hv with
 |0,hv=>simp at hv;subst hv;exact h.cell 0
 |1,hv=>simp at hv;subst hv;exact h.cell 1
 |2,hv=>simp at hv;subst hv;exact h.cell 2
theorem Ue (b:Bool)(B F:ze)(m d u f:Nat):∀v ∈ [Value.bool b,.slice B m d,.slice F u f],v.oneCell'=true:=by intro v hv;simp at hv;rcases hv with rfl|rfl|rfl<;>rfl
theorem VF (b:Bool)(B F:ze)(m d u f:Nat):∀v ∈ [Value.bool b,.slice B m d,.slice F u f],tR v:=by intro v hv y z;simp at hv;rcases hv with rfl|rfl|rfl<;>(intro h9;cases h9)
theorem WW:∀u ∈(Value.agg #[.bool false,.slice none 0 0,.slice none 0 0]).cells.toList,tR u:=by intro u hu y z;simp [Value.cells] at hu;rcases hu with rfl|rfl<;>(intro h9;cases h9)
def Sp (n m:Nat)(M:Nat->Nat->Rat)(v:Nat->Rat):Prop:=∃y:Nat->Rat,∀j,j<m->v j=zC n λi=>y i*M i j
theorem Sp.zero:Sp n m M λ_=>0:=⟨λ_=>0,λj _=>(tj λi _=>yV _).symm⟩
theorem Sp.comb {v:Nat->Rat}(a b:Rat)(h:Sp n m M u)(k:Sp n m M v):Sp n m M λj=>a*u j+b*v j:=by
 obtain⟨y,hy⟩:=h;obtain⟨z,hz⟩:=k;refine⟨λi=>a*y i+b*z i,λj hj=>?_⟩;show a*u j+b*v j=_;rw [hy j hj,hz j hj,wU,wU,<-sc];exact yt λi _=>by grind
theorem Sp.scale {v:Nat->Rat}(a:Rat)(h:Sp n m M u)(e:∀j,j<m->v j=a*u j):Sp n m M v:=by
 obtain⟨y,hy⟩:=h;refine⟨λi=>a*y i,λj hj=>?_⟩;rw [e j hj,hy j hj,wU];exact yt λi _=>by grind
theorem Sp.congr {v:Nat->Rat}(h:Sp n m M u)(e:∀j,j<m->v j=u j):Sp n m M v:=by
 obtain⟨y,hy⟩:=h;exact⟨y,λj hj=>(e j hj).trans (hy j hj)⟩
theorem iK (hc:c<k)(f:Nat->Rat):zC k (λi=>(if i=c then 1 else 0)*f i)=f c:=by
 induction k with
 |zero=>cases hc
 |succ k ih=>
   rw [wj];by_cases h:c=k
   ·subst h;rw [if_pos rfl,XA,tj λi hi=>by rw [if_neg zb,yV],YM]
   ·rw [if_neg zb,yV,XJ,ih zb]
theorem Sp.row {m:Nat}{i:Nat}(hi:i<n):Sp n m M (M i):=⟨λq=>if q=i then 1 else 0,λj _=>(iK hi λq=>M q j).symm⟩
theorem Sp.sum {u:Nat->Nat->Rat}(f:Nat->Rat){q:Nat}(h:∀l,l<q->Sp n m M (u l)):Sp n m M λj=>zC q λl=>f l*u l j:=by
 induction q with
 |zero=>exact Sp.zero
 |succ q ih=>
   refine((ih λl hl=>h l zb).comb 1 (f q) (h q zb)).congr λj _=>?_;rw [wj,XA]
theorem Sp.trans {v:Nat->Rat}(h:Sp n' m M' v)(k:∀i,i<n'->Sp n m M (M' i)):Sp n m M v:=by
 obtain⟨y,hy⟩:=h;exact(Sp.sum y k).congr hy
structure RF (n m:Nat)(M:Nat->Nat->Rat)(ld:List Nat)(R:Nat->Nat->Rat):Prop where
 len:ld.length<=n
 up:∀l l',l<l'->l'<ld.length->ld.getD l 0<ld.getD l' 0
 lt:∀l,l<ld.length->ld.getD l 0<m
 piv:∀l,l<ld.length->∀i,i<n->R i (ld.getD l 0)=if i=l then 1 else 0
 zero:∀i,ld.length<=i->i<n->∀j,j<m->R i j=0
 fore:∀l,l<ld.length->∀j,j<ld.getD l 0->R l j=0
 sum:∀i,i<n->∀j,j<m->M i j=zC ld.length λl=>M i (ld.getD l 0)*R l j
 span:∀l,l<ld.length->Sp n m M (R l)
theorem RF.of_elim {a0:Nat->Nat->Rat}{e:wn}(h:wh n m m a0 e)(ht:∀i,i<n->∃t:Rat,t≠0/\∀j,j<m->a0 i j=t*M i j):RF n m M e.ld λi j=>e.p⁻¹*zv e.S i j:=by
 obtain⟨hd,a,hs,hi⟩:=h;have hp:=hi.ne
 -- rows of either are multiples of the other's
 have r1:∀i,i<n->∃i',i'<n/\∃t:Rat,∀j,j<m->a i j=t*M i' j:=λi c=>by
  obtain⟨i',k1,e,_,k3⟩:=hs.rows.1 i c;obtain⟨t,_,k4⟩:=ht i' k1;exact⟨i',k1,e*t,λj hj=>by rw [k3 j,k4 j hj];grind⟩
 have r2:∀i,i<n->∃i',i'<n/\∃t:Rat,∀j,j<m->M i j=t*a i' j:=λi c=>by
  obtain⟨i',k1,e,_,k3⟩:=hs.rows.2 i c;obtain⟨t,k2,k4⟩:=ht i c;exact⟨i',k1,t⁻¹*e,λj hj=>by have q1:=k3 j;have q2:=k4 j hj;grind⟩
 refine⟨hi.len,hi.up,hi.lt,λl hl i c=>?_,λi h1 h2 j hj=>by show e.p⁻¹*zv e.S i j=0;rw [hi.low i h1 h2 j hj,xI],λl hl j hj=>by show e.p⁻¹*zv e.S l j=0;rw [hi.fore l hl j hj,xI],λi c j hj=>?_,λl hl=>?_⟩
 ·show e.p⁻¹*zv e.S i (e.ld.getD l 0)=_;rw [hi.piv l hl i c]
  split<;>grind
 ·obtain⟨i',k1,t,k2⟩:=r2 i c;have e1:=hi.back i' k1 j hj;have e2:(if e.ld.length<=i' then zv e.S i' j else 0)=0:=by
   split
   ·next h=>exact hi.low i' h k1 j hj
   ·rfl
  rw [e2,XJ] at e1;have e3:zC e.ld.length (λl=>M i (e.ld.getD l 0)*(e.p⁻¹*zv e.S l j))=t*e.p⁻¹*zC e.ld.length (λl=>a i' (e.ld.getD l 0)*zv e.S l j):=by
   rw [wU];exact yt λl hl=>by rw [k2 _ (by have:=hi.lt l hl;omega)];grind
  show M i j=zC e.ld.length (λl=>M i (e.ld.getD l 0)*(e.p⁻¹*zv e.S l j));rw [e3,k2 j hj,<-e1]
  grind
 ·have hk:=hi.len;have e1:∀j,j<m->zv e.S l j=zC e.ld.length λq=>zI e.ld.length (zL (λi j=>a i (e.ld.getD j 0)) l λi=>if i=q then 1 else 0)*a q j:=λj hj=>by
   rw [hi.col hl hj];have:zI e.ld.length (zL (λi j=>a i (e.ld.getD j 0)) l λi=>a i j)=zI e.ld.length (zL (λi j=>a i (e.ld.getD j 0)) l λi=>zC e.ld.length λq=>a q j*if i=q then 1 else 0):=uq λi c j' _=>by
    by_cases e:j'=l
    ·rw [e,wV,wV,<-iK c (λq=>a q j)];exact yt λq _=>by
      rw [YN];congr 1;by_cases h:q=i
      ·rw [if_pos h,if_pos h.symm]
      ·rw [if_neg h,if_neg (Ne.symm h)]
    ·rw [va _ e,va _ e]
   rw [this,fw _ hl (λq=>a q j) (λq i=>if i=q then 1 else 0)];exact yt λq _=>YN _ _
  have e2:∀q,q<e.ld.length->Sp n m M (a q):=λq hq=>by
   obtain⟨i',k1,t,k2⟩:=r1 q zb;exact(Sp.row k1).scale t k2
  exact(Sp.sum _ e2).scale e.p⁻¹ λj hj=>by rw [<-e1 j hj]
theorem RF.of_span (h:RF n m M ld R){v:Nat->Rat}(hv:Sp n m M v):∀j,j<m->v j=zC ld.length λl=>v (ld.getD l 0)*R l j:=by
 obtain⟨y,hy⟩:=hv;intro j hj;rw [hy j hj];have e1:zC n (λi=>y i*M i j)=zC n (λi=>zC ld.length λl=>y i*M i (ld.getD l 0)*R l j):=yt λi hi=>by
  rw [h.sum i hi j hj,wU];exact yt λl _=>by grind
 rw [e1,aF];refine yt λl hl=>?_;rw [hy _ (h.lt l hl),YN,wU];exact yt λi _=>YN _ _
theorem RF.begins (h:RF n m M ld R){v:Nat->Rat}(hv:Sp n m M v){c:Nat}(hc:c<m)(h0:∀j,j<c->v j=0)(h1:v c≠0):∃l,l<ld.length/\ld.getD l 0=c:=by
 refine Classical.byContradiction λhn=>h1 ?_;rw [h.of_span hv c hc];refine tj λl hl=>?_;rcases XT (ld.getD l 0) c with a|a|a
 ·rw [h0 _ a,yV]
 ·exact absurd ⟨l,hl,a⟩ hn
 ·rw [h.fore l hl c a,xI]
theorem Wz:∀{xs ys:List Nat},xs.Pairwise (·<·)->ys.Pairwise (·<·)->(∀x,x ∈ xs↔x ∈ ys)->xs=ys
 |[],[],_,_,_=>rfl
 |[],y::ys,_,_,h=>by have:=(h y).2 xM;cases this
 |x::xs,[],_,_,h=>by have:=(h x).1 xM;cases this
 |x::xs,y::ys,h1,h2,h=>by
   rw [List.pairwise_cons] at h1 h2;have e:x=y:=by
    rcases List.mem_cons.1 ((h x).1 xM) with a|a
    ·exact a
    ·rcases List.mem_cons.1 ((h y).2 xM) with b|b
     ·exact b.symm
     ·have:=h1.1 y b;have:=h2.1 x a;omega
   subst e;congr 1;refine Wz h1.2 h2.2 λz=>⟨λhz=>?_,λhz=>?_⟩
   ·rcases List.mem_cons.1 ((h z).1 (XN _ hz)) with a|a
    ·have:=h1.1 z hz;omega
    ·exact a
   ·rcases List.mem_cons.1 ((h z).2 (XN _ hz)) with a|a
    ·have:=h2.1 z hz;omega
    ·exact a
theorem iG {l:Nat}(h:l<xs.length):xs.getD l 0 ∈ xs:=by
 rw [qQ,qX h];exact xS h
theorem aN {x:Nat}(h:x ∈ xs):∃l,l<xs.length/\xs.getD l 0=x:=by
 obtain⟨l,hl,e⟩:=List.mem_iff_getElem.1 h;exact⟨l,hl,by rw [qQ,qX hl];exact e⟩
theorem RF.rising (h:RF n m M ld R):ld.Pairwise (·<·):=by
 rw [List.pairwise_iff_getElem];intro i j hi hj a;have:=h.up i j a hj;rw [qQ,qQ,qX hi,qX hj] at this;exact this
theorem RF.one {R':Nat->Nat->Rat}{a:List Nat}(h:RF n m M ld R)(k:RF n' m M' a R')(h1:∀i,i<n'->Sp n m M (M' i))(h2:∀i,i<n->Sp n' m M' (M i)):ld=a/\∀l,l<ld.length->∀j,j<m->R l j=R' l j:=by
 have s1:∀l,l<a.length->Sp n m M (R' l):=λl hl=>(k.span l hl).trans h1;have s2:∀l,l<ld.length->Sp n' m M' (R l):=λl hl=>(h.span l hl).trans h2;have e:ld=a:=by
  refine Wz h.rising k.rising λx=>⟨λhx=>?_,λhx=>?_⟩
  ·obtain⟨l,hl,rfl⟩:=aN hx;obtain⟨q,hq,e⟩:=k.begins (s2 l hl) (h.lt l hl) (h.fore l hl) (by rw [h.piv l hl l (by have:=h.len;omega),if_pos rfl];decide+kernel);rw [<-e];exact iG hq
  ·obtain⟨l,hl,rfl⟩:=aN hx;obtain⟨q,hq,e⟩:=h.begins (s1 l hl) (k.lt l hl) (k.fore l hl) (by rw [k.piv l hl l (by have:=k.len;omega),if_pos rfl];decide+kernel);rw [<-e];exact iG hq
 subst e;refine⟨rfl,λl hl j hj=>?_⟩;have hk:=h.len;rw [k.of_span (s2 l hl) j hj];have:zC ld.length (λq=>R l (ld.getD q 0)*R' q j)=zC ld.length (λq=>(if q=l then 1 else 0)*R' q j):=yt λq hq=>by
  rw [h.piv q hq l zb];by_cases e:q=l
  ·rw [if_pos e,if_pos e.symm]
  ·rw [if_neg e,if_neg (Ne.symm e)]
 rw [this,iK hl]
def uK (ld:List Nat)(R:Nat->Nat->Rat)(c:Nat):Nat->Rat:=λj=>(if j=c then 1 else 0) - zC ld.length λq=>(if j=ld.getD q 0 then 1 else 0)*R q c
theorem Vh (h:j ∉ ld):uK ld R c j=if j=c then 1 else 0:=by
 unfold uK;rw [tj λq hq=>by rw [if_neg (λe:j=ld.getD q 0=>h (by rw [e];exact iG hq)),yV]]
 grind
theorem pD (k:Nat)(f g:Nat->Rat):zC k (λi=>f i - g i)=zC k f - zC k g:=by
 have:=sc k f (λi=> -g i);rw [Zj] at this;rw [Rat.sub_eq_add_neg,<-this];exact yt λi _=>Rat.sub_eq_add_neg _ _
theorem RF.ker (h:RF n m M ld R){c:Nat}(a:c<m){i:Nat}(hi:i<n):zC m (λj=>M i j*uK ld R c j)=0:=by
 have hk:=h.len;have e1:zC m (λj=>M i j*uK ld R c j)=zC m (λj=>(if j=c then 1 else 0)*M i j) - zC m (λj=>zC ld.length λq=>(if j=ld.getD q 0 then 1 else 0)*(M i j*R q c)):=by
  rw [<-pD];refine yt λj _=>?_;unfold uK;have:zC ld.length (λq=>(if j=ld.getD q 0 then 1 else 0)*(M i j*R q c))=M i j*zC ld.length (λq=>(if j=ld.getD q 0 then 1 else 0)*R q c):=by
   rw [wU];exact yt λq _=>by grind
  rw [this];grind
 rw [e1,iK a,aF];have e2:zC ld.length (λq=>zC m λj=>(if j=ld.getD q 0 then 1 else 0)*(M i j*R q c))=zC ld.length (λq=>M i (ld.getD q 0)*R q c):=yt λq hq=>iK (h.lt q hq) λj=>M i j*R q c;rw [e2,<-h.sum i hi c a]
 grind
theorem sS:∀{m:Nat} {ld:List Nat},(∀c,c<m->c ∈ ld)->m<=ld.length
 |0,_,_=>qN _
 |m+1,ld,h=>by
   have h1:=h m zb;have h2:=sS (m:=m) (ld:=ld.erase m) λc hc=>(List.mem_erase_of_ne zb).2 (h c zb);rw [List.length_erase_of_mem h1] at h2;have:=List.length_pos_of_mem h1;omega
theorem Y2 (h:ld.length<m):∃c,c<m/\c ∉ ld:=by
 refine Classical.byContradiction λhn=>?_;have:=sS (m:=m) (ld:=ld) λc hc=>Classical.byContradiction λh=>hn ⟨c,hc,h⟩;omega
