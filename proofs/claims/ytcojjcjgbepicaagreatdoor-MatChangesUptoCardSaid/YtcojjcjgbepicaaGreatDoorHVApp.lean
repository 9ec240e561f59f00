/- What this claim leans on. -/
import Derived.Test.YtcojjcjgbepicaaGreatDoorHBunZ
namespace Go.Proofs.YtcojjcjgbepicaaGreatDoor
open Go Go.RowKit Go.Proofs.Tryz
set_option maxHeartbeats 16000000
set_option linter.unusedVariables false
set_option linter.unusedSimpArgs false
def zgi (u:Value):Prop:=∀k z,u≠.int k z
def zbE (w:World)(v:Value):Prop:=∀g,v.ownBlock=some g->∃(cur:Array Value) (e:TypeId),w.heap[g]?=some (.cells cur e (0,0))/\∀u ∈ cur.toList,zgi u
theorem zbE.nil (w:World)(c:Nat):zbE w (.slice none 0 c):=λg h=>by simp [Value.ownBlock] at h
theorem zbE.block {w w':World}{v:Value}(h:zbE w v)(hg:∀g,v.ownBlock=some g->w'.heap[g]?=w.heap[g]?):zbE w' v:=λg e=>by
 obtain⟨a,t,h1,h2⟩:=h g e;exact⟨a,t,(hg g e).trans h1,h2⟩
theorem zbE.below {w w':World}{v:Value}(h:zbE w v)(hb:Below w.heap.size w w'):zbE w' v:=λg e=>by
 obtain⟨a,t,h1,h2⟩:=h g e;exact⟨a,t,(hb.block g (Array.getElem?_eq_some_iff.1 h1).1).trans h1,h2⟩
theorem zjJ {z:Array Value}{k:Nat}{u:Value}(hz:0<z.size)(hu:u ∈(Builtin.zeroCells z k).toList):u ∈ z.toList:=by
 unfold Builtin.zeroCells at hu;rw [Array.mem_toList_iff,Array.mem_map] at hu;obtain⟨i,_,rfl⟩:=hu;have a:i%z.size<z.size:=Nat.mod_lt _ hz;rw [getElem!_pos z (i%z.size) a,Array.mem_toList_iff];exact Array.getElem_mem a
section
variable {P:Program}(w:World)
theorem zfP (base:Nat)(t ty e:TypeId)(i:TypeInfo)(z:Value)(size bytes:Nat)(ht:P.underlying t=some (.slice e))(hi:P.info? e=some i)(hz:i.zero=some z)
  (B:i.size=size) (I:i.bytes=bytes) (L:z.cells.size=size) (hsz:0<size)
  (v:Value) (n:Nat) (xs:List Value) (d:w.ownsRow base e size v n xs)
  (a:Addr) (m c:Nat) (b:List Value) (hl:b.length=m*size) (l:∀j u,b[j]?=some u->w.cell? (a.add j)=some u) (h1:∀u ∈ b,u.oneCell'=true)
  (D:n+m<=maxLen) (o:(n+m)*bytes<=140737488355328) (s:base<=w.heap.size)
  (hv:zbE w v) (K:∀u ∈ z.cells.toList,zgi u) (H:∀u ∈ b,zgi u):
  ∃ v' w',(Builtin.append_ #[t,t] ty #[v,.slice (some a) m c]).run P w = .ok v' w' ∧ w'.ownsRow base e size v' (n + m) (xs ++ b) ∧ w.grownBy w' v.ownBlock ∧
   (v'.ownBlock=v.ownBlock\/v'.ownBlock=some w.heap.size)/\zbE w' v':=by
 subst B;subst I;have hsmall:n+m<=9223372036854775807:=by simp only [maxLen] at D;omega
 have p:(xs++b).length=(n+m)*i.size:=by rw [List.length_append,d.1,hl,Nat.add_mul]
 have grown : ∀ (old : Nat),old < n + m → (∀ u ∈ xs,zgi u) → ∀ (row : Option Nat),
   (w.drew.alloc (.cells (xs.toArray ++ b.toArray ++ Builtin.zeroCells z.cells (grownCap w (n + m) old e - (n + m))) e)).ownsRow base e i.size
     (.slice (some ⟨w.heap.size,0,none⟩) (n+m) (grownCap w (n+m) old e)) (n+m) (xs++b)/\
   w.grownBy (w.drew.alloc (.cells (xs.toArray++b.toArray++Builtin.zeroCells z.cells (grownCap w (n+m) old e - (n+m))) e)) row/\
   zbE (w.drew.alloc (.cells (xs.toArray++b.toArray++Builtin.zeroCells z.cells (grownCap w (n+m) old e - (n+m))) e)) (.slice (some ⟨w.heap.size,0,none⟩) (n+m) (grownCap w (n+m) old e)):=by
  intro old ho C row;have J:=grownCap_ge w (n+m) old e;have x:grownCap w (n+m) old e<=maxLen:=grownCap_le_maxLen w (n+m) old e D;refine⟨⟨p,.inr ⟨w.heap.size,_,_,rfl,s,heap_alloc_new w.drew _,J,x,?_,?_⟩⟩,⟨rfl,rfl,rfl,si9,λk hk _=>heap_alloc_old w.drew _ hk⟩,?_⟩
  ·simp only [Array.size_append,List.size_toArray,size_zeroCells,L,d.1,hl,<-Nat.add_mul];congr 1;omega
  ·simp only [Array.toList_append,List.append_assoc];rw [<-List.append_assoc,<-p];exact List.take_left
  ·intro g hg;simp [Value.ownBlock] at hg;subst hg;refine⟨_,_,heap_alloc_new w.drew _,λu hu=>?_⟩;simp only [Array.toList_append,List.mem_append] at hu;rcases hu with(hu|hu)|hu
   ·exact C u hu
   ·exact H u hu
   ·exact K u (zjJ om9 hu)
 rcases d.2 with⟨rfl,rfl⟩|⟨g,cap,cur,rfl,hbg,hg,hnc,x,hcs,htake⟩
 ·have hx:xs=[]:=List.eq_nil_of_length_eq_zero (by simpa using d.1);subst hx;by_cases hm:m=0
  ·subst hm;have hn:b=[]:=List.eq_nil_of_length_eq_zero (by simpa using hl);subst hn;refine⟨.slice none 0 0,w,?_,World.ownsRow_nil w base e i.size,⟨rfl,rfl,rfl,Nat.le_refl _,λ_ _ _=>rfl⟩,Or.inl rfl,zbE.nil _ _⟩;simp [Builtin.append_,run_underlying ht,sizeOf,typeInfo,hi,Builtin.lenOf,Builtin.firstCells,loadCells,loadCellsFrom]
  ·have hr:=run_append_nil (P:=P) w t ty e i z ht hi hz a m c b hl l om9 om9 (by have hb:=o;simp only [Nat.zero_add] at hb;omega);have h:=grown 0 om9 (λu hu=>by cases hu) (Value.ownBlock (.slice none 0 0));simp only [Nat.zero_add,List.nil_append,Array.empty_append] at h⊢;exact⟨_,_,hr,h.1,h.2.1,Or.inr rfl,h.2.2⟩
 ·obtain⟨f,e2,r,y⟩:=hv g rfl;have E:f=cur:=by
   rw [hg] at r;injection r with r;injection r with r;exact r.symm
  subst E;by_cases hroom:n+m<=cap
  ·have F:n*i.size+b.length<=f.size:=by rw [hl,hcs,<-Nat.add_mul];exact Nat.mul_le_mul_right _ hroom
   have hr:=run_append_room (P:=P) w t ty e i ht hi g n cap f hg a m c b hl l h1 hroom F;refine⟨_,_,hr,⟨p,.inr ⟨g,cap,_,rfl,hbg,setRow_heap w g f _ e _ hg,hroom,x,?_,?_⟩⟩,⟨rfl,rfl,rfl,si9,λk _ hk=>setRow_other w g k _ (λe=>hk (by simp [Value.ownBlock,e]))⟩,Or.inl rfl,?_⟩
   ·simp only [List.size_toArray,List.length_append,List.length_take,List.length_drop,Array.length_toList];omega
   ·rw [htake,<-p];exact List.take_left
   ·intro g' G;simp [Value.ownBlock] at G;subst G;refine⟨_,_,setRow_heap w g f _ e _ hg,λu hu=>?_⟩;rw [List.mem_append,List.mem_append] at hu;rcases hu with(hu|hu)|hu
    ·exact y u (List.mem_of_mem_take hu)
    ·exact H u hu
    ·exact y u (List.mem_of_mem_drop hu)
  ·have A:∀j u,xs[j]?=some u->w.cell? ((⟨g,0,none⟩:Addr).add j)=some u:=d.cells (g:=g) rfl;have hr:=run_append_grow (P:=P) w t ty e i z ht hi hz ⟨g,0,none⟩ n cap xs d.1 A a m c b hl l om9 om9 (growslice_fits om9 o);have C:∀u ∈ xs,zgi u:=λu hu=>y u (List.mem_of_mem_take (by rw [htake];exact hu));have h:=grown cap om9 C (Value.ownBlock (.slice (some ⟨g,0,none⟩) n cap));exact⟨_,_,hr,h.1,h.2.1,Or.inr rfl,h.2.2⟩
theorem zdp {p:Array Oper}{rest:List Oper}{o:Oper}{a:Act}{Q:Exit->Act->World->Prop}(A:o.guard=none)(s x:Operand)(t:TypeId)
  (ho:o.op=.call {callee:=.builtin .append,args:=#[s,x],argTypes:=#[t,t]})
  (base:Nat) (e:TypeId) (i:TypeInfo) (z:Value) (size bytes:Nat) (ht:P.underlying t=some (.slice e)) (hi:P.info? e=some i) (hz:i.zero=some z)
  (k:i.size=size) (y:i.bytes=bytes) (D:z.cells.size=size) (hsz:0<size)
  (v:Value) (n:Nat) (xs:List Value) (hs:a.eval s=v) (l:w.ownsRow base e size v n xs)
  (ad:Addr) (m c:Nat) (b:List Value) (hx:a.eval x=.slice (some ad) m c) (hl:b.length=m*size) (g:∀j u,b[j]?=some u->w.cell? (ad.add j)=some u) (h1:∀u ∈ b,u.oneCell'=true)
  (r:n+m<=maxLen) (d:(n+m)*bytes<=140737488355328) (f:base<=w.heap.size)
  (hv:zbE w v) (C:∀u ∈ z.cells.toList,zgi u) (B:∀u ∈ b,zgi u)
  (h:∀v' w',w'.ownsRow base e size v' (n+m) (xs++b)->w.grownBy w' v.ownBlock->(v'.ownBlock=v.ownBlock\/v'.ownBlock=some w.heap.size)->zbE w' v'->wpList P p Q rest (a.put o.dst v') w'):
  wpList P p Q (o::rest) a w:=by
 refine wpList_plain A λK hK=>?_;obtain⟨v',w',hr,h2,h3,h4,h5⟩:=zfP (P:=P) w base t o.type e i z size bytes ht hi hz k y D hsz v n xs l ad m c b hl g h1 r d f hv C B;unfold Oper.wp execOp;simp only [ho,resolve,invoke,builtin,Sem.run_bind,Sem.run_pure,Result.andThen_ok,List.map_toArray,List.map_cons,List.map_nil,hs,hx,hr];exact hK _ _ (h v' w' h2 h3 h4 h5)
end
theorem zbE.blk {w:World}{v:Value}{g:Nat}(h:zbE w v)(hg:v.ownBlock=some g):∃(t:TypeId) (cs:Array Value),Blk w g t cs/\NoU cs:=by
 obtain⟨a,e,h1,h2⟩:=h g hg;exact⟨e,a,h1,λu hu k z=>h2 u hu k z⟩
theorem zbp.grown {α:Type}{E:El α}(hE:zbp E){w w':World}{v:Value}{x:α}{b:Bool}{A:oA9}{n c:Nat}{F:oA9}{k f:Nat}(h:E w x b A n c F k f)(hg:w.grownBy w' v.ownBlock)(hn:zbE w v):E w' x b A n c F k f:=by
 cases hv:v.ownBlock with
 |none=>rw [hv] at hg;exact hE.below h (zbx hg)
 |some g=>
   rw [hv] at hg;obtain⟨t,cs,hk,hc⟩:=hn.blk hv;exact hE.offg h hk hc (zbn.of_grown hg)
theorem zaC {w w':World}{g:Nat}{t:TypeId}{cs:Array Value}{row:Option Nat}(h:Blk w g t cs)(hg:w.grownBy w' row)(a:row≠some g):Blk w' g t cs:=(hg.block g (Blk.lt h) (λe=>a e.symm)).trans h
structure zbD {α:Type}(E:El α)(w:World)(base:Nat)(t:TypeId)(v:Value)(xs:List α)(vs:List Value):Prop where
 own:w.ownsRow base t 3 v xs.length vs
 nou:zbE w v
 num:∀i x,xs[i]?=some x->∃(b:Bool) (B:oA9) (m d:Nat) (F:oA9) (u f:Nat),vs[i*3]?=some (.bool b)/\vs[i*3+1]?=some (.slice B m d)/\vs[i*3+2]?=some (.slice F u f)/\E w x b B m d F u f
section
variable {α:Type}{E:El α}
theorem zbD.nil (w:World)(base:Nat)(t:TypeId):zbD E w base t (.slice none 0 0) [] []:=⟨World.ownsRow_nil _ _ _ _,zbE.nil _ _,λi x hi=>by simp at hi⟩
theorem zbD.len {w:World}{base:Nat}{t:TypeId}{v:Value}{xs:List α}{vs:List Value}(h:zbD E w base t v xs vs):vs.length=xs.length*3:=h.own.1
theorem zbD.shape {w:World}{base:Nat}{t:TypeId}{v:Value}{xs:List α}{vs:List Value}(h:zbD E w base t v xs vs):∃A c,v=.slice A xs.length c/\zaE E w A xs.length c xs/\∀ad,A=some ad->base<=ad.block:=by
 rcases h.own.2 with⟨rfl,h0⟩|⟨g,cap,cur,rfl,hbg,hg,hnc,hcm,hcs,htake⟩
 ·have hx:xs=[]:=List.eq_nil_of_length_eq_zero h0;subst hx;exact⟨none,0,rfl,zaE.nil w,λad e=>by cases e⟩
 ·have a:=h.own.cells (g:=g) rfl;refine⟨some ⟨g,0,none⟩,cap,rfl,⟨rfl,hnc,by unfold maxLen at hcm;omega,λi x hi=>?_⟩,λad e=>by injection e with e;subst e;exact hbg⟩;obtain⟨b,B,m,d,F,u,f,h1,h2,h3,h4⟩:=h.num i x hi;exact⟨_,b,B,m,d,F,u,f,rfl,(Array.getElem?_eq_some_iff.1 hg).1,a _ _ h1,a _ _ h2,a _ _ h3,h4⟩
theorem zbD.below (hE:zbp E){w w':World}{base:Nat}{t:TypeId}{v:Value}{xs:List α}{vs:List Value}(h:zbD E w base t v xs vs)(hb:Below w.heap.size w w'):zbD E w' base t v xs vs:=by
 refine⟨⟨h.own.1,?_⟩,h.nou.below hb,λi x hi=>?_⟩
 ·rcases h.own.2 with h1|⟨g,cap,cur,e1,e2,e3,e4⟩
  ·exact .inl h1
  ·exact .inr ⟨g,cap,cur,e1,e2,(hb.block g (Blk.lt (t:=t) (cs:=cur) e3)).trans e3,e4⟩
 ·obtain⟨b,B,m,d,F,u,f,h1,h2,h3,h4⟩:=h.num i x hi;exact⟨b,B,m,d,F,u,f,h1,h2,h3,hE.below h4 hb⟩
theorem zbD.grow (hE:zbp E){w w':World}{base n:Nat}{t:TypeId}{v v':Value}{xs:List α}{vs:List Value}{x:α}{b:Bool}{B F:oA9}{m d u f:Nat}(h:zbD E w base t v xs vs)(hx:E w x b B m d F u f)
  (ho:w'.ownsRow base t 3 v' n (vs++[.bool b,.slice B m d,.slice F u f])) (hn:n=xs.length+1) (hg:w.grownBy w' v.ownBlock) (c:zbE w' v'):zbD E w' base t v' (xs++[x]) (vs++[.bool b,.slice B m d,.slice F u f]):=by
 have hl:=h.len;refine⟨by rw [List.length_append,List.length_singleton,<-hn];exact ho,c,λi y hi=>?_⟩;by_cases hlt:i<xs.length
 ·rw [List.getElem?_append_left hlt] at hi;obtain⟨b1,B1,m1,d1,F1,u1,f1,h1,h2,h3,h4⟩:=h.num i y hi;exact⟨b1,B1,m1,d1,F1,u1,f1,by rw [List.getElem?_append_left om9];exact h1,by rw [List.getElem?_append_left om9];exact h2,by rw [List.getElem?_append_left om9];exact h3,hE.grown h4 hg h.nou⟩
 ·rw [List.getElem?_append_right om9] at hi;have a:i=xs.length:=by
   have:=(List.getElem?_eq_some_iff.1 hi).1;simp at this;omega
  subst a;obtain rfl:x=y:=by
   rw [Nat.sub_self] at hi;injection hi
  exact⟨b,B,m,d,F,u,f,by rw [List.getElem?_append_right om9,hl,Nat.sub_self];rfl,by rw [List.getElem?_append_right om9,hl,Nat.add_sub_cancel_left];rfl,by rw [List.getElem?_append_right om9,hl,Nat.add_sub_cancel_left];rfl,hE.grown hx hg h.nou⟩
end
theorem zeA {P:Program}(w:World){o:Oper}{a:Act}{K:Act->World->Prop}{Q:Exit->Act->World->Prop}(s x:Operand)(t:TypeId)
  (ho:o.op=.call {callee:=.builtin .append,args:=#[s,x],argTypes:=#[t,t]})
  (base:Nat) (e:TypeId) (i:TypeInfo) (z:Value) (size bytes:Nat) (ht:P.underlying t=some (.slice e)) (hi:P.info? e=some i) (hz:i.zero=some z)
  (k:i.size=size) (r:i.bytes=bytes) (B:z.cells.size=size) (hsz:0<size)
  (v:Value) (n:Nat) (xs:List Value) (hs:a.eval s=v) (l:w.ownsRow base e size v n xs)
  (ad:Addr) (m c:Nat) (b:List Value) (hx:a.eval x=.slice (some ad) m c) (hl:b.length=m*size) (g:∀j u,b[j]?=some u->w.cell? (ad.add j)=some u) (h1:∀u ∈ b,u.oneCell'=true)
  (p:n+m<=maxLen) (d:(n+m)*bytes<=140737488355328) (f:base<=w.heap.size)
  (hv:zbE w v) (A:∀u ∈ z.cells.toList,zgi u) (y:∀u ∈ b,zgi u)
  (h:∀v' w',w'.ownsRow base e size v' (n+m) (xs++b)->w.grownBy w' v.ownBlock->(v'.ownBlock=v.ownBlock\/v'.ownBlock=some w.heap.size)->zbE w' v'->K (a.put o.dst v') w'):Oper.wp P o a w K Q:=by
 obtain⟨v',w',hr,h2,h3,h4,h5⟩:=zfP (P:=P) w base t o.type e i z size bytes ht hi hz k r B hsz v n xs l ad m c b hl g h1 p d f hv A y;unfold Oper.wp execOp;simp only [ho,resolve,invoke,builtin,Sem.run_bind,Sem.run_pure,Result.andThen_ok,List.map_toArray,List.map_cons,List.map_nil,hs,hx,hr];exact h v' w' h2 h3 h4 h5
theorem zfe {w:World}{g:Nat}{t:TypeId}{b:Bool}{B F:oA9}{m d u f:Nat}(h:Blk w g t #[.bool b,.slice B m d,.slice F u f]):∀j v,[Value.bool b,.slice B m d,.slice F u f][j]?=some v->w.cell? ((⟨g,0,none⟩:Addr).add j)=some v:=λj v hv=>by
 rw [zaF]
 match j,hv with
 |0,hv=>simp at hv;subst hv;exact h.cell 0
 |1,hv=>simp at hv;subst hv;exact h.cell 1
 |2,hv=>simp at hv;subst hv;exact h.cell 2
theorem zhe (b:Bool)(B F:oA9)(m d u f:Nat):∀v ∈ [Value.bool b,.slice B m d,.slice F u f],v.oneCell'=true:=by intro v hv;simp at hv;rcases hv with rfl|rfl|rfl<;>rfl
theorem zhd (b:Bool)(B F:oA9)(m d u f:Nat):∀v ∈ [Value.bool b,.slice B m d,.slice F u f],zgi v:=by intro v hv y z;simp at hv;rcases hv with rfl|rfl|rfl<;>(intro h9;cases h9)
theorem zeT:∀u ∈(Value.agg #[.bool false,.slice none 0 0,.slice none 0 0]).cells.toList,zgi u:=by intro u hu y z;simp [Value.cells] at hu;rcases hu with rfl|rfl<;>(intro h9;cases h9)
set_option maxRecDepth 100000
theorem szh {K B x n c:Nat}{A:oA9}{w:World}(h:Hid (Sz K x))(k:zal w x A n c)(e:4*K<=B:=by omega):n<=B:=Nat.le_trans (h.out.holds' k) e
theorem zkl {w w':World}{x:Nat}{A:oA9}{n c g:Nat}{t:TypeId}{cs:Array Value}(h:zal w x A n c)(hk:Blk w g t cs)(a:NoU cs)(ho:zbS g w w'):zal w' x A n c:=⟨zkE h.1 hk a ho,h.2⟩
theorem ref_off {w w':World}{z:Int}{b:Bool}{A:oA9}{n c g:Nat}{t:TypeId}{cs:Array Value}(h:zcs w z b A n c)(hk:Blk w g t cs)(a:NoU cs)(ho:zbS g w w'):zcs w' z b A n c:=⟨h.1,zkl h.2 hk a ho⟩
theorem zlr {T:World->Prop}(o:∀w w',T w->Below w.heap.size w w'->T w')(IC:IntC T)(z:Int)(bp:Bool)(Bp:oA9)(mp dp:Nat)(bq:Bool)(Bq:oA9)(mq dq:Nat)(K:Nat)(hKK:K<=16777216)(w:World)(sz:Sz K z.natAbs)(hp:zaK w z bp Bp mp dp)(hq:zcs w z bq Bq mq dq)(hT:T w)(h:z<0):
  Calls prog 86 #[.agg #[.bool bp,.slice Bp mp dp],.agg #[.bool bq,.slice Bq mq dq]] w λe w'=>e=.returned (.bool true)/\Below w.heap.size w w':=by
 have j:=lh9 IC;have HT:=up9 w (λw' hb=>o w w' hT hb);have c:=lh9 hp;have f:=lh9 hq;have g:=lh9 sz;have n:=lh9 sz;have Hh:=lh9 h;clear IC hT hp hq sz h;go_enter func86,ntmps86;have hB:=Below.refl w.heap.size w;obtain rfl:bq=true:=(f.out).1.trans (decide_eq_true (by have:=Hh.out;omega));obtain⟨i,k,l,bz⟩:=zbg w 51 58 #[.bool bp,.slice Bp mp dp] #[.bool true,.slice Bq mq dq];have hB:=zac hB i;have c:=lh9 (c.out.below i);have f:=lh9 (f.out.below i);obtain⟨g1,e1⟩:=k.c2;obtain⟨g2,e2⟩:=l.c2;clear i k l bz;go_wp2_with fail;generalize (w.alloc (.cells #[.bool bp,.slice Bp mp dp] 51)).alloc (.cells #[.bool true,.slice Bq mq dq] 58)=W1 at*;have C0:=up9 W1 (λw' h=>zhD (b:=true) (decide_eq_true (by have:=Hh.out;omega)) (j.out.belowI (z) bp Bp mp dp w' (HT.out _ (zac hB h)) (c.out.below h) (by have:=Sz.words g.out c.out.words;omega)));have C1:=up9 W1 (λw' h=>zlm (v:=-1) ((sgn_neg Hh.out)) (j.out.sign (z) bp Bp mp dp w' (HT.out _ (zac hB h)) (c.out.below h) (by have:=Sz.words g.out c.out.words;omega)));have m:Hid (Sz (K) (z.natAbs)):=g.out;have C2:=up9 W1 (λw' h=>j.out.abs (z) bp Bp mp dp w' (HT.out _ (zac hB h)) (c.out.below h) (by have:=Sz.words g.out c.out.words;omega));have C3:=up9 W1 (λw' h B3 m3 d3 (d:zaf w' (z.natAbs) B3 m3 d3)=>zea (z.natAbs) B3 Bq m3 d3 mq dq w' d (f.out.below h).2 (by have:=Sz.words m.out d;omega) (by have:=Sz.holds' n.out f.out.2;omega));have a:=(Below.refl W1.heap.size W1).drew;refine rg (csc g1 (csc e1 (csc g2 (csc e2 csn)))) (λhHeld=>?_);refine tk 0 ?_;refine tk 2 ?_;refine tk 3 ?_;refine rc 1 (λK hK=>?_);go_simp;go_at_call 108;(with_reducible refine(C0.out _ a).mono ?_);rintro e wa2 ⟨rfl,hb⟩;have a:=zac a hb;refine hK.out _ _ (Cs.below hHeld hb) (λhHeld=>?_);clear hK K hb
 try simp only [sb9]
 refine tk 4 ?_;refine tk 5 ?_;refine tk 6 ?_;refine tk 8 ?_;refine rc 7 (λK hK=>?_);go_simp;go_at_call 139;(with_reducible refine(C1.out _ a).mono ?_);rintro e wa3 ⟨rfl,hb⟩;have a:=zac a hb;refine hK.out _ _ (Cs.below hHeld hb) (λhHeld=>?_);clear hK K hb
 try simp only [sb9]
 refine tk 9 ?_;refine tk 10 ?_;refine tk 11 ?_;refine tk 12 ?_;refine tk 14 ?_;refine tk 15 ?_;refine rc 13 (λK hK=>?_);go_simp;go_at_call 109;(with_reducible refine(C2.out _ a).mono ?_);rintro e wa4 ⟨B3,m3,d3,rfl,d,hb⟩;have a:=zac a hb;refine hK.out _ _ (Cs.below hHeld hb) (λhHeld=>?_);clear hK K hb
 try simp only [sb9]
 refine rc 16 (λK hK=>?_);go_simp;go_at_call 88;(with_reducible refine(C3.out _ a _ _ _ d).mono ?_);rintro e wa5 ⟨rfl,hb⟩;have a:=zac a hb;have d:=d.below hb;refine hK.out _ _ (Cs.below hHeld hb) (λhHeld=>?_);clear hK K hb
 try simp only [sb9]
 refine tk 17 ?_;refine tk 18 ?_;refine rdn ?_;have hB:=zac hB a;obtain⟨g1,e1,g2,e2⟩:=zae4 a g1 e1 g2 e2;clear a hHeld d C0 C1 C2 C3;go_wp2;go_ret;exact⟨by first|rfl|simp,hB⟩
theorem zlp {T:World->Prop}(o:∀w w',T w->Below w.heap.size w w'->T w')(IC:IntC T)(z:Int)(bp:Bool)(Bp:oA9)(mp dp:Nat)(bq:Bool)(Bq:oA9)(mq dq:Nat)(K:Nat)(hKK:K<=16777216)(w:World)(sz:Sz K z.natAbs)(hp:zaK w z bp Bp mp dp)(hq:zcs w z bq Bq mq dq)(hT:T w)(h:z=0):
  Calls prog 86 #[.agg #[.bool bp,.slice Bp mp dp],.agg #[.bool bq,.slice Bq mq dq]] w λe w'=>e=.returned (.bool true)/\Below w.heap.size w w':=by
 have j:=lh9 IC;have HT:=up9 w (λw' hb=>o w w' hT hb);have c:=lh9 hp;have f:=lh9 hq;have g:=lh9 sz;have n:=lh9 sz;have Hh:=lh9 h;clear IC hT hp hq sz h;go_enter func86,ntmps86;have hB:=Below.refl w.heap.size w;obtain rfl:bq=false:=(f.out).1.trans (decide_eq_false (by have:=Hh.out;omega));have p:=ziS (f.out).2 (by have:=Hh.out;omega);have hrq:((mq:Int)==0)=true:=by rw [beq_iff_eq];omega
 clear p;obtain⟨i,k,l,bz⟩:=zbg w 51 58 #[.bool bp,.slice Bp mp dp] #[.bool false,.slice Bq mq dq];have hB:=zac hB i;have c:=lh9 (c.out.below i);have f:=lh9 (f.out.below i);obtain⟨g1,e1⟩:=k.c2;obtain⟨g2,e2⟩:=l.c2;clear i k l bz;go_wp2_with fail;generalize (w.alloc (.cells #[.bool bp,.slice Bp mp dp] 51)).alloc (.cells #[.bool false,.slice Bq mq dq] 58)=W1 at*;have C0:=up9 W1 (λw' h=>zhD (b:=false) (decide_eq_false (by have:=Hh.out;omega)) (j.out.belowI (z) bp Bp mp dp w' (HT.out _ (zac hB h)) (c.out.below h) (by have:=Sz.words g.out c.out.words;omega)));have C1:=up9 W1 (λw' h=>zlm (v:=0) (((sgnZ_eq _).2 Hh.out)) (j.out.sign (z) bp Bp mp dp w' (HT.out _ (zac hB h)) (c.out.below h) (by have:=Sz.words g.out c.out.words;omega)));have m:Hid (Sz (K) (z.natAbs)):=g.out;have C2:=up9 W1 (λw' h=>j.out.abs (z) bp Bp mp dp w' (HT.out _ (zac hB h)) (c.out.below h) (by have:=Sz.words g.out c.out.words;omega));have C3:=up9 W1 (λw' h B3 m3 d3 (d:zaf w' (z.natAbs) B3 m3 d3)=>zea (z.natAbs) B3 Bq m3 d3 mq dq w' d (f.out.below h).2 (by have:=Sz.words m.out d;omega) (by have:=Sz.holds' n.out f.out.2;omega));have a:=(Below.refl W1.heap.size W1).drew;refine rg (csc g1 (csc e1 (csc g2 (csc e2 csn)))) (λhHeld=>?_);refine tk 0 ?_;refine tk 2 ?_;refine tk 3 ?_;refine rc 1 (λK hK=>?_);go_simp;go_at_call 108;(with_reducible refine(C0.out _ a).mono ?_);rintro e wa2 ⟨rfl,hb⟩;have a:=zac a hb;refine hK.out _ _ (Cs.below hHeld hb) (λhHeld=>?_);clear hK K hb
 try simp only [sb9]
 refine tk 4 ?_;refine tk 5 ?_;refine tk 6 ?_;refine tk 8 ?_;refine rc 7 (λK hK=>?_);go_simp;go_at_call 139;(with_reducible refine(C1.out _ a).mono ?_);rintro e wa3 ⟨rfl,hb⟩;have a:=zac a hb;refine hK.out _ _ (Cs.below hHeld hb) (λhHeld=>?_);clear hK K hb
 try simp only [sb9]
 refine tk 9 ?_;refine tk 10 ?_;refine tk 11 ?_;refine tk 12 ?_;refine tk 14 ?_;refine tk 15 ?_;refine rc 13 (λK hK=>?_);go_simp;go_at_call 109;(with_reducible refine(C2.out _ a).mono ?_);rintro e wa4 ⟨B3,m3,d3,rfl,d,hb⟩;have a:=zac a hb;refine hK.out _ _ (Cs.below hHeld hb) (λhHeld=>?_);clear hK K hb
 try simp only [sb9]
 refine rc 16 (λK hK=>?_);go_simp;go_at_call 88;(with_reducible refine(C3.out _ a _ _ _ d).mono ?_);rintro e wa5 ⟨rfl,hb⟩;have a:=zac a hb;have d:=d.below hb;refine hK.out _ _ (Cs.below hHeld hb) (λhHeld=>?_);clear hK K hb
 try simp only [sb9]
 refine tk 17 ?_;refine tk 18 ?_;refine rdn ?_;have hB:=zac hB a;obtain⟨g1,e1,g2,e2⟩:=zae4 a g1 e1 g2 e2;clear a hHeld d C0 C1 C2 C3;go_wp2;go_ret;exact⟨by first|rfl|simp,hB⟩
theorem zlq {T:World->Prop}(o:∀w w',T w->Below w.heap.size w w'->T w')(IC:IntC T)(z:Int)(bp:Bool)(Bp:oA9)(mp dp:Nat)(bq:Bool)(Bq:oA9)(mq dq:Nat)(K:Nat)(hKK:K<=16777216)(w:World)(sz:Sz K z.natAbs)(hp:zaK w z bp Bp mp dp)(hq:zcs w z bq Bq mq dq)(hT:T w)(h:0<z):
  Calls prog 86 #[.agg #[.bool bp,.slice Bp mp dp],.agg #[.bool bq,.slice Bq mq dq]] w λe w'=>e=.returned (.bool true)/\Below w.heap.size w w':=by
 have j:=lh9 IC;have HT:=up9 w (λw' hb=>o w w' hT hb);have c:=lh9 hp;have f:=lh9 hq;have g:=lh9 sz;have n:=lh9 sz;have Hh:=lh9 h;clear IC hT hp hq sz h;go_enter func86,ntmps86;have hB:=Below.refl w.heap.size w;obtain rfl:bq=false:=(f.out).1.trans (decide_eq_false (by have:=Hh.out;omega));have p:=zli (f.out).2 (by have:=Hh.out;omega);have hrq:((mq:Int)==0)=false:=by rw [beq_eq_false_iff_ne];omega
 clear p;obtain⟨i,k,l,bz⟩:=zbg w 51 58 #[.bool bp,.slice Bp mp dp] #[.bool false,.slice Bq mq dq];have hB:=zac hB i;have c:=lh9 (c.out.below i);have f:=lh9 (f.out.below i);obtain⟨g1,e1⟩:=k.c2;obtain⟨g2,e2⟩:=l.c2;clear i k l bz;go_wp2_with fail;generalize (w.alloc (.cells #[.bool bp,.slice Bp mp dp] 51)).alloc (.cells #[.bool false,.slice Bq mq dq] 58)=W1 at*;have C0:=up9 W1 (λw' h=>zhD (b:=false) (decide_eq_false (by have:=Hh.out;omega)) (j.out.belowI (z) bp Bp mp dp w' (HT.out _ (zac hB h)) (c.out.below h) (by have:=Sz.words g.out c.out.words;omega)));have C1:=up9 W1 (λw' h=>zlm (v:=1) ((sgn_pos Hh.out)) (j.out.sign (z) bp Bp mp dp w' (HT.out _ (zac hB h)) (c.out.below h) (by have:=Sz.words g.out c.out.words;omega)));have m:Hid (Sz (K) (z.natAbs)):=g.out;have C2:=up9 W1 (λw' h=>j.out.abs (z) bp Bp mp dp w' (HT.out _ (zac hB h)) (c.out.below h) (by have:=Sz.words g.out c.out.words;omega));have C3:=up9 W1 (λw' h B3 m3 d3 (d:zaf w' (z.natAbs) B3 m3 d3)=>zea (z.natAbs) B3 Bq m3 d3 mq dq w' d (f.out.below h).2 (by have:=Sz.words m.out d;omega) (by have:=Sz.holds' n.out f.out.2;omega));have a:=(Below.refl W1.heap.size W1).drew;refine rg (csc g1 (csc e1 (csc g2 (csc e2 csn)))) (λhHeld=>?_);refine tk 0 ?_;refine tk 2 ?_;refine tk 3 ?_;refine rc 1 (λK hK=>?_);go_simp;go_at_call 108;(with_reducible refine(C0.out _ a).mono ?_);rintro e wa2 ⟨rfl,hb⟩;have a:=zac a hb;refine hK.out _ _ (Cs.below hHeld hb) (λhHeld=>?_);clear hK K hb
 try simp only [sb9]
 refine tk 4 ?_;refine tk 5 ?_;refine tk 6 ?_;refine tk 8 ?_;refine rc 7 (λK hK=>?_);go_simp;go_at_call 139;(with_reducible refine(C1.out _ a).mono ?_);rintro e wa3 ⟨rfl,hb⟩;have a:=zac a hb;refine hK.out _ _ (Cs.below hHeld hb) (λhHeld=>?_);clear hK K hb
 try simp only [sb9]
 refine tk 9 ?_;refine tk 10 ?_;refine tk 11 ?_;refine tk 12 ?_;refine tk 14 ?_;refine tk 15 ?_;refine rc 13 (λK hK=>?_);go_simp;go_at_call 109;(with_reducible refine(C2.out _ a).mono ?_);rintro e wa4 ⟨B3,m3,d3,rfl,d,hb⟩;have a:=zac a hb;refine hK.out _ _ (Cs.below hHeld hb) (λhHeld=>?_);clear hK K hb
 try simp only [sb9]
 refine rc 16 (λK hK=>?_);go_simp;go_at_call 88;(with_reducible refine(C3.out _ a _ _ _ d).mono ?_);rintro e wa5 ⟨rfl,hb⟩;have a:=zac a hb;have d:=d.below hb;refine hK.out _ _ (Cs.below hHeld hb) (λhHeld=>?_);clear hK K hb
 try simp only [sb9]
 refine tk 17 ?_;refine tk 18 ?_;refine rdn ?_;have hB:=zac hB a;obtain⟨g1,e1,g2,e2⟩:=zae4 a g1 e1 g2 e2;clear a hHeld d C0 C1 C2 C3;go_wp2;go_ret;exact⟨by first|rfl|simp,hB⟩
theorem zhF {T:World->Prop}(b:∀w w',T w->Below w.heap.size w w'->T w')(IC:IntC T)(z:Int)(bp:Bool)(Bp:oA9)(mp dp:Nat)(bq:Bool)(Bq:oA9)(mq dq:Nat)(K:Nat)(a:K<=16777216)(w:World)(sz:Sz K z.natAbs)(hp:zaK w z bp Bp mp dp)(hq:zcs w z bq Bq mq dq)(hT:T w):
  Calls prog 86 #[.agg #[.bool bp,.slice Bp mp dp],.agg #[.bool bq,.slice Bq mq dq]] w λe w'=>e=.returned (.bool true)/\Below w.heap.size w w':=by
 rcases Int.lt_trichotomy z 0 with h|h|h
 ·exact zlr b IC z bp Bp mp dp bq Bq mq dq K a w sz hp hq hT h
 ·exact zlp b IC z bp Bp mp dp bq Bq mq dq K a w sz hp hq hT h
 ·exact zlq b IC z bp Bp mp dp bq Bq mq dq K a w sz hp hq hT h
