/- What this claim leans on. -/
import Derived.Test.YtcojjcjgbepicaaGreatDoorHMArgs
namespace Go.Proofs.YtcojjcjgbepicaaGreatDoor
open Go Go.RowKit Go.Proofs.Tryz
set_option maxHeartbeats 16000000
set_option maxRecDepth 100000
set_option linter.unusedVariables false
set_option linter.unusedSimpArgs false
structure zdj (w:World)(A:oA9)(n:Nat)(zs:List Int):Prop where
 len:zs.length=n
 ints:∀i,i<n-> -9223372036854775808<=zs.getD i 0/\zs.getD i 0<=9223372036854775807
 num:∀i,i<n->∃ad:Addr,A=some ad/\w.cell? (ad.add i)=some (.int .i64 (zs.getD i 0))
def ofL (zs:List Int):List Rat:=zs.map λz:Int=>(z:Rat)
theorem zgK {zs:List Int}{A:oA9}{n c:Nat}{w:World}(hT:zam w)(ha:zdj w A n zs)(hn:n<=1073741824:=by omega):
  Calls prog 58 #[.slice A n c] w (zft w n (ofL zs)):=by
 have t:=ha.len;have j:(ofL zs).length=n:=by unfold ofL;rw [List.length_map];exact t
 have h:∀i,i<n->(ofL zs)[i]?=some ((zs.getD i 0:Int):Rat):=λi hi=>by
  unfold ofL;rw [List.getElem?_map,List.getD_eq_getElem?_getD,List.getElem?_eq_getElem om9];rfl
 have HI:=lh9 ha.ints;unfold zft;obtain⟨ys,x⟩:∃ys,ofL zs=ys:=⟨_,rfl⟩;rw [x] at h j⊢;have HG:=lh9 h;have p:=lh9 j;have HA:=lh9 ha.num;have HT:=up9 w (λw' hb=>hT.on hb);obtain⟨Z,hZ⟩:=zeL n om9;have E:=λW=>(hZ W).1;have d:=lh9 (λW=>(hZ W).2);clear hT ha t j x h hZ;have i0:(0:Int)<=(n:Int):=om9;go_enter func58,ntmps58;go_wp2_with fail;clear E;have a:=d.out w;have hB:Below w.heap.size w (w.alloc (.cells Z 53)):=(Below.refl _ w).alloc (Nat.le_refl _) _;obtain⟨gp,s⟩:∃g,w.heap.size=g:=⟨_,rfl⟩;have v:w.heap.size<=gp:=om9;rw [s] at a⊢;rw [<-zbV 0 ys n] at a;generalize w.alloc (.cells Z 53)=W1 at*;clear s d
 go_loopg [11] (n+1) (λg ix wr=>∃(k:Nat),k<=n/\n<g+k/\ix=.int .i64 k/\zda wr gp n (zcy 0 ys n k)/\Below w.heap.size w wr)
 case atStart=>exact⟨0,Nat.zero_le _,om9,rfl,a,hB⟩
 case round=>
  clear a hB;obtain⟨k,hkn,hg,rfl,a,hB⟩:=hrel;by_cases hlt:k<n
  ·obtain⟨ad,rfl,hc⟩:=HA.out k hlt;have r:=zae hB hc;obtain⟨z1,z2⟩:=HI.out k hlt;have o:=lh9 (HG.out k hlt);obtain⟨z,hz⟩:∃z,zs.getD k 0=z:=⟨_,rfl⟩;rw [hz] at r z1 z2 o;have D:decide ((k:Int)<(n:Int))=true:=decide_eq_true om9;have i1:(0:Int)<=(k:Int):=om9;have i2:(k:Int)<(n:Int):=om9;have f:=lh9 a;have b:=lh9 hB;clear a hB hc hz;go_wp2_with fail;(with_reducible refine(zlO z _ (HT.out _ b.out) z1 z2).mono ?_);rintro e w3 ⟨b3,A3,n3,c3,E3,k3,f3,rfl,u,hb⟩;clear r;have l:=f.out.keep hb;have m:=zbI.set_ zas l hlt u;rw [zco 0 ys n k p.out hlt _ o.out] at m;obtain⟨q0,q1,q2,sc0,sf0,sc1,sf1,sc2,sf2⟩:=l.ready hlt (.bool b3) (.slice A3 n3 c3);have B:=lh9 m;have y:=lh9 (zcB (k*3) (k*3+1) (k*3+2) (.bool b3) (.slice A3 n3 c3) (.slice E3 k3 f3) v (zac b.out hb));clear l m hb u f b;go_wp2;go_roundg (n - k)
   case measure=>omega
   case rel=>exact⟨k+1,om9,om9,by go_num,B.out,y.out⟩
  ·have hk:k=n:=om9;subst hk;have D:decide ((k:Int)<(k:Int))=false:=si9;have C:=lh9 (zcn 0 ys k p.out▸a);have b:=lh9 hB;clear a hB;go_wp2;go_ret;exact⟨gp,rfl,v,C.out,b.out⟩
theorem znE {K:Nat}{xs:List Rat}{A:oA9}{n c:Nat}{w:World}(hT:zam w)(ha:zaL w A n c xs)(hx:zaI K xs)(hn:n<=1073741824:=by omega)(hK:K+2<=67108864:=by omega):
  Calls prog 96 #[.slice A n c] w (zft w n xs):=by
 have r:=ha.len;have HG:Hid (∀i,i<n->xs[i]?=some (xs.getD i 0)):=λi hi=>by
  rw [List.getD_eq_getElem?_getD,List.getElem?_eq_getElem om9];rfl
 have z:Hid (∀i,i<n->zaI K [xs.getD i 0]):=λi hi y hy=>by
  rw [List.mem_singleton.1 hy];exact hx.at_ om9
 unfold zft;have o:=lh9 r;have HA:=lh9 ha;have HT:=up9 w (λw' hb=>hT.on hb);obtain⟨Z,hZ⟩:=zeL n om9;have F:=λW=>(hZ W).1;have f:=lh9 (λW=>(hZ W).2);clear hT ha hx r hZ;have i0:(0:Int)<=(n:Int):=om9;go_enter func96,ntmps96;go_wp2_with fail;clear F;have a:=f.out w;have hB:Below w.heap.size w (w.alloc (.cells Z 53)):=(Below.refl _ w).alloc (Nat.le_refl _) _;obtain⟨gp,p⟩:∃g,w.heap.size=g:=⟨_,rfl⟩;have s:w.heap.size<=gp:=om9;rw [p] at a⊢;rw [<-zbV 0 xs n] at a;generalize w.alloc (.cells Z 53)=W1 at*;clear p f
 go_loopg [11] (n+1) (λg ix wr=>∃(k:Nat),k<=n/\n<g+k/\ix=.int .i64 k/\zda wr gp n (zcy 0 xs n k)/\Below w.heap.size w wr)
 case atStart=>exact⟨0,Nat.zero_le _,om9,rfl,a,hB⟩
 case round=>
  clear a hB;obtain⟨k,hkn,hg,rfl,a,hB⟩:=hrel;by_cases hlt:k<n
  ·obtain⟨ad,b1,B1,m1,d1,E1,u1,v1,rfl,-,B,C,D,hx⟩:=HA.out.get hB hlt;have E:decide ((k:Int)<(n:Int))=true:=decide_eq_true om9;have i1:(0:Int)<=(k:Int):=om9;have i2:(k:Int)<(n:Int):=om9;obtain⟨s1,t1,t2,t3⟩:=zbg wr 53 53 #[.bool b1,.slice B1 m1 d1,.slice E1 u1 v1] #[.bool b1,.slice B1 m1 d1,.slice E1 u1 v1];have t:=(zaD wr 53 #[.bool b1,.slice B1 m1 d1,.slice E1 u1 v1]).2.1;obtain⟨p0,p1,p2⟩:=t.c3;have m:=lh9 (znF t2 (hx.below s1));have h:=lh9 (a.keep s1);have b:=lh9 (zac hB s1);clear hx a hB s1 t1 t2 t3 t;go_wp2_with fail;(with_reducible refine(q_sum (HT.out _ b.out) m.out (z.out k hlt) de9 om9).mono ?_);rintro e w3 ⟨b3,A3,n3,c3,E3,k3,f3,rfl,d,hb⟩;clear B C D p0 p1 p2;have d:zak w3 (xs.getD k 0) b3 A3 n3 c3 E3 k3 f3:=by
    have e:zdM [xs.getD k 0]=xs.getD k 0:=by rw [zfi,zkK,Rat.add_zero]
    rw [e] at d;exact d
   have j:=h.out.keep hb;have l:=zbI.set_ zas j hlt d;rw [zco 0 xs n k o.out hlt _ (HG.out k hlt)] at l;obtain⟨q0,q1,q2,sc0,sf0,sc1,sf1,sc2,sf2⟩:=j.ready hlt (.bool b3) (.slice A3 n3 c3);have v:=lh9 l;have u:=lh9 (zcB (k*3) (k*3+1) (k*3+2) (.bool b3) (.slice A3 n3 c3) (.slice E3 k3 f3) s (zac b.out hb));clear j l hb d h b m;go_wp2;go_roundg (n - k)
   case measure=>omega
   case rel=>exact⟨k+1,om9,om9,by go_num,v.out,u.out⟩
  ·have hk:k=n:=om9;subst hk;have E:decide ((k:Int)<(k:Int))=false:=si9;have x:=lh9 (zcn 0 xs k o.out▸a);have b:=lh9 hB;clear a hB;go_wp2;go_ret;exact⟨gp,rfl,s,x.out,b.out⟩
def zbf (u:Value):Prop:=∃A n c,u=.slice A n c
def zbL (w:World)(v:Value):Prop:=∀g,v.ownBlock=some g->∃(cur:Array Value) (e:TypeId),w.heap[g]?=some (.cells cur e (0,0))/\∀u ∈ cur.toList,zbf u
theorem zbL.nil (w:World)(c:Nat):zbL w (.slice none 0 c):=λg h=>by simp [Value.ownBlock] at h
theorem zbL.block {w w':World}{v:Value}(h:zbL w v)(hg:∀g,v.ownBlock=some g->w'.heap[g]?=w.heap[g]?):zbL w' v:=λg e=>by
 obtain⟨a,t,h1,h2⟩:=h g e;exact⟨a,t,(hg g e).trans h1,h2⟩
theorem zbL.below {w w':World}{v:Value}(h:zbL w v)(hb:Below w.heap.size w w'):zbL w' v:=λg e=>by
 obtain⟨a,t,h1,h2⟩:=h g e;exact⟨a,t,(hb.block g (Array.getElem?_eq_some_iff.1 h1).1).trans h1,h2⟩
theorem zjK {z:Array Value}{k:Nat}{u:Value}(hz:0<z.size)(hu:u ∈(Builtin.zeroCells z k).toList):u ∈ z.toList:=by
 unfold Builtin.zeroCells at hu;rw [Array.mem_toList_iff,Array.mem_map] at hu;obtain⟨i,_,rfl⟩:=hu;have a:i%z.size<z.size:=Nat.mod_lt _ hz;rw [getElem!_pos z (i%z.size) a,Array.mem_toList_iff];exact Array.getElem_mem a
section
variable {P:Program}(w:World)
theorem zgp (base:Nat)(t ty e:TypeId)(i:TypeInfo)(z:Value)(size bytes:Nat)(ht:P.underlying t=some (.slice e))(hi:P.info? e=some i)(hz:i.zero=some z)
  (B:i.size=size) (I:i.bytes=bytes) (L:z.cells.size=size) (hsz:0<size)
  (v:Value) (n:Nat) (xs:List Value) (d:w.ownsRow base e size v n xs)
  (a:Addr) (m c:Nat) (b:List Value) (hl:b.length=m*size) (l:∀j u,b[j]?=some u->w.cell? (a.add j)=some u) (h1:∀u ∈ b,u.oneCell'=true)
  (D:n+m<=maxLen) (o:(n+m)*bytes<=140737488355328) (s:base<=w.heap.size)
  (hv:zbL w v) (K:∀u ∈ z.cells.toList,zbf u) (H:∀u ∈ b,zbf u):
  ∃ v' w',(Builtin.append_ #[t,t] ty #[v,.slice (some a) m c]).run P w = .ok v' w' ∧ w'.ownsRow base e size v' (n + m) (xs ++ b) ∧ w.grownBy w' v.ownBlock ∧
   (v'.ownBlock=v.ownBlock\/v'.ownBlock=some w.heap.size)/\zbL w' v':=by
 subst B;subst I;have hsmall:n+m<=9223372036854775807:=by simp only [maxLen] at D;omega
 have p:(xs++b).length=(n+m)*i.size:=by rw [List.length_append,d.1,hl,Nat.add_mul]
 have grown : ∀ (old : Nat),old < n + m → (∀ u ∈ xs,zbf u) → ∀ (row : Option Nat),
   (w.drew.alloc (.cells (xs.toArray ++ b.toArray ++ Builtin.zeroCells z.cells (grownCap w (n + m) old e - (n + m))) e)).ownsRow base e i.size
     (.slice (some ⟨w.heap.size,0,none⟩) (n+m) (grownCap w (n+m) old e)) (n+m) (xs++b)/\
   w.grownBy (w.drew.alloc (.cells (xs.toArray++b.toArray++Builtin.zeroCells z.cells (grownCap w (n+m) old e - (n+m))) e)) row/\
   zbL (w.drew.alloc (.cells (xs.toArray++b.toArray++Builtin.zeroCells z.cells (grownCap w (n+m) old e - (n+m))) e)) (.slice (some ⟨w.heap.size,0,none⟩) (n+m) (grownCap w (n+m) old e)):=by
  intro old ho C row;have J:=grownCap_ge w (n+m) old e;have x:grownCap w (n+m) old e<=maxLen:=grownCap_le_maxLen w (n+m) old e D;refine⟨⟨p,.inr ⟨w.heap.size,_,_,rfl,s,heap_alloc_new w.drew _,J,x,?_,?_⟩⟩,⟨rfl,rfl,rfl,si9,λk hk _=>heap_alloc_old w.drew _ hk⟩,?_⟩
  ·simp only [Array.size_append,List.size_toArray,size_zeroCells,L,d.1,hl,<-Nat.add_mul];congr 1;omega
  ·simp only [Array.toList_append,List.append_assoc];rw [<-List.append_assoc,<-p];exact List.take_left
  ·intro g hg;simp [Value.ownBlock] at hg;subst hg;refine⟨_,_,heap_alloc_new w.drew _,λu hu=>?_⟩;simp only [Array.toList_append,List.mem_append] at hu;rcases hu with(hu|hu)|hu
   ·exact C u hu
   ·exact H u hu
   ·exact K u (zjK om9 hu)
 rcases d.2 with⟨rfl,rfl⟩|⟨g,cap,cur,rfl,hbg,hg,hnc,x,hcs,htake⟩
 ·have hx:xs=[]:=List.eq_nil_of_length_eq_zero (by simpa using d.1);subst hx;by_cases hm:m=0
  ·subst hm;have hn:b=[]:=List.eq_nil_of_length_eq_zero (by simpa using hl);subst hn;refine⟨.slice none 0 0,w,?_,World.ownsRow_nil w base e i.size,⟨rfl,rfl,rfl,Nat.le_refl _,λ_ _ _=>rfl⟩,Or.inl rfl,zbL.nil _ _⟩;simp [Builtin.append_,run_underlying ht,sizeOf,typeInfo,hi,Builtin.lenOf,Builtin.firstCells,loadCells,loadCellsFrom]
  ·have hr:=run_append_nil (P:=P) w t ty e i z ht hi hz a m c b hl l om9 om9 (by have hb:=o;simp only [Nat.zero_add] at hb;omega);have h:=grown 0 om9 (λu hu=>by cases hu) (Value.ownBlock (.slice none 0 0));simp only [Nat.zero_add,List.nil_append,Array.empty_append] at h⊢;exact⟨_,_,hr,h.1,h.2.1,Or.inr rfl,h.2.2⟩
 ·obtain⟨f,e2,r,y⟩:=hv g rfl;have E:f=cur:=by
   rw [hg] at r;injection r with r;injection r with r;exact r.symm
  subst E;by_cases hroom:n+m<=cap
  ·have F:n*i.size+b.length<=f.size:=by rw [hl,hcs,<-Nat.add_mul];exact Nat.mul_le_mul_right _ hroom
   have hr:=run_append_room (P:=P) w t ty e i ht hi g n cap f hg a m c b hl l h1 hroom F;refine⟨_,_,hr,⟨p,.inr ⟨g,cap,_,rfl,hbg,setRow_heap w g f _ e _ hg,hroom,x,?_,?_⟩⟩,⟨rfl,rfl,rfl,si9,λk _ hk=>setRow_other w g k _ (λe=>hk (by simp [Value.ownBlock,e]))⟩,Or.inl rfl,?_⟩
   ·simp only [List.size_toArray,List.length_append,List.length_take,List.length_drop,Array.length_toList];omega
   ·rw [htake,<-p];exact List.take_left
   ·intro g' G;simp [Value.ownBlock] at G;subst G;refine⟨_,_,setRow_heap w g f _ e _ hg,λu hu=>?_⟩;rw [List.mem_append,List.mem_append] at hu;rcases hu with(hu|hu)|hu
    ·exact y u (List.mem_of_mem_take hu)
    ·exact H u hu
    ·exact y u (List.mem_of_mem_drop hu)
  ·have A:∀j u,xs[j]?=some u->w.cell? ((⟨g,0,none⟩:Addr).add j)=some u:=d.cells (g:=g) rfl;have hr:=run_append_grow (P:=P) w t ty e i z ht hi hz ⟨g,0,none⟩ n cap xs d.1 A a m c b hl l om9 om9 (growslice_fits om9 o);have C:∀u ∈ xs,zbf u:=λu hu=>y u (List.mem_of_mem_take (by rw [htake];exact hu));have h:=grown cap om9 C (Value.ownBlock (.slice (some ⟨g,0,none⟩) n cap));exact⟨_,_,hr,h.1,h.2.1,Or.inr rfl,h.2.2⟩
theorem zbv {p:Array Oper}{rest:List Oper}{o:Oper}{a:Act}{Q:Exit->Act->World->Prop}(A:o.guard=none)(s x:Operand)(t:TypeId)
  (ho:o.op=.call {callee:=.builtin .append,args:=#[s,x],argTypes:=#[t,t]})
  (base:Nat) (e:TypeId) (i:TypeInfo) (z:Value) (size bytes:Nat) (ht:P.underlying t=some (.slice e)) (hi:P.info? e=some i) (hz:i.zero=some z)
  (k:i.size=size) (y:i.bytes=bytes) (D:z.cells.size=size) (hsz:0<size)
  (v:Value) (n:Nat) (xs:List Value) (hs:a.eval s=v) (l:w.ownsRow base e size v n xs)
  (ad:Addr) (m c:Nat) (b:List Value) (hx:a.eval x=.slice (some ad) m c) (hl:b.length=m*size) (g:∀j u,b[j]?=some u->w.cell? (ad.add j)=some u) (h1:∀u ∈ b,u.oneCell'=true)
  (r:n+m<=maxLen) (d:(n+m)*bytes<=140737488355328) (f:base<=w.heap.size)
  (hv:zbL w v) (C:∀u ∈ z.cells.toList,zbf u) (B:∀u ∈ b,zbf u)
  (h:∀v' w',w'.ownsRow base e size v' (n+m) (xs++b)->w.grownBy w' v.ownBlock->(v'.ownBlock=v.ownBlock\/v'.ownBlock=some w.heap.size)->zbL w' v'->wpList P p Q rest (a.put o.dst v') w'):
  wpList P p Q (o::rest) a w:=by
 refine wpList_plain A λK hK=>?_;obtain⟨v',w',hr,h2,h3,h4,h5⟩:=zgp (P:=P) w base t o.type e i z size bytes ht hi hz k y D hsz v n xs l ad m c b hl g h1 r d f hv C B;unfold Oper.wp execOp;simp only [ho,resolve,invoke,builtin,Sem.run_bind,Sem.run_pure,Result.andThen_ok,List.map_toArray,List.map_cons,List.map_nil,hs,hx,hr];exact hK _ _ (h v' w' h2 h3 h4 h5)
end
theorem zbL.blk {w:World}{v:Value}{g:Nat}(h:zbL w v)(hg:v.ownBlock=some g):∃(t:TypeId) (cs:Array Value),Blk w g t cs/\∀u ∈ cs.toList,zbf u:=by
 obtain⟨a,e,h1,h2⟩:=h g hg;exact⟨e,a,h1,h2⟩
theorem vec_offS {w w':World}{A:oA9}{n c g:Nat}{xs:List Rat}{t:TypeId}{cs:Array Value}(h:zaL w A n c xs)(hk:Blk w g t cs)(hs:∀u ∈ cs.toList,zbf u)(ho:zbn g w w'):zaL w' A n c xs:=by
 refine⟨h.len,h.fits,h.most,λi x hi=>?_⟩;obtain⟨ad,b,B,m,d,F,u,v,e,h1,h2,h3,h4,h5⟩:=h.num i x hi;have a:ad.block≠g:=λhg=>by
  have hb:(ad.add (i*3)).block=g:=by rw [zan];exact hg
  generalize ad.add (i*3)=q at hb h2;obtain⟨bk,off,pr⟩:=q;simp only at hb;subst hb;unfold Blk at hk;cases pr with
  |none=>
    rw [show w.cell? ⟨bk,off,none⟩=cs[off]? from cell_of_row w bk off _ t (0,0) hk,<-Array.getElem?_toList] at h2;obtain⟨A9,n9,c9,e9⟩:=hs _ (List.mem_of_getElem? h2);cases e9
  |some q=>simp [World.cell?,hk] at h2
 have f:NoU cs:=λq hq k z e9=>by
  obtain⟨A9,n9,c9,e8⟩:=hs q hq;rw [e8] at e9;cases e9
 have hc:∀j,w'.cell? (ad.add j)=w.cell? (ad.add j):=λj=>ho.2 _ (by rw [zan];exact h1) (by rw [zan];exact a);exact⟨ad,b,B,m,d,F,u,v,e,Nat.lt_of_lt_of_le h1 ho.1,(hc _).trans h2,(hc _).trans h3,(hc _).trans h4,zas.offg h5 hk f ho⟩
theorem zkR {w w':World}{v:Value}{A:oA9}{n c:Nat}{xs:List Rat}(h:zaL w A n c xs)(hg:w.grownBy w' v.ownBlock)(hn:zbL w v):zaL w' A n c xs:=by
 cases hv:v.ownBlock with
 |none=>rw [hv] at hg;exact h.keep (zbx hg)
 |some g=>
   rw [hv] at hg;obtain⟨t,cs,hk,hc⟩:=hn.blk hv;exact vec_offS h hk hc (zbn.of_grown hg)
structure zcX (w:World)(base:Nat)(v:Value)(Ls:List (List Rat))(vs:List Value):Prop where
 own:w.ownsRow base 71 1 v Ls.length vs
 sl:zbL w v
 num:∀(i:Nat) (L:List Rat),Ls[i]?=some L->∃(B:oA9) (d:Nat),vs[i]?=some (Value.slice B L.length d)/\zaL w B L.length d L
theorem zcX.nil (w:World)(base:Nat):zcX w base (.slice none 0 0) [] []:=⟨World.ownsRow_nil _ _ _ _,zbL.nil _ _,λi L hi=>by simp at hi⟩
theorem zcX.len {w:World}{base:Nat}{v:Value}{Ls:List (List Rat)}{vs:List Value}(h:zcX w base v Ls vs):vs.length=Ls.length:=by have:=h.own.1;omega
theorem zcX.shape {w:World}{base n:Nat}{v:Value}{Ls:List (List Rat)}{vs:List Value}(h:zcX w base v Ls vs)(hn:Ls.length=n):∃A c,v=.slice A n c/\zhw w A n Ls:=by
 subst hn;obtain⟨A,c,e,h1,h2,h3⟩:=zav.of_grown_own h.own;refine⟨A,c,e,rfl,λi L hi=>?_⟩;obtain⟨B,d,hv,hw⟩:=h.num i L hi;have hlt:=(List.getElem?_eq_some_iff.1 hi).1;obtain⟨ad,ea,hb,hc⟩:=h3.2 om9;exact⟨ad,B,d,ea,hb,hc i _ hv,hw⟩
theorem zcX.below {w w':World}{base:Nat}{v:Value}{Ls:List (List Rat)}{vs:List Value}(h:zcX w base v Ls vs)(hb:Below w.heap.size w w'):zcX w' base v Ls vs:=by
 refine⟨⟨h.own.1,?_⟩,h.sl.below hb,λi L hi=>?_⟩
 ·rcases h.own.2 with h1|⟨g,cap,cur,e1,e2,e3,e4⟩
  ·exact .inl h1
  ·exact .inr ⟨g,cap,cur,e1,e2,(hb.block g (Blk.lt (t:=71) (cs:=cur) e3)).trans e3,e4⟩
 ·obtain⟨B,d,hv,hw⟩:=h.num i L hi;exact⟨B,d,hv,hw.keep hb⟩
theorem zcX.grow {w w':World}{base n:Nat}{v v':Value}{Ls:List (List Rat)}{vs:List Value}{L:List Rat}{B:oA9}{d:Nat}(h:zcX w base v Ls vs)(hx:zaL w B L.length d L)
  (ho:w'.ownsRow base 71 1 v' n (vs++[.slice B L.length d])) (hn:n=Ls.length+1) (hg:w.grownBy w' v.ownBlock) (hs:zbL w' v'):zcX w' base v' (Ls++[L]) (vs++[.slice B L.length d]):=by
 have hl:=h.len;refine⟨by rw [List.length_append,List.length_singleton,<-hn];exact ho,hs,λi M hi=>?_⟩;by_cases hlt:i<Ls.length
 ·rw [List.getElem?_append_left hlt] at hi;obtain⟨C,e,hv,hw⟩:=h.num i M hi;exact⟨C,e,by rw [List.getElem?_append_left om9];exact hv,zkR hw hg h.sl⟩
 ·rw [List.getElem?_append_right om9] at hi;have a:i=Ls.length:=by
   have:=(List.getElem?_eq_some_iff.1 hi).1;simp at this;omega
  subst a;obtain rfl:L=M:=by
   rw [Nat.sub_self] at hi;injection hi
  exact⟨B,d,by rw [List.getElem?_append_right om9,hl,Nat.sub_self];rfl,zkR hx hg h.sl⟩
theorem zeq:(prog.info? 71).map (λi=>(i.zero,i.size,i.bytes))=some (some (.slice none 0 0),1,24):=kr9
theorem zhw.get {w:World}{A:oA9}{n:Nat}{Ls:List (List Rat)}(h:zhw w A n Ls){i m:Nat}(hi:i<n)(hm:(Ls.getD i []).length=m):∃(ad:Addr) (B:oA9) (d:Nat),A=some ad/\w.cell? (ad.add i)=some (.slice B m d)/\zaL w B m d (Ls.getD i []):=by
 have hl:=h.len;obtain⟨ad,B,d,e,_,h1,h2⟩:=h.num i _ (zcd (d:=[]) om9);rw [hm] at h1 h2;exact⟨ad,B,d,e,h1,h2⟩
abbrev ziB:=Nat->oA9×Nat×Nat×List (Int×Int)
theorem zpw {T:World->Prop}{M:Nat->Prop}(F:∀w w',T w->Below w.heap.size w w'->T w')(IC:IntC T)(QC:RatC T M)(p q:Int)(r:Rat)(K:Nat)(bx:Bool)(Bx:oA9)(mx dx:Nat)(Ex:oA9)(ux vx:Nat)(w:World)(hK:K<=16777216)(hz:SzQ K r)(h:zak w r bx Bx mx dx Ex ux vx)(hT:T w)(s: -9223372036854775808<=p)(t:p<=9223372036854775807)(u: -9223372036854775808<=q)(v:q<=9223372036854775807)(G:q≠0)(he:r=Rat.divInt p q):
  Calls prog 52 #[.agg #[.bool bx,.slice Bx mx dx,.slice Ex ux vx],.int .i64 p,.int .i64 q] w λe w'=>e=.returned (.bool true)/\Below w.heap.size w w':=by
 have A:=lh9 IC;have k:=lh9 QC;have HT:=up9 w (λw' hb=>F w w' hT hb);have HE:=lh9 he;have m:=lh9 hz;have d:=lh9 h;clear IC QC hT he hz h;go_enter func52,ntmps52;have hB:=Below.refl w.heap.size w;obtain⟨f,n,bz⟩:=zaD w 53 #[.bool bx,.slice Bx mx dx,.slice Ex ux vx];have hB:=zac hB f;have d:=lh9 (d.out.below f);obtain⟨g1,e1,i1⟩:=n.c3;clear f n bz;go_wp2_with fail;generalize w.alloc (.cells #[.bool bx,.slice Bx mx dx,.slice Ex ux vx] 53)=W1 at*;have l:Hid (SzQ (1) (Rat.divInt p q)):=SzQ.made (K:=1) (by show Int.natAbs p<18446744073709551616^1;have e1: -9223372036854775808<=p:=s;have e2:p<=9223372036854775807:=t;omega) (by show Int.natAbs q<18446744073709551616^1;have e1: -9223372036854775808<=q:=u;have e2:q<=9223372036854775807:=v;omega) de9;(with_reducible refine(k.out.of p q _ (HT.out _ hB) s t u v G).mono ?_);rintro e o ⟨b2,B2,m2,d2,E2,u2,v2,rfl,z,hb⟩;have hB:=zac hB hb;have d:=lh9 (d.out.below hb);obtain⟨g1,e1,i1⟩:=zae3 hb g1 e1 i1;have i:=lh9 z;clear hb z;obtain⟨f,n,bz⟩:=zaD o 53 #[.bool b2,.slice B2 m2 d2,.slice E2 u2 v2];have hB:=zac hB f;have d:=lh9 (d.out.below f);obtain⟨g1,e1,i1⟩:=zae3 f g1 e1 i1;have i:=lh9 (i.out.below f);obtain⟨g3,e3,i3⟩:=n.c3;clear f n bz;go_wp2_with fail;generalize o.alloc (.cells #[.bool b2,.slice B2 m2 d2,.slice E2 u2 v2] 53)=W3 at*;generalize o.heap.size=q3 at*;have C0:=up9 W3 (λw' h=>zaz (decide_eq_true HE.out) (k.out.same (r) (Rat.divInt p q) bx b2 Bx B2 mx m2 dx d2 Ex E2 ux u2 vx v2 w' (HT.out _ (zac hB h)) (d.out.below h) (i.out.below h) (szq m d.out) (szq l i.out)));have B:Hid (Sz (K) (r.num).natAbs):=SzQ.num m.out;have C1:=up9 W3 (λw' h=>k.out.num (r) bx Bx mx dx Ex ux vx w' (HT.out _ (zac hB h)) (d.out.below h) (szq m d.out));have C:Hid (Sz (1) ((Rat.divInt p q).num).natAbs):=SzQ.num l.out;have C2:=up9 W3 (λw' h=>k.out.num (Rat.divInt p q) b2 B2 m2 d2 E2 u2 v2 w' (HT.out _ (zac hB h)) (i.out.below h) (szq l i.out));have C3:=up9 W3 (λw' h b4 B4 m4 d4 (b:zaK w' (r.num) b4 B4 m4 d4) b5 B5 m5 d5 (c:zaK w' ((Rat.divInt p q).num) b5 B5 m5 d5)=>icmp_eq (by rw [HE.out]) (A.out.cmp (r.num) ((Rat.divInt p q).num) b4 b5 B4 B5 m4 m5 d4 d5 w' (HT.out _ (zac hB h)) b c (by have:=Sz.words B.out b.words;omega) (by have:=Sz.words C.out c.words;omega)));have D:Hid (Sz (K) (r.den)):=SzQ.den m.out;have C4:=up9 W3 (λw' h=>k.out.den (r) bx Bx mx dx Ex ux vx w' (HT.out _ (zac hB h)) (d.out.below h) (szq m d.out));have E:Hid (Sz (1) ((Rat.divInt p q).den)):=SzQ.den l.out;have C5:=up9 W3 (λw' h=>k.out.den (Rat.divInt p q) b2 B2 m2 d2 E2 u2 v2 w' (HT.out _ (zac hB h)) (i.out.below h) (szq l i.out));have C6:=up9 W3 (λw' h B6 m6 d6 (g:zaf w' (r.den) B6 m6 d6) B7 m7 d7 (j:zaf w' ((Rat.divInt p q).den) B7 m7 d7)=>cmpEq (x:=r.den) (y:=(Rat.divInt p q).den) (by rw [HE.out]) g j (szw D g) (szw E j));have a:=(Below.refl W3.heap.size W3).drew;refine rg (csc g1 (csc e1 (csc i1 (csc g3 (csc e3 (csc i3 csn)))))) (λhHeld=>?_);refine tk 0 ?_;refine tk 1 ?_;refine tk 2 ?_;refine tk 3 ?_;refine rc 4 (λK hK=>?_);go_simp;go_at_call 55;(with_reducible refine(C0.out _ a).mono ?_);rintro e wa4 ⟨rfl,hb⟩;have a:=zac a hb;refine hK.out _ _ (Cs.below hHeld hb) (λhHeld=>?_);clear hK K hb
 try simp only [sb9]
 refine tk 5 ?_;refine tk 6 ?_;refine tk 7 ?_;refine tk 9 ?_;refine rc 8 (λK hK=>?_);go_simp;go_at_call 87;(with_reducible refine(C1.out _ a).mono ?_);rintro e wa5 ⟨b4,B4,m4,d4,rfl,b,hb⟩;have a:=zac a hb;refine hK.out _ _ (Cs.below hHeld hb) (λhHeld=>?_);clear hK K hb
 try simp only [sb9]
 refine rc 10 (λK hK=>?_);go_simp;go_at_call 87;(with_reducible refine(C2.out _ a).mono ?_);rintro e wa6 ⟨b5,B5,m5,d5,rfl,c,hb⟩;have a:=zac a hb;have b:=b.below hb;refine hK.out _ _ (Cs.below hHeld hb) (λhHeld=>?_);clear hK K hb
 try simp only [sb9]
 refine rc 11 (λK hK=>?_);go_simp;go_at_call 117;(with_reducible refine(C3.out _ a _ _ _ _ b _ _ _ _ c).mono ?_);rintro e wa7 ⟨rfl,hb⟩;have a:=zac a hb;have b:=b.below hb;have c:=c.below hb;refine hK.out _ _ (Cs.below hHeld hb) (λhHeld=>?_);clear hK K hb
 try simp only [sb9]
 refine tk 12 ?_;refine tk 13 ?_;refine tk 14 ?_;refine tk 15 ?_;refine tk 17 ?_;refine rc 16 (λK hK=>?_);go_simp;go_at_call 89;(with_reducible refine(C4.out _ a).mono ?_);rintro e wa8 ⟨B6,m6,d6,rfl,g,hb⟩;have a:=zac a hb;have b:=b.below hb;have c:=c.below hb;refine hK.out _ _ (Cs.below hHeld hb) (λhHeld=>?_);clear hK K hb
 try simp only [sb9]
 refine rc 18 (λK hK=>?_);go_simp;go_at_call 89;(with_reducible refine(C5.out _ a).mono ?_);rintro e wa9 ⟨B7,m7,d7,rfl,j,hb⟩;have a:=zac a hb;have b:=b.below hb;have c:=c.below hb;have g:=g.below hb;refine hK.out _ _ (Cs.below hHeld hb) (λhHeld=>?_);clear hK K hb
 try simp only [sb9]
 refine rc 19 (λK hK=>?_);go_simp;go_at_call 118;(with_reducible refine(C6.out _ a _ _ _ g _ _ _ j).mono ?_);rintro e wa10 ⟨rfl,hb⟩;have a:=zac a hb;have b:=b.below hb;have c:=c.below hb;have g:=g.below hb;have j:=j.below hb;refine hK.out _ _ (Cs.below hHeld hb) (λhHeld=>?_);clear hK K hb
 try simp only [sb9]
 refine tk 20 ?_;refine tk 21 ?_;refine tk 22 ?_;refine rdn ?_;have hB:=zac hB a;obtain⟨g1,e1,i1,g3,e3,i3⟩:=zae6 a g1 e1 i1 g3 e3 i3;clear a hHeld b c g j C0 C1 C2 C3 C4 C5 C6;go_wp2;go_ret;exact⟨by first|rfl|simp,hB⟩
