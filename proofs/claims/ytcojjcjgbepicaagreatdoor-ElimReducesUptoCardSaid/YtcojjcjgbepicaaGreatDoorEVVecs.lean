/- What this claim leans on. -/
import Derived.Test.YtcojjcjgbepicaaGreatDoorEMArgs
namespace Go.Proofs.YtcojjcjgbepicaaGreatDoor
open Go Go.RowKit
set_option maxHeartbeats 16000000
set_option linter.unusedVariables false
set_option linter.unusedSimpArgs false
def zcf (u:Value):Prop:=∃A n c,u=.slice A n c
def zbI (w:World)(v:Value):Prop:=∀g,v.ownBlock=some g->∃(cur:Array Value) (e:TypeId),w.heap[g]?=some (.cells cur e (0,0))/\∀u ∈ cur.toList,zcf u
theorem zbI.nil (w:World)(c:Nat):zbI w (.slice none 0 c):=λg h=>by simp [Value.ownBlock] at h
theorem zbI.block {w w':World}{v:Value}(h:zbI w v)(hg:∀g,v.ownBlock=some g->w'.heap[g]?=w.heap[g]?):zbI w' v:=λg e=>by
 obtain⟨cur,t,h1,h2⟩:=h g e
 exact⟨cur,t,(hg g e).trans h1,h2⟩
theorem zbI.below {w w':World}{v:Value}(h:zbI w v)(hb:Below w.heap.size w w'):zbI w' v:=λg e=>by
 obtain⟨cur,t,h1,h2⟩:=h g e
 exact⟨cur,t,(hb.block g (Array.getElem?_eq_some_iff.1 h1).1).trans h1,h2⟩
theorem zfv {z:Array Value}{k:Nat}{u:Value}(hz:0<z.size)(hu:u ∈(Builtin.zeroCells z k).toList):u ∈ z.toList:=by
 unfold Builtin.zeroCells at hu
 rw [Array.mem_toList_iff,Array.mem_map] at hu
 obtain⟨i,_,rfl⟩:=hu
 have hlt:i%z.size<z.size:=Nat.mod_lt _ hz
 rw [getElem!_pos z (i%z.size) hlt,Array.mem_toList_iff]
 exact Array.getElem_mem hlt
section
variable {P:Program}(w:World)
theorem zfV (base:Nat)(t ty e:TypeId)(i:TypeInfo)(z:Value)(size bytes:Nat)(ht:P.underlying t=some (.slice e))(hi:P.info? e=some i)(hz:i.zero=some z)
  (hsize:i.size=size) (hby:i.bytes=bytes) (hzs:z.cells.size=size) (hsz:0<size)
  (v:Value) (n:Nat) (xs:List Value) (hown:w.ownsRow base e size v n xs)
  (a:Addr) (m c:Nat) (news:List Value) (hl:news.length=m*size) (hnews:∀j u,news[j]?=some u->w.cell? (a.add j)=some u) (h1:∀u ∈ news,u.oneCell'=true)
  (h63:n+m<=maxLen) (hbytes:(n+m)*bytes<=140737488355328) (hbase:base<=w.heap.size)
  (hv:zbI w v) (hzn:∀u ∈ z.cells.toList,zcf u) (hnn:∀u ∈ news,zcf u):
  ∃ v' w',(Builtin.append_ #[t,t] ty #[v,.slice (some a) m c]).run P w = .ok v' w' ∧ w'.ownsRow base e size v' (n + m) (xs ++ news) ∧ w.grownBy w' v.ownBlock ∧
   (v'.ownBlock=v.ownBlock\/v'.ownBlock=some w.heap.size)/\zbI w' v':=by
 subst hsize
 subst hby
 have hsmall:n+m<=9223372036854775807:=by simp only [maxLen] at h63;omega
 have hlen:(xs++news).length=(n+m)*i.size:=by rw [List.length_append,hown.1,hl,Nat.add_mul]
 have grown : ∀ (old : Nat),old < n + m → (∀ u ∈ xs,zcf u) → ∀ (row : Option Nat),
   (w.drew.alloc (.cells (xs.toArray ++ news.toArray ++ Builtin.zeroCells z.cells (grownCap w (n + m) old e - (n + m))) e)).ownsRow base e i.size
     (.slice (some ⟨w.heap.size,0,none⟩) (n+m) (grownCap w (n+m) old e)) (n+m) (xs++news)/\
   w.grownBy (w.drew.alloc (.cells (xs.toArray++news.toArray++Builtin.zeroCells z.cells (grownCap w (n+m) old e - (n+m))) e)) row/\
   zbI (w.drew.alloc (.cells (xs.toArray++news.toArray++Builtin.zeroCells z.cells (grownCap w (n+m) old e - (n+m))) e)) (.slice (some ⟨w.heap.size,0,none⟩) (n+m) (grownCap w (n+m) old e)):=by
  intro old ho hxs row
  have hge:=grownCap_ge w (n+m) old e
  have hcm:grownCap w (n+m) old e<=maxLen:=grownCap_le_maxLen w (n+m) old e h63
  refine⟨⟨hlen,.inr ⟨w.heap.size,_,_,rfl,hbase,heap_alloc_new w.drew _,hge,hcm,?_,?_⟩⟩,⟨rfl,rfl,rfl,by simp,λk hk _=>heap_alloc_old w.drew _ hk⟩,?_⟩
  ·simp only [Array.size_append,List.size_toArray,size_zeroCells,hzs,hown.1,hl,<-Nat.add_mul]
   congr 1
   omega
  ·simp only [Array.toList_append,List.append_assoc]
   rw [<-List.append_assoc,<-hlen]
   exact List.take_left
  ·intro g hg
   simp [Value.ownBlock] at hg
   subst hg
   refine⟨_,_,heap_alloc_new w.drew _,λu hu=>?_⟩
   simp only [Array.toList_append,List.mem_append] at hu
   rcases hu with(hu|hu)|hu
   ·exact hxs u hu
   ·exact hnn u hu
   ·exact hzn u (zfv (by omega) hu)
 rcases hown.2 with⟨rfl,rfl⟩|⟨g,cap,cur,rfl,hbg,hg,hnc,hcm,hcs,htake⟩
 ·have hx:xs=[]:=List.eq_nil_of_length_eq_zero (by simpa using hown.1)
  subst hx
  by_cases hm:m=0
  ·subst hm
   have hn:news=[]:=List.eq_nil_of_length_eq_zero (by simpa using hl)
   subst hn
   refine⟨.slice none 0 0,w,?_,World.ownsRow_nil w base e i.size,⟨rfl,rfl,rfl,Nat.le_refl _,λ_ _ _=>rfl⟩,Or.inl rfl,zbI.nil _ _⟩
   simp [Builtin.append_,run_underlying ht,sizeOf,typeInfo,hi,Builtin.lenOf,Builtin.firstCells,loadCells,loadCellsFrom]
  ·have hr:=run_append_nil (P:=P) w t ty e i z ht hi hz a m c news hl hnews (by omega) (by omega) (by have hb:=hbytes;simp only [Nat.zero_add] at hb;omega)
   have hgr:=grown 0 (by omega) (λu hu=>by cases hu) (Value.ownBlock (.slice none 0 0))
   simp only [Nat.zero_add,List.nil_append,Array.empty_append] at hgr⊢
   exact⟨_,_,hr,hgr.1,hgr.2.1,Or.inr rfl,hgr.2.2⟩
 ·obtain⟨cur2,e2,hg2,hcn⟩:=hv g rfl
  have hcur:cur2=cur:=by
   rw [hg] at hg2
   injection hg2 with hg2
   injection hg2 with hg2
   exact hg2.symm
  subst hcur
  by_cases hroom:n+m<=cap
  ·have hfit:n*i.size+news.length<=cur2.size:=by rw [hl,hcs,<-Nat.add_mul];exact Nat.mul_le_mul_right _ hroom
   have hr:=run_append_room (P:=P) w t ty e i ht hi g n cap cur2 hg a m c news hl hnews h1 hroom hfit
   refine⟨_,_,hr,⟨hlen,.inr ⟨g,cap,_,rfl,hbg,setRow_heap w g cur2 _ e _ hg,hroom,hcm,?_,?_⟩⟩,⟨rfl,rfl,rfl,by simp,λk _ hk=>setRow_other w g k _ (λe=>hk (by simp [Value.ownBlock,e]))⟩,Or.inl rfl,?_⟩
   ·simp only [List.size_toArray,List.length_append,List.length_take,List.length_drop,Array.length_toList]
    omega
   ·rw [htake,<-hlen]
    exact List.take_left
   ·intro g' hg'
    simp [Value.ownBlock] at hg'
    subst hg'
    refine⟨_,_,setRow_heap w g cur2 _ e _ hg,λu hu=>?_⟩
    rw [List.mem_append,List.mem_append] at hu
    rcases hu with(hu|hu)|hu
    ·exact hcn u (List.mem_of_mem_take hu)
    ·exact hnn u hu
    ·exact hcn u (List.mem_of_mem_drop hu)
  ·have holds:∀j u,xs[j]?=some u->w.cell? ((⟨g,0,none⟩:Addr).add j)=some u:=hown.cells (g:=g) rfl
   have hr:=run_append_grow (P:=P) w t ty e i z ht hi hz ⟨g,0,none⟩ n cap xs hown.1 holds a m c news hl hnews (by omega) (by omega) (growslice_fits (by omega) hbytes)
   have hxs:∀u ∈ xs,zcf u:=λu hu=>hcn u (List.mem_of_mem_take (by rw [htake];exact hu))
   have hgr:=grown cap (by omega) hxs (Value.ownBlock (.slice (some ⟨g,0,none⟩) n cap))
   exact⟨_,_,hr,hgr.1,hgr.2.1,Or.inr rfl,hgr.2.2⟩
theorem zcx {ops:Array Oper}{rest:List Oper}{o:Oper}{a:Act}{Q:Exit->Act->World->Prop}(hgd:o.guard=none)(s x:Operand)(t:TypeId)
  (ho:o.op=.call {callee:=.builtin .append,args:=#[s,x],argTypes:=#[t,t]})
  (base:Nat) (e:TypeId) (i:TypeInfo) (z:Value) (size bytes:Nat) (ht:P.underlying t=some (.slice e)) (hi:P.info? e=some i) (hz:i.zero=some z)
  (hsize:i.size=size) (hby:i.bytes=bytes) (hzs:z.cells.size=size) (hsz:0<size)
  (v:Value) (n:Nat) (xs:List Value) (hs:a.eval s=v) (hown:w.ownsRow base e size v n xs)
  (ad:Addr) (m c:Nat) (news:List Value) (hx:a.eval x=.slice (some ad) m c) (hl:news.length=m*size) (hnews:∀j u,news[j]?=some u->w.cell? (ad.add j)=some u) (h1:∀u ∈ news,u.oneCell'=true)
  (h63:n+m<=maxLen) (hbytes:(n+m)*bytes<=140737488355328) (hbase:base<=w.heap.size)
  (hv:zbI w v) (hzn:∀u ∈ z.cells.toList,zcf u) (hnn:∀u ∈ news,zcf u)
  (h:∀v' w',w'.ownsRow base e size v' (n+m) (xs++news)->w.grownBy w' v.ownBlock->(v'.ownBlock=v.ownBlock\/v'.ownBlock=some w.heap.size)->zbI w' v'->wpList P ops Q rest (a.put o.dst v') w'):
  wpList P ops Q (o::rest) a w:=by
 refine wpList_plain hgd λK hK=>?_
 obtain⟨v',w',hr,h2,h3,h4,h5⟩:=zfV (P:=P) w base t o.type e i z size bytes ht hi hz hsize hby hzs hsz v n xs hown ad m c news hl hnews h1 h63 hbytes hbase hv hzn hnn
 unfold Oper.wp execOp
 simp only [ho,resolve,invoke,builtin,Sem.run_bind,Sem.run_pure,Result.andThen_ok,List.map_toArray,List.map_cons,List.map_nil,hs,hx,hr]
 exact hK _ _ (h v' w' h2 h3 h4 h5)
end
theorem zbI.blk {w:World}{v:Value}{g:Nat}(h:zbI w v)(hg:v.ownBlock=some g):∃(t:TypeId) (cs:Array Value),Blk w g t cs/\∀u ∈ cs.toList,zcf u:=by
 obtain⟨cur,e,h1,h2⟩:=h g hg
 exact⟨e,cur,h1,h2⟩
theorem vec_offS {w w':World}{A:oA9}{n c g:Nat}{xs:List Rat}{t:TypeId}{cs:Array Value}(h:zaC w A n c xs)(hk:Blk w g t cs)(hs:∀u ∈ cs.toList,zcf u)(ho:zbe g w w'):zaC w' A n c xs:=by
 refine⟨h.len,h.fits,h.most,λi x hi=>?_⟩
 obtain⟨ad,b,B,m,d,F,u,v,e,h1,h2,h3,h4,h5⟩:=h.num i x hi
 have hne:ad.block≠g:=λhg=>by
  have hb:(ad.add (i*3)).block=g:=by rw [zao];exact hg
  generalize ad.add (i*3)=q at hb h2
  obtain⟨bk,off,pr⟩:=q
  simp only at hb
  subst hb
  unfold Blk at hk
  cases pr with
  |none=>
    rw [show w.cell? ⟨bk,off,none⟩=cs[off]? from cell_of_row w bk off _ t (0,0) hk,<-Array.getElem?_toList] at h2
    obtain⟨A9,n9,c9,e9⟩:=hs _ (List.mem_of_getElem? h2)
    cases e9
  |some q=>simp [World.cell?,hk] at h2
 have hnu:NoU cs:=λq hq k z e9=>by
  obtain⟨A9,n9,c9,e8⟩:=hs q hq
  rw [e8] at e9
  cases e9
 have hc:∀j,w'.cell? (ad.add j)=w.cell? (ad.add j):=λj=>ho.2 _ (by rw [zao];exact h1) (by rw [zao];exact hne)
 exact⟨ad,b,B,m,d,F,u,v,e,Nat.lt_of_lt_of_le h1 ho.1,(hc _).trans h2,(hc _).trans h3,(hc _).trans h4,zaf.offg h5 hk hnu ho⟩
theorem zjU {w w':World}{v:Value}{A:oA9}{n c:Nat}{xs:List Rat}(h:zaC w A n c xs)(hg:w.grownBy w' v.ownBlock)(hn:zbI w v):zaC w' A n c xs:=by
 cases hv:v.ownBlock with
 |none=>rw [hv] at hg;exact h.keep (zbj hg)
 |some g=>
   rw [hv] at hg
   obtain⟨t,cs,hk,hc⟩:=hn.blk hv
   exact vec_offS h hk hc (zbe.of_grown hg)
structure zcI (w:World)(base:Nat)(v:Value)(Ls:List (List Rat))(vs:List Value):Prop where
 own:w.ownsRow base 71 1 v Ls.length vs
 sl:zbI w v
 num:∀(i:Nat) (L:List Rat),Ls[i]?=some L->∃(B:oA9) (d:Nat),vs[i]?=some (Value.slice B L.length d)/\zaC w B L.length d L
theorem zcI.nil (w:World)(base:Nat):zcI w base (.slice none 0 0) [] []:=⟨World.ownsRow_nil _ _ _ _,zbI.nil _ _,λi L hi=>by simp at hi⟩
theorem zcI.len {w:World}{base:Nat}{v:Value}{Ls:List (List Rat)}{vs:List Value}(h:zcI w base v Ls vs):vs.length=Ls.length:=by have:=h.own.1;omega
theorem zcI.shape {w:World}{base n:Nat}{v:Value}{Ls:List (List Rat)}{vs:List Value}(h:zcI w base v Ls vs)(hn:Ls.length=n):∃A c,v=.slice A n c/\zgU w A n Ls:=by
 subst hn
 obtain⟨A,c,e,h1,h2,h3⟩:=zar.of_grown_own h.own
 refine⟨A,c,e,rfl,λi L hi=>?_⟩
 obtain⟨B,d,hv,hw⟩:=h.num i L hi
 have hlt:=(List.getElem?_eq_some_iff.1 hi).1
 obtain⟨ad,ea,hb,hc⟩:=h3.2 (by omega)
 exact⟨ad,B,d,ea,hb,hc i _ hv,hw⟩
theorem zcI.below {w w':World}{base:Nat}{v:Value}{Ls:List (List Rat)}{vs:List Value}(h:zcI w base v Ls vs)(hb:Below w.heap.size w w'):zcI w' base v Ls vs:=by
 refine⟨⟨h.own.1,?_⟩,h.sl.below hb,λi L hi=>?_⟩
 ·rcases h.own.2 with h1|⟨g,cap,cur,e1,e2,e3,e4⟩
  ·exact .inl h1
  ·exact .inr ⟨g,cap,cur,e1,e2,(hb.block g (Blk.lt (t:=71) (cs:=cur) e3)).trans e3,e4⟩
 ·obtain⟨B,d,hv,hw⟩:=h.num i L hi
  exact⟨B,d,hv,hw.keep hb⟩
theorem zcI.grow {w w':World}{base n:Nat}{v v':Value}{Ls:List (List Rat)}{vs:List Value}{L:List Rat}{B:oA9}{d:Nat}(h:zcI w base v Ls vs)(hx:zaC w B L.length d L)
  (ho:w'.ownsRow base 71 1 v' n (vs++[.slice B L.length d])) (hn:n=Ls.length+1) (hg:w.grownBy w' v.ownBlock) (hs:zbI w' v'):zcI w' base v' (Ls++[L]) (vs++[.slice B L.length d]):=by
 have hl:=h.len
 refine⟨by rw [List.length_append,List.length_singleton,<-hn];exact ho,hs,λi M hi=>?_⟩
 by_cases hlt:i<Ls.length
 ·rw [List.getElem?_append_left hlt] at hi
  obtain⟨C,e,hv,hw⟩:=h.num i M hi
  exact⟨C,e,by rw [List.getElem?_append_left (by omega)];exact hv,zjU hw hg h.sl⟩
 ·rw [List.getElem?_append_right (by omega)] at hi
  have hi2:i=Ls.length:=by
   have:=(List.getElem?_eq_some_iff.1 hi).1
   simp at this
   omega
  subst hi2
  obtain rfl:L=M:=by
   rw [Nat.sub_self] at hi
   injection hi
  exact⟨B,d,by rw [List.getElem?_append_right (by omega),hl,Nat.sub_self];rfl,zjU hx hg h.sl⟩
theorem zfD:(Tryz.prog.info? 71).map (λi=>(i.zero,i.size,i.bytes))=some (some (.slice none 0 0),1,24):=by kernel_rfl
theorem zgU.get {w:World}{A:oA9}{n:Nat}{Ls:List (List Rat)}(h:zgU w A n Ls){i m:Nat}(hi:i<n)(hm:(Ls.getD i []).length=m):∃(ad:Addr) (B:oA9) (d:Nat),A=some ad/\w.cell? (ad.add i)=some (.slice B m d)/\zaC w B m d (Ls.getD i []):=by
 have hl:=h.len
 obtain⟨ad,B,d,e,_,h1,h2⟩:=h.num i _ (zbV (d:=[]) (by omega))
 rw [hm] at h1 h2
 exact⟨ad,B,d,e,h1,h2⟩
abbrev RowV:=Nat->oA9×Nat×Nat×List (Int×Int)
def LI (K:Nat)(x:Rat):Prop:=∃z:Int,x=(z:Rat)/\Sz K z.natAbs
theorem LI.up {K K':Nat}{x:Rat}(h:LI K x)(hk:K<=K'):LI K' x:=by
 obtain⟨z,e,hz⟩:=h;exact⟨z,e,hz.up hk⟩
theorem LI.one:LI 1 1:=⟨1,by decide+kernel,by show 1<18446744073709551616^1;rw [Nat.pow_one];decide⟩
theorem LI.zero (K:Nat):LI K 0:=⟨0,by decide+kernel,Nat.pow_pos (by decide)⟩
theorem LI.mul {K K':Nat}{x y:Rat}(h:LI K x)(k:LI K' y):LI (K+K') (x*y):=by
 obtain⟨z,rfl,hz⟩:=h;obtain⟨t,rfl,ht⟩:=k
 exact⟨z*t,(Rat.intCast_mul z t).symm,by rw [Int.natAbs_mul];exact hz.mul ht⟩
theorem LI.neg {K:Nat}{x:Rat}(h:LI K x):LI K (-x):=by
 obtain⟨z,rfl,hz⟩:=h;exact⟨-z,(Rat.intCast_neg z).symm,by rw [Int.natAbs_neg];exact hz⟩
theorem LI.add {K:Nat}{x y:Rat}(h:LI K x)(k:LI K y):LI (K+1) (x+y):=by
 obtain⟨z,rfl,hz⟩:=h;obtain⟨t,rfl,ht⟩:=k
 refine⟨z+t,(Rat.intCast_add z t).symm,?_⟩
 have:=Int.natAbs_add_le z t
 unfold Sz at*
 rw [Nat.pow_succ]
 omega
theorem LI.sub {K:Nat}{x y:Rat}(h:LI K x)(k:LI K y):LI (K+1) (x - y):=by
 rw [Rat.sub_eq_add_neg];exact h.add k.neg
theorem LI.sum {K k:Nat}{f:Nat->Rat}(hk:k<=18446744073709551616)(h:∀i,i<k->LI K (f i)):LI (K+1) (zaE k f):=by
 have:∀q,q<=k->∃z:Int,zaE q f=(z:Rat)/\z.natAbs<=q*(18446744073709551616^K - 1):=by
  intro q
  induction q with
  |zero=>intro _;exact⟨0,by rw [zhi];decide+kernel,by omega⟩
  |succ q ih=>
    intro hq
    obtain⟨z,e,hz⟩:=ih (by omega)
    obtain⟨t,e2,ht⟩:=h q (by omega)
    refine⟨z+t,by rw [zaP,e,e2,Rat.intCast_add],?_⟩
    have h1:=Int.natAbs_add_le z t
    unfold Sz at ht
    rw [Nat.succ_mul]
    omega
 obtain⟨z,e,hz⟩:=this k (Nat.le_refl _)
 refine⟨z,e,?_⟩
 unfold Sz
 rw [Nat.pow_succ,Nat.mul_comm]
 have h0:0<18446744073709551616^K:=Nat.pow_pos (by decide)
 refine Nat.lt_of_le_of_lt hz (Nat.lt_of_le_of_lt (Nat.mul_le_mul_right _ hk) ?_)
 exact Nat.mul_lt_mul_of_pos_left (by omega) (by decide)
theorem LI.sg_ {K c:Nat}{x:Rat}(h:LI K x):LI K (sg c*x):=by
 unfold sg
 split
 ·rw [Rat.one_mul];exact h
 ·rw [Rat.neg_mul,Rat.one_mul];exact h.neg
theorem LI.det_ {K:Nat}:∀{n:Nat} {M:Nat->Nat->Rat},n<=64->(∀i,i<n->∀j,j<n->LI K (M i j))->LI (1+n*(K+1)) (zbD n M)
 |0,_,_,_=>LI.one.up (by omega)
 |n+1,M,hn,h=>by
   rw [zcs]
   refine(LI.sum (K:=K+(1+n*(K+1))) (by omega) λc hc=>?_).up (by rw [Nat.succ_mul];omega)
   exact(LI.sg_ (h 0 (by omega) c hc)).mul (LI.det_ (by omega) λi hi j hj=>h (i+1) (by omega) _ (skp_lt hj))
theorem zcJ.lead_sz {n m c K:Nat}{a s:Nat->Nat->Rat}{ld:List Nat}{p:Rat}(h:zcJ n m c a s ld p)(hn:n<=64)(ha:∀i,i<n->∀j,j<m->LI K (a i j)):LI (1+64*(K+1)) p:=by
 have h1:=h.len
 rw [h.det]
 refine(LI.det_ (K:=K) (by omega) λi hi j hj=>ha i (by omega) _ ?_).up (Nat.add_le_add_left (Nat.mul_le_mul_right _ (by omega)) _)
 have:=h.lt j hj;have:=h.cm;omega
theorem zcJ.top_sz {n m c K:Nat}{a s:Nat->Nat->Rat}{ld:List Nat}{p:Rat}(h:zcJ n m c a s ld p)(hn:n<=64)(ha:∀i,i<n->∀j,j<m->LI K (a i j)){l j:Nat}(hl:l<ld.length)(hj:j<m):LI (1+64*(K+1)) (s l j):=by
 have h1:=h.len
 rw [h.col hl hj]
 refine(LI.det_ (K:=K) (by omega) λi hi j' hj'=>?_).up (Nat.add_le_add_left (Nat.mul_le_mul_right _ (by omega)) _)
 by_cases e:j'=l
 ·rw [e,zcd];exact ha i (by omega) j hj
 ·rw [zce _ e];refine ha i (by omega) _ ?_
  have:=h.lt j' hj';have:=h.cm;omega
theorem zcJ.sz {n m c K:Nat}{a s:Nat->Nat->Rat}{ld:List Nat}{p:Rat}(h:zcJ n m c a s ld p)(hn:n<=64)(ha:∀i,i<n->∀j,j<m->LI K (a i j)){i j:Nat}(hi:i<n)(hj:j<m):LI (67+65*K) (s i j):=by
 have h1:=h.len
 by_cases hl:i<ld.length
 ·exact(h.top_sz hn ha hl hj).up (by omega)
 ·have e:=h.back i hi j hj
  rw [if_pos (by omega)] at e
  have e2:s i j=p*a i j - zaE ld.length (λl=>a i (ld.getD l 0)*s l j):=by grind
  rw [e2]
  have b1:=(h.lead_sz hn ha).mul (ha i hi j hj)
  have b2:LI (K+(1+64*(K+1))+1) (zaE ld.length (λl=>a i (ld.getD l 0)*s l j)):=LI.sum (by omega) λl hl=>(ha i hi _ (by have:=h.lt l hl;have:=h.cm;omega)).mul (h.top_sz hn ha hl hj)
  exact((b1.up (K':=K+(1+64*(K+1))+1) (by omega)).sub b2).up (by omega)
theorem zcJ.lead_sz' {n m c K:Nat}{a s:Nat->Nat->Rat}{ld:List Nat}{p:Rat}(h:zcJ n m c a s ld p)(hn:n<=64)(ha:∀i,i<n->∀j,j<m->LI K (a i j)):LI (67+65*K) p:=(h.lead_sz hn ha).up (by omega)
inductive zid (n : Nat) (a0 : Nat → Nat → Rat) : (Nat → Nat → Rat) → Prop
 |refl:zid n a0 a0
 |sw {a r q}:zid n a0 a->r<q->q<n->zid n a0 (swp r q a)
theorem zid.li {n m K:Nat}{a0 a:Nat->Nat->Rat}(h:zid n a0 a)(h0:∀i,i<n->∀j,j<m->LI K (a0 i j)):∀i,i<n->∀j,j<m->LI K (a i j):=by
 induction h with
 |refl=>exact h0
 |sw h1 h2 h3 ih=>
   intro i hi j hj
   unfold swp
   split
   ·exact ih _ h3 j hj
   ·split
    ·exact(ih _ (by omega) j hj).neg
    ·exact ih i hi j hj
theorem zid.rows {n:Nat}{a0 a:Nat->Nat->Rat}(h:zid n a0 a):(∀i,i<n->∃i',i'<n/\∃e:Rat,e*e=1/\∀j,a i j=e*a0 i' j)/\(∀i,i<n->∃i',i'<n/\∃e:Rat,e*e=1/\∀j,a0 i j=e*a i' j):=by
 induction h with
 |refl=>exact⟨λi hi=>⟨i,hi,1,by decide+kernel,λj=>(Rat.one_mul _).symm⟩,λi hi=>⟨i,hi,1,by decide+kernel,λj=>(Rat.one_mul _).symm⟩⟩
 | @sw a r q h1 h2 h3 ih=>
   constructor
   ·intro i hi
    by_cases e1:i=r
    ·obtain⟨i',k1,e,k2,k3⟩:=ih.1 q h3
     exact⟨i',k1,e,k2,λj=>by unfold swp;rw [if_pos e1];exact k3 j⟩
    ·by_cases e2:i=q
     ·obtain⟨i',k1,e,k2,k3⟩:=ih.1 r (by omega)
      exact⟨i',k1,-e,by grind,λj=>by unfold swp;rw [if_neg e1,if_pos e2,k3 j,Rat.neg_mul]⟩
     ·obtain⟨i',k1,e,k2,k3⟩:=ih.1 i hi
      exact⟨i',k1,e,k2,λj=>by unfold swp;rw [if_neg e1,if_neg e2];exact k3 j⟩
   ·intro i hi
    obtain⟨i',k1,e,k2,k3⟩:=ih.2 i hi
    by_cases e1:i'=q
    ·exact⟨r,by omega,e,k2,λj=>by unfold swp;rw [if_pos rfl,k3 j,e1]⟩
    ·by_cases e2:i'=r
     ·exact⟨q,h3,-e,by grind,λj=>by unfold swp;rw [if_neg (by omega),if_pos rfl,k3 j,e2];grind⟩
     ·exact⟨i',k1,e,k2,λj=>by unfold swp;rw [if_neg e2,if_neg e1];exact k3 j⟩
structure ESt where
 S:List (List Rat)
 ld:List Nat
 p:Rat
def swpL (r q:Nat)(S:List (List Rat)):List (List Rat):=(S.set r (S.getD q [])).set q (zaI (-1) (S.getD r []))
def zcZ (p:Rat)(row by_:List Rat)(c:Nat):List Rat:=zaI p⁻¹ (zeZ (zaI (by_.getD c 0) row) (-row.getD c 0) by_)
def zgV (r c:Nat)(p:Rat)(S:List (List Rat)):List (List Rat):=S.mapIdx λi row=>if i=r then row else zcZ p row (S.getD r []) c
def zbc (c:Nat)(e:ESt):Nat:=(e.S.drop e.ld.length).findIdx λrow=> !decide (row.getD c 0=0)
def zfl (c:Nat)(e:ESt):List (List Rat):=if zbc c e=0 then e.S else swpL e.ld.length (e.ld.length+zbc c e) e.S
def zfj (c:Nat)(e:ESt):ESt:=
 if zbc c e<e.S.length - e.ld.length then⟨zgV e.ld.length c e.p (zfl c e),e.ld++[c],atM (zfl c e) e.ld.length c⟩ else e
theorem zfe {S:List (List Rat)}{r i:Nat}(v:List Rat)(h:i≠r):(S.set r v).getD i []=S.getD i []:=by
 rw [List.getD_eq_getElem?_getD,List.getElem?_set_ne (Ne.symm h),<-List.getD_eq_getElem?_getD]
theorem zhq {S:List (List Rat)}{r:Nat}(v:List Rat)(h:r<S.length):(S.set r v).getD r []=v:=by
 rw [List.getD_eq_getElem?_getD,List.getElem?_set_self h];rfl
theorem zel {r:Rat}{xs:List Rat}(j:Nat):(zaI r xs).getD j 0=r*xs.getD j 0:=by
 unfold zaI
 rw [List.getD_eq_getElem?_getD,List.getD_eq_getElem?_getD,List.getElem?_map]
 cases xs[j]? with
 |none=>exact(Rat.mul_zero r).symm
 |some x=>rfl
theorem zlg {r:Rat}{xs ys:List Rat}{j:Nat}(hx:j<xs.length)(hy:j<ys.length):(zeZ xs r ys).getD j 0=xs.getD j 0+r*ys.getD j 0:=by
 unfold zeZ
 rw [List.getD_eq_getElem?_getD,List.getD_eq_getElem?_getD,List.getD_eq_getElem?_getD,List.getElem?_zipWith,List.getElem?_eq_getElem hx,List.getElem?_eq_getElem hy]
 rfl
theorem zpG {S:List (List Rat)}{n m r q:Nat}(h:zaW S n m)(hr:r<n)(hq:q<n):zaW (swpL r q S) n m:=by
 refine⟨by unfold swpL;rw [List.length_set,List.length_set];exact h.rows,λL hL=>?_⟩
 unfold swpL at hL
 rcases List.mem_or_eq_of_mem_set hL with hL|rfl
 ·rcases List.mem_or_eq_of_mem_set hL with hL|rfl
  ·exact h.cols L hL
  ·exact h.row hq
 ·unfold zaI;rw [List.length_map];exact h.row hr
theorem swpL_at {S:List (List Rat)}{r q:Nat}(hr:r<S.length)(hq:q<S.length)(hne:r≠q):atM (swpL r q S)=swp r q (atM S):=by
 funext i j
 unfold atM swpL swp
 by_cases e1:i=r
 ·subst e1
  rw [if_pos rfl,zfe _ hne,zhq _ hr]
 ·rw [if_neg e1]
  by_cases e2:i=q
  ·subst e2
   rw [if_pos rfl,zhq _ (by rw [List.length_set];exact hq),zel,Rat.neg_mul,Rat.one_mul]
  ·rw [if_neg e2,zfe _ e2,zfe _ e1]
theorem zih {p:Rat}{row by_:List Rat}{c m:Nat}(h:row.length=m)(k:by_.length=m):(zcZ p row by_ c).length=m:=by
 unfold zcZ zaI zeZ
 rw [List.length_map,List.length_zipWith,List.length_map,h,k,Nat.min_self]
theorem zoD {S:List (List Rat)}{n m r c:Nat}{p:Rat}(h:zaW S n m)(hr:r<n):zaW (zgV r c p S) n m:=by
 refine⟨by unfold zgV;rw [List.length_mapIdx];exact h.rows,λL hL=>?_⟩
 unfold zgV at hL
 obtain⟨i,hi,rfl⟩:=List.mem_mapIdx.1 hL
 split
 ·exact h.cols _ (List.getElem_mem _)
 ·exact zih (h.cols _ (List.getElem_mem _)) (h.row hr)
theorem zll {S:List (List Rat)}{r c i:Nat}{p:Rat}(hi:i<S.length):(zgV r c p S).getD i []=if i=r then S.getD i [] else zcZ p (S.getD i []) (S.getD r []) c:=by
 unfold zgV
 rw [List.getD_eq_getElem?_getD,List.getElem?_mapIdx,List.getElem?_eq_getElem hi]
 show(if i=r then _ else _)=_
 rw [show S.getD i []=S[i] by rw [List.getD_eq_getElem?_getD,List.getElem?_eq_getElem hi];rfl]
theorem clrL_at {S:List (List Rat)}{n m r c i j:Nat}{p:Rat}(h:zaW S n m)(hr:r<n)(hi:i<n)(hj:j<m):atM (zgV r c p S) i j=clr r c p (atM S) i j:=by
 unfold atM clr
 rw [zll (by rw [h.rows];exact hi)]
 by_cases e:i=r
 ·rw [if_pos e,if_pos e,e]
 ·rw [if_neg e,if_neg e]
  unfold zcZ
  rw [zel,zlg (by unfold zaI;rw [List.length_map,h.row hi];exact hj) (by rw [h.row hr];exact hj),zel]
theorem zcJ.congr {n m c:Nat}{a s s':Nat->Nat->Rat}{ld:List Nat}{p:Rat}(h:zcJ n m c a s ld p)(e:∀i,i<n->∀j,j<m->s' i j=s i j):zcJ n m c a s' ld p:=
 have hk:=h.len
 have hm:=h.cm
 { h with
  piv:=λl hl i hi=>by rw [e i hi _ (by have:=h.lt l hl;omega)];exact h.piv l hl i hi
  low:=λi h1 h2 j hj=>by rw [e i h2 j (by omega)];exact h.low i h1 h2 j hj
  fore:=λl hl j hj=>by rw [e l (by omega) j (by have:=h.lt l hl;omega)];exact h.fore l hl j hj
  back:=λi hi j hj=>by
   rw [h.back i hi j hj,e i hi j hj]
   congr 1
   exact zau λl hl=>by rw [e l (by omega) j hj]}
structure EOk (n m c:Nat)(a0:Nat->Nat->Rat)(e:ESt):Prop where
 dims:zaW e.S n m
 inv:∃a,zid n a0 a/\zcJ n m c a (atM e.S) e.ld e.p
theorem EOk.start {n m:Nat}{S:List (List Rat)}(h:zaW S n m):EOk n m 0 (atM S) ⟨S,[],1⟩:=⟨h,_,.refl,zcJ.start _ _ _⟩
theorem zfR {S:List (List Rat)}{r i:Nat}(h:i<(S.drop r).length):(S.drop r)[i]=S.getD (r+i) []:=by
 rw [List.length_drop] at h
 rw [List.getElem_drop,List.getD_eq_getElem?_getD,List.getElem?_eq_getElem (by omega)];rfl
theorem zlh {c:Nat}{e:ESt}(h:¬ zbc c e<e.S.length - e.ld.length){i:Nat}(h1:e.ld.length<=i)(h2:i<e.S.length):atM e.S i c=0:=by
 have hl:(e.S.drop e.ld.length).length=e.S.length - e.ld.length:=List.length_drop
 have:=List.not_of_lt_findIdx (p:=λrow:List Rat=> !decide (row.getD c 0=0)) (xs:=e.S.drop e.ld.length) (i:=i - e.ld.length) (by show _<zbc c e;omega)
 rw [zfR (by omega),show e.ld.length+(i - e.ld.length)=i by omega] at this
 simpa [atM] using this
theorem zli {c:Nat}{e:ESt}(h:zbc c e<e.S.length - e.ld.length):atM e.S (e.ld.length+zbc c e) c≠0:=by
 have hl:(e.S.drop e.ld.length).length=e.S.length - e.ld.length:=List.length_drop
 have:=List.findIdx_getElem (p:=λrow:List Rat=> !decide (row.getD c 0=0)) (xs:=e.S.drop e.ld.length) (w:=by show zbc c e<_;omega)
 rw [zfR (by show zbc c e<_;omega)] at this
 simpa [atM,zbc] using this
theorem EOk.pick {n m c:Nat}{a0:Nat->Nat->Rat}{e:ESt}(h:EOk n m c a0 e)(hb:zbc c e<n - e.ld.length):zaW (zfl c e) n m/\(∃a,zid n a0 a/\zcJ n m c a (atM (zfl c e)) e.ld e.p)/\atM (zfl c e) e.ld.length c≠0:=by
 obtain⟨hd,a,hs,hi⟩:=h
 have hb':zbc c e<e.S.length - e.ld.length:=by rw [hd.rows];exact hb
 have hne:=zli hb'
 unfold zfl
 by_cases h0:zbc c e=0
 ·rw [if_pos h0];rw [h0,Nat.add_zero] at hne;exact⟨hd,⟨a,hs,hi⟩,hne⟩
 ·rw [if_neg h0]
  have hr:=hd.rows
  have e1:=swpL_at (S:=e.S) (r:=e.ld.length) (q:=e.ld.length+zbc c e) (by omega) (by omega) (by omega)
  refine⟨zpG hd (by omega) (by omega),⟨swp e.ld.length (e.ld.length+zbc c e) a,hs.sw (by omega) (by omega),by rw [e1];exact hi.swap (by omega) (by omega)⟩,?_⟩
  rw [e1]
  unfold swp
  rw [if_pos rfl];exact hne
theorem EOk.next {n m c:Nat}{a0:Nat->Nat->Rat}{e:ESt}(h:EOk n m c a0 e)(hc:c<m):EOk n m (c+1) a0 (zfj c e):=by
 have hr:=h.dims.rows
 unfold zfj
 by_cases hb:zbc c e<e.S.length - e.ld.length
 ·rw [if_pos hb]
  obtain⟨hd,⟨a,hs,hi⟩,hne⟩:=h.pick (by rw [<-hr];exact hb)
  exact⟨zoD hd (by omega),a,hs,(hi.clear hc (by omega) hne).congr λi hi' j hj=>clrL_at hd (by omega) hi' hj⟩
 ·rw [if_neg hb]
  obtain⟨hd,a,hs,hi⟩:=h
  exact⟨hd,a,hs,hi.skip hc λi h1 h2=>zlh hb h1 (by omega)⟩
def zeO (c:Nat)(S:List (List Rat)):ESt:=(List.range c).foldl (λe c=>zfj c e) ⟨S,[],1⟩
theorem zin (c:Nat)(S:List (List Rat)):zeO (c+1) S=zfj c (zeO c S):=by
 unfold zeO;rw [List.range_succ,List.foldl_append];rfl
theorem zhN {n m:Nat}{S:List (List Rat)}(h:zaW S n m):∀{c:Nat},c<=m->EOk n m c (atM S) (zeO c S)
 |0,_=>EOk.start h
 |c+1,hc=>by rw [zin];exact(zhN h (by omega)).next (by omega)
