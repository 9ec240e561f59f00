/- What this claim leans on. -/
import Derived.Test.YtghpdeciaaagnaaGreatDoorIS8Sum
namespace Go.Proofs.YtghpdeciaaagnaaGreatDoor
open Go Go.RowKit
set_option maxHeartbeats 16000000
set_option linter.unusedVariables false
set_option linter.unusedSimpArgs false
def zcr (u:Value):Prop:=∃A n c,u=.slice A n c
def zbZ (w:World)(v:Value):Prop:=∀g,v.ownBlock=some g->∃(cur:Array Value) (e:TypeId),w.heap[g]?=some (.cells cur e (0,0))/\∀u ∈ cur.toList,zcr u
theorem zbZ.nil (w:World)(c:Nat):zbZ w (.slice none 0 c):=λg h=>by simp [Value.ownBlock] at h
theorem zbZ.block {w w':World}{v:Value}(h:zbZ w v)(hg:∀g,v.ownBlock=some g->w'.heap[g]?=w.heap[g]?):zbZ w' v:=λg e=>by
 obtain⟨cur,t,h1,h2⟩:=h g e
 exact⟨cur,t,(hg g e).trans h1,h2⟩
theorem zbZ.below {w w':World}{v:Value}(h:zbZ w v)(hb:Below w.heap.size w w'):zbZ w' v:=λg e=>by
 obtain⟨cur,t,h1,h2⟩:=h g e
 exact⟨cur,t,(hb.block g (Array.getElem?_eq_some_iff.1 h1).1).trans h1,h2⟩
theorem zfZ {z:Array Value}{k:Nat}{u:Value}(hz:0<z.size)(hu:u ∈(Builtin.zeroCells z k).toList):u ∈ z.toList:=by
 unfold Builtin.zeroCells at hu
 rw [Array.mem_toList_iff,Array.mem_map] at hu
 obtain⟨i,_,rfl⟩:=hu
 have hlt:i%z.size<z.size:=Nat.mod_lt _ hz
 rw [getElem!_pos z (i%z.size) hlt,Array.mem_toList_iff]
 exact Array.getElem_mem hlt
section
variable {P:Program}(w:World)
theorem zgz (base:Nat)(t ty e:TypeId)(i:TypeInfo)(z:Value)(size bytes:Nat)(ht:P.underlying t=some (.slice e))(hi:P.info? e=some i)(hz:i.zero=some z)
  (hsize:i.size=size) (hby:i.bytes=bytes) (hzs:z.cells.size=size) (hsz:0<size)
  (v:Value) (n:Nat) (xs:List Value) (hown:w.ownsRow base e size v n xs)
  (a:Addr) (m c:Nat) (news:List Value) (hl:news.length=m*size) (hnews:∀j u,news[j]?=some u->w.cell? (a.add j)=some u) (h1:∀u ∈ news,u.oneCell'=true)
  (h63:n+m<=maxLen) (hbytes:(n+m)*bytes<=140737488355328) (hbase:base<=w.heap.size)
  (hv:zbZ w v) (hzn:∀u ∈ z.cells.toList,zcr u) (hnn:∀u ∈ news,zcr u):
  ∃ v' w',(Builtin.append_ #[t,t] ty #[v,.slice (some a) m c]).run P w = .ok v' w' ∧ w'.ownsRow base e size v' (n + m) (xs ++ news) ∧ w.grownBy w' v.ownBlock ∧
   (v'.ownBlock=v.ownBlock\/v'.ownBlock=some w.heap.size)/\zbZ w' v':=by
 subst hsize
 subst hby
 have hsmall:n+m<=9223372036854775807:=by simp only [maxLen] at h63;omega
 have hlen:(xs++news).length=(n+m)*i.size:=by rw [List.length_append,hown.1,hl,Nat.add_mul]
 have grown : ∀ (old : Nat),old < n + m → (∀ u ∈ xs,zcr u) → ∀ (row : Option Nat),
   (w.drew.alloc (.cells (xs.toArray ++ news.toArray ++ Builtin.zeroCells z.cells (grownCap w (n + m) old e - (n + m))) e)).ownsRow base e i.size
     (.slice (some ⟨w.heap.size,0,none⟩) (n+m) (grownCap w (n+m) old e)) (n+m) (xs++news)/\
   w.grownBy (w.drew.alloc (.cells (xs.toArray++news.toArray++Builtin.zeroCells z.cells (grownCap w (n+m) old e - (n+m))) e)) row/\
   zbZ (w.drew.alloc (.cells (xs.toArray++news.toArray++Builtin.zeroCells z.cells (grownCap w (n+m) old e - (n+m))) e)) (.slice (some ⟨w.heap.size,0,none⟩) (n+m) (grownCap w (n+m) old e)):=by
  intro old ho hxs row
  have hge:=grownCap_ge w (n+m) old e
  have hcm:grownCap w (n+m) old e<=maxLen:=grownCap_le_maxLen w (n+m) old e h63
  refine⟨⟨hlen,.inr ⟨w.heap.size,_,_,rfl,hbase,heap_alloc_new w.drew _,hge,hcm,?_,?_⟩⟩,⟨rfl,rfl,rfl,by simp,λk hk _=>heap_alloc_old w.drew _ hk⟩,?_⟩
  ·simp only [Array.size_append,List.size_toArray,size_zeroCells,hzs,hown.1,hl,<-Nat.add_mul]
   congr 1
   omega
  ·simp only [Array.toList_append,List.append_assoc]
   rw [<-List.append_assoc,<-hlen]
   exact List.take_left
  ·intro g hg
   simp [Value.ownBlock] at hg
   subst hg
   refine⟨_,_,heap_alloc_new w.drew _,λu hu=>?_⟩
   simp only [Array.toList_append,List.mem_append] at hu
   rcases hu with(hu|hu)|hu
   ·exact hxs u hu
   ·exact hnn u hu
   ·exact hzn u (zfZ (by omega) hu)
 rcases hown.2 with⟨rfl,rfl⟩|⟨g,cap,cur,rfl,hbg,hg,hnc,hcm,hcs,htake⟩
 ·have hx:xs=[]:=List.eq_nil_of_length_eq_zero (by simpa using hown.1)
  subst hx
  by_cases hm:m=0
  ·subst hm
   have hn:news=[]:=List.eq_nil_of_length_eq_zero (by simpa using hl)
   subst hn
   refine⟨.slice none 0 0,w,?_,World.ownsRow_nil w base e i.size,⟨rfl,rfl,rfl,Nat.le_refl _,λ_ _ _=>rfl⟩,Or.inl rfl,zbZ.nil _ _⟩
   simp [Builtin.append_,run_underlying ht,sizeOf,typeInfo,hi,Builtin.lenOf,Builtin.firstCells,loadCells,loadCellsFrom]
  ·have hr:=run_append_nil (P:=P) w t ty e i z ht hi hz a m c news hl hnews (by omega) (by omega) (by have hb:=hbytes;simp only [Nat.zero_add] at hb;omega)
   have hgr:=grown 0 (by omega) (λu hu=>by cases hu) (Value.ownBlock (.slice none 0 0))
   simp only [Nat.zero_add,List.nil_append,Array.empty_append] at hgr⊢
   exact⟨_,_,hr,hgr.1,hgr.2.1,Or.inr rfl,hgr.2.2⟩
 ·obtain⟨cur2,e2,hg2,hcn⟩:=hv g rfl
  have hcur:cur2=cur:=by
   rw [hg] at hg2
   injection hg2 with hg2
   injection hg2 with hg2
   exact hg2.symm
  subst hcur
  by_cases hroom:n+m<=cap
  ·have hfit:n*i.size+news.length<=cur2.size:=by rw [hl,hcs,<-Nat.add_mul];exact Nat.mul_le_mul_right _ hroom
   have hr:=run_append_room (P:=P) w t ty e i ht hi g n cap cur2 hg a m c news hl hnews h1 hroom hfit
   refine⟨_,_,hr,⟨hlen,.inr ⟨g,cap,_,rfl,hbg,setRow_heap w g cur2 _ e _ hg,hroom,hcm,?_,?_⟩⟩,⟨rfl,rfl,rfl,by simp,λk _ hk=>setRow_other w g k _ (λe=>hk (by simp [Value.ownBlock,e]))⟩,Or.inl rfl,?_⟩
   ·simp only [List.size_toArray,List.length_append,List.length_take,List.length_drop,Array.length_toList]
    omega
   ·rw [htake,<-hlen]
    exact List.take_left
   ·intro g' hg'
    simp [Value.ownBlock] at hg'
    subst hg'
    refine⟨_,_,setRow_heap w g cur2 _ e _ hg,λu hu=>?_⟩
    rw [List.mem_append,List.mem_append] at hu
    rcases hu with(hu|hu)|hu
    ·exact hcn u (List.mem_of_mem_take hu)
    ·exact hnn u hu
    ·exact hcn u (List.mem_of_mem_drop hu)
  ·have holds:∀j u,xs[j]?=some u->w.cell? ((⟨g,0,none⟩:Addr).add j)=some u:=hown.cells (g:=g) rfl
   have hr:=run_append_grow (P:=P) w t ty e i z ht hi hz ⟨g,0,none⟩ n cap xs hown.1 holds a m c news hl hnews (by omega) (by omega) (growslice_fits (by omega) hbytes)
   have hxs:∀u ∈ xs,zcr u:=λu hu=>hcn u (List.mem_of_mem_take (by rw [htake];exact hu))
   have hgr:=grown cap (by omega) hxs (Value.ownBlock (.slice (some ⟨g,0,none⟩) n cap))
   exact⟨_,_,hr,hgr.1,hgr.2.1,Or.inr rfl,hgr.2.2⟩
theorem zcF {ops:Array Oper}{rest:List Oper}{o:Oper}{a:Act}{Q:Exit->Act->World->Prop}(hgd:o.guard=none)(s x:Operand)(t:TypeId)
  (ho:o.op=.call {callee:=.builtin .append,args:=#[s,x],argTypes:=#[t,t]})
  (base:Nat) (e:TypeId) (i:TypeInfo) (z:Value) (size bytes:Nat) (ht:P.underlying t=some (.slice e)) (hi:P.info? e=some i) (hz:i.zero=some z)
  (hsize:i.size=size) (hby:i.bytes=bytes) (hzs:z.cells.size=size) (hsz:0<size)
  (v:Value) (n:Nat) (xs:List Value) (hs:a.eval s=v) (hown:w.ownsRow base e size v n xs)
  (ad:Addr) (m c:Nat) (news:List Value) (hx:a.eval x=.slice (some ad) m c) (hl:news.length=m*size) (hnews:∀j u,news[j]?=some u->w.cell? (ad.add j)=some u) (h1:∀u ∈ news,u.oneCell'=true)
  (h63:n+m<=maxLen) (hbytes:(n+m)*bytes<=140737488355328) (hbase:base<=w.heap.size)
  (hv:zbZ w v) (hzn:∀u ∈ z.cells.toList,zcr u) (hnn:∀u ∈ news,zcr u)
  (h:∀v' w',w'.ownsRow base e size v' (n+m) (xs++news)->w.grownBy w' v.ownBlock->(v'.ownBlock=v.ownBlock\/v'.ownBlock=some w.heap.size)->zbZ w' v'->wpList P ops Q rest (a.put o.dst v') w'):
  wpList P ops Q (o::rest) a w:=by
 refine wpList_plain hgd λK hK=>?_
 obtain⟨v',w',hr,h2,h3,h4,h5⟩:=zgz (P:=P) w base t o.type e i z size bytes ht hi hz hsize hby hzs hsz v n xs hown ad m c news hl hnews h1 h63 hbytes hbase hv hzn hnn
 unfold Oper.wp execOp
 simp only [ho,resolve,invoke,builtin,Sem.run_bind,Sem.run_pure,Result.andThen_ok,List.map_toArray,List.map_cons,List.map_nil,hs,hx,hr]
 exact hK _ _ (h v' w' h2 h3 h4 h5)
end
theorem zbZ.blk {w:World}{v:Value}{g:Nat}(h:zbZ w v)(hg:v.ownBlock=some g):∃(t:TypeId) (cs:Array Value),Blk w g t cs/\∀u ∈ cs.toList,zcr u:=by
 obtain⟨cur,e,h1,h2⟩:=h g hg
 exact⟨e,cur,h1,h2⟩
theorem vec_offS {w w':World}{A:oA9}{n c g:Nat}{xs:List Rat}{t:TypeId}{cs:Array Value}(h:zaz w A n c xs)(hk:Blk w g t cs)(hs:∀u ∈ cs.toList,zcr u)(ho:zbl g w w'):zaz w' A n c xs:=by
 refine⟨h.len,h.fits,h.most,λi x hi=>?_⟩
 obtain⟨ad,b,B,m,d,F,u,v,e,h1,h2,h3,h4,h5⟩:=h.num i x hi
 have hne:ad.block≠g:=λhg=>by
  have hb:(ad.add (i*3)).block=g:=by rw [zap];exact hg
  generalize ad.add (i*3)=q at hb h2
  obtain⟨bk,off,pr⟩:=q
  simp only at hb
  subst hb
  unfold Blk at hk
  cases pr with
  |none=>
    rw [show w.cell? ⟨bk,off,none⟩=cs[off]? from cell_of_row w bk off _ t (0,0) hk,<-Array.getElem?_toList] at h2
    obtain⟨A9,n9,c9,e9⟩:=hs _ (List.mem_of_getElem? h2)
    cases e9
  |some q=>simp [World.cell?,hk] at h2
 have hnu:NoU cs:=λq hq k z e9=>by
  obtain⟨A9,n9,c9,e8⟩:=hs q hq
  rw [e8] at e9
  cases e9
 have hc:∀j,w'.cell? (ad.add j)=w.cell? (ad.add j):=λj=>ho.2 _ (by rw [zap];exact h1) (by rw [zap];exact hne)
 exact⟨ad,b,B,m,d,F,u,v,e,Nat.lt_of_lt_of_le h1 ho.1,(hc _).trans h2,(hc _).trans h3,(hc _).trans h4,zaf.offg h5 hk hnu ho⟩
theorem zlp {w w':World}{v:Value}{A:oA9}{n c:Nat}{xs:List Rat}(h:zaz w A n c xs)(hg:w.grownBy w' v.ownBlock)(hn:zbZ w v):zaz w' A n c xs:=by
 cases hv:v.ownBlock with
 |none=>rw [hv] at hg;exact h.keep (zbw hg)
 |some g=>
   rw [hv] at hg
   obtain⟨t,cs,hk,hc⟩:=hn.blk hv
   exact vec_offS h hk hc (zbl.of_grown hg)
structure zcQ (w:World)(base:Nat)(v:Value)(Ls:List (List Rat))(vs:List Value):Prop where
 own:w.ownsRow base 61 1 v Ls.length vs
 sl:zbZ w v
 num:∀(i:Nat) (L:List Rat),Ls[i]?=some L->∃(B:oA9) (d:Nat),vs[i]?=some (Value.slice B L.length d)/\zaz w B L.length d L
theorem zcQ.nil (w:World)(base:Nat):zcQ w base (.slice none 0 0) [] []:=⟨World.ownsRow_nil _ _ _ _,zbZ.nil _ _,λi L hi=>by simp at hi⟩
theorem zcQ.len {w:World}{base:Nat}{v:Value}{Ls:List (List Rat)}{vs:List Value}(h:zcQ w base v Ls vs):vs.length=Ls.length:=by have:=h.own.1;omega
theorem zcQ.shape {w:World}{base n:Nat}{v:Value}{Ls:List (List Rat)}{vs:List Value}(h:zcQ w base v Ls vs)(hn:Ls.length=n):∃A c,v=.slice A n c/\zhK w A n Ls:=by
 subst hn
 obtain⟨A,c,e,h1,h2,h3⟩:=zas.of_grown_own h.own
 refine⟨A,c,e,rfl,λi L hi=>?_⟩
 obtain⟨B,d,hv,hw⟩:=h.num i L hi
 have hlt:=(List.getElem?_eq_some_iff.1 hi).1
 obtain⟨ad,ea,hb,hc⟩:=h3.2 (by omega)
 exact⟨ad,B,d,ea,hb,hc i _ hv,hw⟩
theorem zcQ.below {w w':World}{base:Nat}{v:Value}{Ls:List (List Rat)}{vs:List Value}(h:zcQ w base v Ls vs)(hb:Below w.heap.size w w'):zcQ w' base v Ls vs:=by
 refine⟨⟨h.own.1,?_⟩,h.sl.below hb,λi L hi=>?_⟩
 ·rcases h.own.2 with h1|⟨g,cap,cur,e1,e2,e3,e4⟩
  ·exact .inl h1
  ·exact .inr ⟨g,cap,cur,e1,e2,(hb.block g (Blk.lt (t:=61) (cs:=cur) e3)).trans e3,e4⟩
 ·obtain⟨B,d,hv,hw⟩:=h.num i L hi
  exact⟨B,d,hv,hw.keep hb⟩
theorem zcQ.grow {w w':World}{base n:Nat}{v v':Value}{Ls:List (List Rat)}{vs:List Value}{L:List Rat}{B:oA9}{d:Nat}(h:zcQ w base v Ls vs)(hx:zaz w B L.length d L)
  (ho:w'.ownsRow base 61 1 v' n (vs++[.slice B L.length d])) (hn:n=Ls.length+1) (hg:w.grownBy w' v.ownBlock) (hs:zbZ w' v'):zcQ w' base v' (Ls++[L]) (vs++[.slice B L.length d]):=by
 have hl:=h.len
 refine⟨by rw [List.length_append,List.length_singleton,<-hn];exact ho,hs,λi M hi=>?_⟩
 by_cases hlt:i<Ls.length
 ·rw [List.getElem?_append_left hlt] at hi
  obtain⟨C,e,hv,hw⟩:=h.num i M hi
  exact⟨C,e,by rw [List.getElem?_append_left (by omega)];exact hv,zlp hw hg h.sl⟩
 ·rw [List.getElem?_append_right (by omega)] at hi
  have hi2:i=Ls.length:=by
   have:=(List.getElem?_eq_some_iff.1 hi).1
   simp at this
   omega
  subst hi2
  obtain rfl:L=M:=by
   rw [Nat.sub_self] at hi
   injection hi
  exact⟨B,d,by rw [List.getElem?_append_right (by omega),hl,Nat.sub_self];rfl,zlp hx hg h.sl⟩
theorem zel:(Tryz.prog.info? 61).map (λi=>(i.zero,i.size,i.bytes))=some (some (.slice none 0 0),1,24):=by kernel_rfl
theorem zhK.get {w:World}{A:oA9}{n:Nat}{Ls:List (List Rat)}(h:zhK w A n Ls){i m:Nat}(hi:i<n)(hm:(Ls.getD i []).length=m):∃(ad:Addr) (B:oA9) (d:Nat),A=some ad/\w.cell? (ad.add i)=some (.slice B m d)/\zaz w B m d (Ls.getD i []):=by
 have hl:=h.len
 obtain⟨ad,B,d,e,_,h1,h2⟩:=h.num i _ (zbE (d:=[]) (by omega))
 rw [hm] at h1 h2
 exact⟨ad,B,d,e,h1,h2⟩
abbrev zja:=Nat->oA9×Nat×Nat×List (Int×Int)
structure zcK (n m c:Nat)(a s:Nat->Nat->Rat)(ld:List Nat)(p:Rat):Prop where
 len:ld.length<=n
 cm:c<=m
 up:∀l l',l<l'->l'<ld.length->ld.getD l 0<ld.getD l' 0
 lt:∀l,l<ld.length->ld.getD l 0<c
 ne:p≠0
 piv:∀l,l<ld.length->∀i,i<n->s i (ld.getD l 0)=if i=l then p else 0
 low:∀i,ld.length<=i->i<n->∀j,j<c->s i j=0
 fore:∀l,l<ld.length->∀j,j<ld.getD l 0->s l j=0
 back:∀i,i<n->∀j,j<m->p*a i j=zaw ld.length (λl=>a i (ld.getD l 0)*s l j)+if ld.length<=i then s i j else 0
 det:p=zaF ld.length λi j=>a i (ld.getD j 0)
theorem zcK.start (n m:Nat)(a:Nat->Nat->Rat):zcK n m 0 a a [] 1 where
 len:=Nat.zero_le _
 cm:=Nat.zero_le _
 up:=λl l' _ h=>by cases h
 lt:=λl h=>by cases h
 ne:=by decide+kernel
 piv:=λl h=>by cases h
 low:=λi _ _ j h=>by cases h
 fore:=λl h=>by cases h
 back:=λi _ j _=>by
  show 1*a i j=zaw 0 _+if 0<=i then a i j else 0
  rw [if_pos (Nat.zero_le _),zhX];grind
 det:=rfl
theorem zcK.skip {n m c:Nat}{a s:Nat->Nat->Rat}{ld:List Nat}{p:Rat}(h:zcK n m c a s ld p)(hc:c<m)(h0:∀i,ld.length<=i->i<n->s i c=0):zcK n m (c+1) a s ld p:=
 { h with
  cm:=hc
  lt:=λl hl=>Nat.lt_succ_of_lt (h.lt l hl)
  low:=λi h1 h2 j hj=>by
   rcases Nat.lt_or_ge j c with e|e
   ·exact h.low i h1 h2 j e
   ·rw [show j=c by omega];exact h0 i h1 h2}
def swp (r q:Nat)(s:Nat->Nat->Rat):Nat->Nat->Rat:=λi j=>if i=r then s q j else if i=q then -s r j else s i j
theorem zkd (k:Nat)(f:Nat->Rat):zaw k (λi=> -f i)= -zaw k f:=by
 have:=zaK k (-1) f
 rw [show(-1:Rat)*zaw k f= -zaw k f by grind] at this
 rw [this]
 exact zan λi _=>by grind
theorem zcK.swap {n m c:Nat}{a s:Nat->Nat->Rat}{ld:List Nat}{p:Rat}(h:zcK n m c a s ld p){q:Nat}(h1:ld.length<q)(h2:q<n):zcK n m c (swp ld.length q a) (swp ld.length q s) ld p where
 len:=h.len
 cm:=h.cm
 up:=h.up
 lt:=h.lt
 ne:=h.ne
 piv:=λl hl i hi=>by
  unfold swp
  by_cases e1:i=ld.length
  ·rw [if_pos e1,if_neg (by omega),h.piv l hl q h2,if_neg (by omega)]
  ·rw [if_neg e1]
   by_cases e2:i=q
   ·rw [if_pos e2,if_neg (by omega),h.piv l hl ld.length (by omega),if_neg (by omega),Rat.neg_zero]
   ·rw [if_neg e2,h.piv l hl i hi]
 low:=λi hi hi2 j hj=>by
  unfold swp
  split
  ·exact h.low q (by omega) h2 j hj
  ·split
   ·rw [h.low ld.length (Nat.le_refl _) (by omega) j hj,Rat.neg_zero]
   ·exact h.low i hi hi2 j hj
 fore:=λl hl j hj=>by
  unfold swp
  rw [if_neg (by omega),if_neg (by omega)];exact h.fore l hl j hj
 back:=λi hi j hj=>by
  have hs:∀i,zaw ld.length (λl=>swp ld.length q a i (ld.getD l 0)*swp ld.length q s l j)=zaw ld.length (λl=>swp ld.length q a i (ld.getD l 0)*s l j):=λi=>zan λl hl=>by
   rw [show swp ld.length q s l j=s l j by unfold swp;rw [if_neg (by omega),if_neg (by omega)]]
  rw [hs]
  by_cases e1:i=ld.length
  ·subst e1
   have:=h.back q h2 j hj
   rw [if_pos (by omega)] at this⊢
   simp only [swp,if_true]
   exact this
  ·by_cases e2:i=q
   ·subst e2
    have:=h.back ld.length (by omega) j hj
    rw [if_pos (by omega)] at this⊢
    simp only [swp,if_neg e1,if_true]
    have e:zaw ld.length (λl=> -a ld.length (ld.getD l 0)*s l j)= -zaw ld.length (λl=>a ld.length (ld.getD l 0)*s l j):=by
     rw [<-zkd];exact zan λl _=>by grind
    rw [e]
    grind
   ·have:=h.back i hi j hj
    simp only [swp,if_neg e1,if_neg e2]
    exact this
 det:=by
  rw [h.det]
  exact zaV λi hi j _=>by unfold swp;rw [if_neg (by omega),if_neg (by omega)]
def clr (k c:Nat)(p:Rat)(s:Nat->Nat->Rat):Nat->Nat->Rat:=λi j=>if i=k then s k j else p⁻¹*(s k c*s i j+ -s i c*s k j)
theorem zcj {ld:List Nat}{c l:Nat}(h:l<ld.length):(ld++[c]).getD l 0=ld.getD l 0:=by
 rw [List.getD_eq_getElem?_getD,List.getD_eq_getElem?_getD,List.getElem?_append_left h]
theorem zcE (ld:List Nat)(c:Nat):(ld++[c]).getD ld.length 0=c:=by
 rw [List.getD_eq_getElem?_getD,List.getElem?_append_right (Nat.le_refl _),Nat.sub_self];rfl
theorem zdB (ld:List Nat)(c:Nat):(ld++[c]).length=ld.length+1:=by simp
theorem zcK.col {n m c:Nat}{a s:Nat->Nat->Rat}{ld:List Nat}{p:Rat}(h:zcK n m c a s ld p){l j:Nat}(hl:l<ld.length)(hj:j<m):s l j=zaF ld.length (zaQ (λi j=>a i (ld.getD j 0)) l λi=>a i j):=by
 have e1:=zfa (n:=ld.length) (λi j=>a i (ld.getD j 0)) hl p (λi=>a i j)
 have e2:zaF ld.length (zaQ (λi j=>a i (ld.getD j 0)) l λi=>p*a i j)=zaF ld.length (zaQ (λi j=>a i (ld.getD j 0)) l λi=>zaw ld.length λq=>s q j*a i (ld.getD q 0)):=zaV λi hi j' _=>by
  by_cases e:j'=l
  ·subst e
   rw [zbk,zbk,h.back i (by have:=h.len;omega) j hj,if_neg (by omega),Rat.add_zero]
   exact zan λq _=>Rat.mul_comm _ _
  ·rw [zbp _ e,zbp _ e]
 rw [e2,zfB _ hl (λq=>s q j) (λq i=>a i (ld.getD q 0))] at e1
 have e3:∀q,q<ld.length->s q j*zaF ld.length (zaQ (λi j=>a i (ld.getD j 0)) l λi=>a i (ld.getD q 0))=(s l j*p)*if q=l then 1 else 0:=λq hq=>by
  by_cases e:q=l
  ·subst e
   rw [if_pos rfl,zeJ (λi j=>a i (ld.getD j 0)) q,<-h.det,Rat.mul_one]
  ·rw [if_neg e,zfb (M:=λi j=>a i (ld.getD j 0)) hl hq (Ne.symm e),Rat.mul_zero,Rat.mul_zero]
 rw [zan e3] at e1
 have e4:zaw ld.length (λq=>(s l j*p)*if q=l then 1 else 0)=s l j*p:=by
  clear e1 e2 e3
  have:∀k,l<k->zaw k (λq=>(s l j*p)*if q=l then 1 else 0)=s l j*p:=by
   intro k
   induction k with
   |zero=>intro h;cases h
   |succ k ih=>
     intro hk
     rw [zaL]
     by_cases e:k=l
     ·subst e
      rw [if_pos rfl,zbB λi hi=>by rw [if_neg (by omega),Rat.mul_zero],Rat.zero_add,Rat.mul_one]
     ·rw [if_neg e,Rat.mul_zero,Rat.add_zero,ih (by omega)]
  exact this _ hl
 rw [e4] at e1
 have:=h.ne
 grind
theorem zcK.lead {n m c:Nat}{a s:Nat->Nat->Rat}{ld:List Nat}{p:Rat}(h:zcK n m c a s ld p)(hc:c<m)(hk:ld.length<n):s ld.length c=zaF (ld.length+1) λi j=>a i ((ld++[c]).getD j 0):=by
 have hB:∀(f:Nat->Nat->Rat),(f=λi j=>a i ((ld++[c]).getD j 0))->s ld.length c=zaF (ld.length+1) f:=by
  intro f hf
  have hk1:ld.length<ld.length+1:=Nat.lt_succ_self _
  have e1:=zfa (n:=ld.length+1) f hk1 p (λi=>f i ld.length)
  rw [zeJ f] at e1
  have ff:∀i l,l<ld.length->f i l=a i (ld.getD l 0):=λi l hl=>by rw [hf];show a i _=_;rw [zcj hl]
  have fc:∀i,f i ld.length=a i c:=λi=>by rw [hf];show a i _=_;rw [zcE]
  have e2:zaF (ld.length+1) (zaQ f ld.length λi=>p*f i ld.length)=zaF (ld.length+1) (zaQ f ld.length λi=>1*(zaw ld.length λq=>s q c*f i q)+s ld.length c*if i=ld.length then 1 else 0):=zaV λi hi j' _=>by
   by_cases e:j'=ld.length
   ·subst e
    rw [zbk,zbk,fc,h.back i (by omega) c hc,Rat.one_mul]
    congr 1
    ·exact zan λq hq=>by rw [ff i q hq,Rat.mul_comm]
    ·by_cases e:i=ld.length
     ·rw [if_pos (by omega),if_pos e,e,Rat.mul_one]
     ·rw [if_neg (by omega),if_neg e,Rat.mul_zero]
   ·rw [zbp _ e,zbp _ e]
  rw [e2,zdd f hk1 1 (s ld.length c) (λi=>zaw ld.length λq=>s q c*f i q) (λi=>if i=ld.length then 1 else 0),zfB f hk1 (λq=>s q c) (λq i=>f i q)] at e1
  rw [zbB λq hq=>by rw [zfb hk1 (by omega) (by omega),Rat.mul_zero]] at e1
  rw [zfz ld.length (M:=zaQ f ld.length λi=>if i=ld.length then 1 else 0) (λi hi=>by rw [zbk,if_neg (by omega)]),zbk,if_pos rfl] at e1
  have e3:zaF ld.length (zaQ f ld.length λi=>if i=ld.length then 1 else 0)=p:=by
   rw [h.det]
   exact zaV λi hi j hj=>by rw [zbp _ (by omega),ff i j hj]
  rw [e3] at e1
  have:=h.ne
  grind
 exact hB _ rfl
theorem zcK.clear {n m c:Nat}{a s:Nat->Nat->Rat}{ld:List Nat}{p:Rat}(h:zcK n m c a s ld p)(hc:c<m)(hk:ld.length<n)(h0:s ld.length c≠0):zcK n m (c+1) a (clr ld.length c p s) (ld++[c]) (s ld.length c) where
 len:=by rw [zdB];omega
 cm:=hc
 up:=λl l' h1 h2=>by
  rw [zdB] at h2
  rw [zcj (by omega)]
  by_cases e:l'=ld.length
  ·subst e;rw [zcE];exact h.lt l h1
  ·rw [zcj (by omega)];exact h.up l l' h1 (by omega)
 lt:=λl hl=>by
  rw [zdB] at hl
  by_cases e:l=ld.length
  ·subst e;rw [zcE];omega
  ·rw [zcj (by omega)];exact Nat.lt_succ_of_lt (h.lt l (by omega))
 ne:=h0
 piv:=λl hl i hi=>by
  have hne:=h.ne
  rw [zdB] at hl
  unfold clr
  by_cases e:l=ld.length
  ·subst e
   rw [zcE]
   by_cases e2:i=ld.length
   ·rw [if_pos e2,if_pos e2]
   ·rw [if_neg e2,if_neg e2];grind
  ·have hl':l<ld.length:=by omega
   rw [zcj hl']
   have e3:=h.piv l hl' ld.length hk
   rw [if_neg (by omega)] at e3
   by_cases e2:i=ld.length
   ·rw [if_pos e2,if_neg (by omega),e3]
   ·rw [if_neg e2,e3,h.piv l hl' i hi]
    by_cases e4:i=l
    ·rw [if_pos e4,if_pos e4];grind
    ·rw [if_neg e4,if_neg e4];grind
 low:=λi hi hi2 j hj=>by
  rw [zdB] at hi
  unfold clr
  rw [if_neg (by omega)]
  by_cases e:j=c
  ·subst e;grind
  ·rw [h.low i (by omega) hi2 j (by omega),h.low ld.length (Nat.le_refl _) hk j (by omega)];grind
 fore:=λl hl j hj=>by
  rw [zdB] at hl
  unfold clr
  by_cases e:l=ld.length
  ·subst e
   rw [zcE] at hj
   rw [if_pos rfl];exact h.low _ (Nat.le_refl _) hk j hj
  ·have hl':l<ld.length:=by omega
   rw [zcj hl'] at hj
   have:=h.lt l hl'
   rw [if_neg e,h.fore l hl' j hj,h.low ld.length (Nat.le_refl _) hk j (by omega)];grind
 back:=λi hi j hj=>by
  have hne:=h.ne
  have e1:=h.back i hi j hj
  have e2:=h.back i hi c hc
  rw [zdB,zaL,zcE]
  have e3:zaw ld.length (λl=>a i ((ld++[c]).getD l 0)*clr ld.length c p s l j)=p⁻¹*(s ld.length c*zaw ld.length (λl=>a i (ld.getD l 0)*s l j)+ -(s ld.length j)*zaw ld.length (λl=>a i (ld.getD l 0)*s l c)):=by
   rw [zaK,zaK,<-zco,zaK]
   refine zan λl hl=>?_
   rw [zcj hl]
   unfold clr
   rw [if_neg (by omega)]
   grind
  have e4:clr ld.length c p s ld.length j=s ld.length j:=if_pos rfl
  rw [e3,e4]
  generalize zaw ld.length (λl=>a i (ld.getD l 0)*s l j)=x at*
  generalize zaw ld.length (λl=>a i (ld.getD l 0)*s l c)=y at*
  by_cases e5:ld.length+1<=i
  ·rw [if_pos e5]
   rw [if_pos (by omega)] at e1 e2
   unfold clr
   rw [if_neg (by omega)]
   generalize a i j=u at*
   generalize a i c=v at*
   generalize s i j=z at*
   generalize s i c=t at*
   generalize s ld.length j=r at*
   generalize s ld.length c=q at*
   grind
  ·rw [if_neg e5]
   by_cases e6:i=ld.length
   ·subst e6
    rw [if_pos (Nat.le_refl _)] at e1 e2
    grind
   ·rw [if_neg (by omega)] at e1 e2
    grind
 det:=by
  rw [zdB]
  exact h.lead hc hk
