/- What this claim leans on. -/
import Derived.Test.YtcojjcjgbepicaaGreatDoorKBunJ
namespace Go.Proofs.YtcojjcjgbepicaaGreatDoor
open Go Go.RowKit
set_option maxHeartbeats 16000000
set_option linter.unusedVariables false
set_option linter.unusedSimpArgs false
def NoIV (u:Value):Prop:=∀k z,u≠.int k z
def zbM (w:World)(v:Value):Prop:=∀g,v.ownBlock=some g->∃(cur:Array Value) (e:TypeId),w.heap[g]?=some (.cells cur e (0,0))/\∀u ∈ cur.toList,NoIV u
theorem zbM.nil (w:World)(c:Nat):zbM w (.slice none 0 c):=λg h=>by simp [Value.ownBlock] at h
theorem zbM.block {w w':World}{v:Value}(h:zbM w v)(hg:∀g,v.ownBlock=some g->w'.heap[g]?=w.heap[g]?):zbM w' v:=λg e=>by
 obtain⟨cur,t,h1,h2⟩:=h g e
 exact⟨cur,t,(hg g e).trans h1,h2⟩
theorem zbM.below {w w':World}{v:Value}(h:zbM w v)(hb:Below w.heap.size w w'):zbM w' v:=λg e=>by
 obtain⟨cur,t,h1,h2⟩:=h g e
 exact⟨cur,t,(hb.block g (Array.getElem?_eq_some_iff.1 h1).1).trans h1,h2⟩
theorem zjh {z:Array Value}{k:Nat}{u:Value}(hz:0<z.size)(hu:u ∈(Builtin.zeroCells z k).toList):u ∈ z.toList:=by
 unfold Builtin.zeroCells at hu
 rw [Array.mem_toList_iff,Array.mem_map] at hu
 obtain⟨i,_,rfl⟩:=hu
 have hlt:i%z.size<z.size:=Nat.mod_lt _ hz
 rw [getElem!_pos z (i%z.size) hlt,Array.mem_toList_iff]
 exact Array.getElem_mem hlt
section
variable {P:Program}(w:World)
theorem ziT (base:Nat)(t ty e:TypeId)(i:TypeInfo)(z:Value)(size bytes:Nat)(ht:P.underlying t=some (.slice e))(hi:P.info? e=some i)(hz:i.zero=some z)
  (hsize:i.size=size) (hby:i.bytes=bytes) (hzs:z.cells.size=size) (hsz:0<size)
  (v:Value) (n:Nat) (xs:List Value) (hown:w.ownsRow base e size v n xs)
  (a:Addr) (m c:Nat) (news:List Value) (hl:news.length=m*size) (hnews:∀j u,news[j]?=some u->w.cell? (a.add j)=some u) (h1:∀u ∈ news,u.oneCell'=true)
  (h63:n+m<=maxLen) (hbytes:(n+m)*bytes<=140737488355328) (hbase:base<=w.heap.size)
  (hv:zbM w v) (hzn:∀u ∈ z.cells.toList,NoIV u) (hnn:∀u ∈ news,NoIV u):
  ∃ v' w',(Builtin.append_ #[t,t] ty #[v,.slice (some a) m c]).run P w = .ok v' w' ∧ w'.ownsRow base e size v' (n + m) (xs ++ news) ∧ w.grownBy w' v.ownBlock ∧
   (v'.ownBlock=v.ownBlock\/v'.ownBlock=some w.heap.size)/\zbM w' v':=by
 subst hsize
 subst hby
 have hsmall:n+m<=9223372036854775807:=by simp only [maxLen] at h63;omega
 have hlen:(xs++news).length=(n+m)*i.size:=by rw [List.length_append,hown.1,hl,Nat.add_mul]
 have grown : ∀ (old : Nat),old < n + m → (∀ u ∈ xs,NoIV u) → ∀ (row : Option Nat),
   (w.drew.alloc (.cells (xs.toArray ++ news.toArray ++ Builtin.zeroCells z.cells (grownCap w (n + m) old e - (n + m))) e)).ownsRow base e i.size
     (.slice (some ⟨w.heap.size,0,none⟩) (n+m) (grownCap w (n+m) old e)) (n+m) (xs++news)/\
   w.grownBy (w.drew.alloc (.cells (xs.toArray++news.toArray++Builtin.zeroCells z.cells (grownCap w (n+m) old e - (n+m))) e)) row/\
   zbM (w.drew.alloc (.cells (xs.toArray++news.toArray++Builtin.zeroCells z.cells (grownCap w (n+m) old e - (n+m))) e)) (.slice (some ⟨w.heap.size,0,none⟩) (n+m) (grownCap w (n+m) old e)):=by
  intro old ho hxs row
  have hge:=grownCap_ge w (n+m) old e
  have hcm:grownCap w (n+m) old e<=maxLen:=grownCap_le_maxLen w (n+m) old e h63
  refine⟨⟨hlen,.inr ⟨w.heap.size,_,_,rfl,hbase,heap_alloc_new w.drew _,hge,hcm,?_,?_⟩⟩,⟨rfl,rfl,rfl,by simp,λk hk _=>heap_alloc_old w.drew _ hk⟩,?_⟩
  ·simp only [Array.size_append,List.size_toArray,size_zeroCells,hzs,hown.1,hl,<-Nat.add_mul]
   congr 1
   omega
  ·simp only [Array.toList_append,List.append_assoc]
   rw [<-List.append_assoc,<-hlen]
   exact List.take_left
  ·intro g hg
   simp [Value.ownBlock] at hg
   subst hg
   refine⟨_,_,heap_alloc_new w.drew _,λu hu=>?_⟩
   simp only [Array.toList_append,List.mem_append] at hu
   rcases hu with(hu|hu)|hu
   ·exact hxs u hu
   ·exact hnn u hu
   ·exact hzn u (zjh (by omega) hu)
 rcases hown.2 with⟨rfl,rfl⟩|⟨g,cap,cur,rfl,hbg,hg,hnc,hcm,hcs,htake⟩
 ·have hx:xs=[]:=List.eq_nil_of_length_eq_zero (by simpa using hown.1)
  subst hx
  by_cases hm:m=0
  ·subst hm
   have hn:news=[]:=List.eq_nil_of_length_eq_zero (by simpa using hl)
   subst hn
   refine⟨.slice none 0 0,w,?_,World.ownsRow_nil w base e i.size,⟨rfl,rfl,rfl,Nat.le_refl _,λ_ _ _=>rfl⟩,Or.inl rfl,zbM.nil _ _⟩
   simp [Builtin.append_,run_underlying ht,sizeOf,typeInfo,hi,Builtin.lenOf,Builtin.firstCells,loadCells,loadCellsFrom]
  ·have hr:=run_append_nil (P:=P) w t ty e i z ht hi hz a m c news hl hnews (by omega) (by omega) (by have hb:=hbytes;simp only [Nat.zero_add] at hb;omega)
   have hgr:=grown 0 (by omega) (λu hu=>by cases hu) (Value.ownBlock (.slice none 0 0))
   simp only [Nat.zero_add,List.nil_append,Array.empty_append] at hgr⊢
   exact⟨_,_,hr,hgr.1,hgr.2.1,Or.inr rfl,hgr.2.2⟩
 ·obtain⟨cur2,e2,hg2,hcn⟩:=hv g rfl
  have hcur:cur2=cur:=by
   rw [hg] at hg2
   injection hg2 with hg2
   injection hg2 with hg2
   exact hg2.symm
  subst hcur
  by_cases hroom:n+m<=cap
  ·have hfit:n*i.size+news.length<=cur2.size:=by rw [hl,hcs,<-Nat.add_mul];exact Nat.mul_le_mul_right _ hroom
   have hr:=run_append_room (P:=P) w t ty e i ht hi g n cap cur2 hg a m c news hl hnews h1 hroom hfit
   refine⟨_,_,hr,⟨hlen,.inr ⟨g,cap,_,rfl,hbg,setRow_heap w g cur2 _ e _ hg,hroom,hcm,?_,?_⟩⟩,⟨rfl,rfl,rfl,by simp,λk _ hk=>setRow_other w g k _ (λe=>hk (by simp [Value.ownBlock,e]))⟩,Or.inl rfl,?_⟩
   ·simp only [List.size_toArray,List.length_append,List.length_take,List.length_drop,Array.length_toList]
    omega
   ·rw [htake,<-hlen]
    exact List.take_left
   ·intro g' hg'
    simp [Value.ownBlock] at hg'
    subst hg'
    refine⟨_,_,setRow_heap w g cur2 _ e _ hg,λu hu=>?_⟩
    rw [List.mem_append,List.mem_append] at hu
    rcases hu with(hu|hu)|hu
    ·exact hcn u (List.mem_of_mem_take hu)
    ·exact hnn u hu
    ·exact hcn u (List.mem_of_mem_drop hu)
  ·have holds:∀j u,xs[j]?=some u->w.cell? ((⟨g,0,none⟩:Addr).add j)=some u:=hown.cells (g:=g) rfl
   have hr:=run_append_grow (P:=P) w t ty e i z ht hi hz ⟨g,0,none⟩ n cap xs hown.1 holds a m c news hl hnews (by omega) (by omega) (growslice_fits (by omega) hbytes)
   have hxs:∀u ∈ xs,NoIV u:=λu hu=>hcn u (List.mem_of_mem_take (by rw [htake];exact hu))
   have hgr:=grown cap (by omega) hxs (Value.ownBlock (.slice (some ⟨g,0,none⟩) n cap))
   exact⟨_,_,hr,hgr.1,hgr.2.1,Or.inr rfl,hgr.2.2⟩
theorem zgT {ops:Array Oper}{rest:List Oper}{o:Oper}{a:Act}{Q:Exit->Act->World->Prop}(hgd:o.guard=none)(s x:Operand)(t:TypeId)
  (ho:o.op=.call {callee:=.builtin .append,args:=#[s,x],argTypes:=#[t,t]})
  (base:Nat) (e:TypeId) (i:TypeInfo) (z:Value) (size bytes:Nat) (ht:P.underlying t=some (.slice e)) (hi:P.info? e=some i) (hz:i.zero=some z)
  (hsize:i.size=size) (hby:i.bytes=bytes) (hzs:z.cells.size=size) (hsz:0<size)
  (v:Value) (n:Nat) (xs:List Value) (hs:a.eval s=v) (hown:w.ownsRow base e size v n xs)
  (ad:Addr) (m c:Nat) (news:List Value) (hx:a.eval x=.slice (some ad) m c) (hl:news.length=m*size) (hnews:∀j u,news[j]?=some u->w.cell? (ad.add j)=some u) (h1:∀u ∈ news,u.oneCell'=true)
  (h63:n+m<=maxLen) (hbytes:(n+m)*bytes<=140737488355328) (hbase:base<=w.heap.size)
  (hv:zbM w v) (hzn:∀u ∈ z.cells.toList,NoIV u) (hnn:∀u ∈ news,NoIV u)
  (h:∀v' w',w'.ownsRow base e size v' (n+m) (xs++news)->w.grownBy w' v.ownBlock->(v'.ownBlock=v.ownBlock\/v'.ownBlock=some w.heap.size)->zbM w' v'->wpList P ops Q rest (a.put o.dst v') w'):
  wpList P ops Q (o::rest) a w:=by
 refine wpList_plain hgd λK hK=>?_
 obtain⟨v',w',hr,h2,h3,h4,h5⟩:=ziT (P:=P) w base t o.type e i z size bytes ht hi hz hsize hby hzs hsz v n xs hown ad m c news hl hnews h1 h63 hbytes hbase hv hzn hnn
 unfold Oper.wp execOp
 simp only [ho,resolve,invoke,builtin,Sem.run_bind,Sem.run_pure,Result.andThen_ok,List.map_toArray,List.map_cons,List.map_nil,hs,hx,hr]
 exact hK _ _ (h v' w' h2 h3 h4 h5)
end
theorem zbM.blk {w:World}{v:Value}{g:Nat}(h:zbM w v)(hg:v.ownBlock=some g):∃(t:TypeId) (cs:Array Value),Blk w g t cs/\NoU cs:=by
 obtain⟨cur,e,h1,h2⟩:=h g hg
 exact⟨e,cur,h1,λu hu k z=>h2 u hu k z⟩
theorem zdD.grown {α:Type}{E:El α}(hE:zdD E){w w':World}{v:Value}{x:α}{b:Bool}{A:oA9}{n c:Nat}{F:oA9}{k f:Nat}(h:E w x b A n c F k f)(hg:w.grownBy w' v.ownBlock)(hn:zbM w v):E w' x b A n c F k f:=by
 cases hv:v.ownBlock with
 |none=>rw [hv] at hg;exact hE.below h (zbj hg)
 |some g=>
   rw [hv] at hg
   obtain⟨t,cs,hk,hc⟩:=hn.blk hv
   exact hE.offg h hk hc (zbd.of_grown hg)
theorem zcm {w w':World}{g:Nat}{t:TypeId}{cs:Array Value}{row:Option Nat}(h:Blk w g t cs)(hg:w.grownBy w' row)(hne:row≠some g):Blk w' g t cs:=(hg.block g (Blk.lt h) (λe=>hne e.symm)).trans h
structure zfM {α:Type}(E:El α)(w:World)(base:Nat)(t:TypeId)(v:Value)(xs:List α)(vs:List Value):Prop where
 own:w.ownsRow base t 3 v xs.length vs
 nou:zbM w v
 num:∀i x,xs[i]?=some x->∃(b:Bool) (B:oA9) (m d:Nat) (F:oA9) (u f:Nat),vs[i*3]?=some (.bool b)/\vs[i*3+1]?=some (.slice B m d)/\vs[i*3+2]?=some (.slice F u f)/\E w x b B m d F u f
section
variable {α:Type}{E:El α}
theorem zfM.nil (w:World)(base:Nat)(t:TypeId):zfM E w base t (.slice none 0 0) [] []:=⟨World.ownsRow_nil _ _ _ _,zbM.nil _ _,λi x hi=>by simp at hi⟩
theorem zfM.len {w:World}{base:Nat}{t:TypeId}{v:Value}{xs:List α}{vs:List Value}(h:zfM E w base t v xs vs):vs.length=xs.length*3:=h.own.1
theorem zfM.shape {w:World}{base:Nat}{t:TypeId}{v:Value}{xs:List α}{vs:List Value}(h:zfM E w base t v xs vs):∃A c,v=.slice A xs.length c/\zaN E w A xs.length c xs/\∀ad,A=some ad->base<=ad.block:=by
 rcases h.own.2 with⟨rfl,h0⟩|⟨g,cap,cur,rfl,hbg,hg,hnc,hcm,hcs,htake⟩
 ·have hx:xs=[]:=List.eq_nil_of_length_eq_zero h0
  subst hx
  exact⟨none,0,rfl,zaN.nil w,λad e=>by cases e⟩
 ·have hcell:=h.own.cells (g:=g) rfl
  refine⟨some ⟨g,0,none⟩,cap,rfl,⟨rfl,hnc,by unfold maxLen at hcm;omega,λi x hi=>?_⟩,λad e=>by injection e with e;subst e;exact hbg⟩
  obtain⟨b,B,m,d,F,u,f,h1,h2,h3,h4⟩:=h.num i x hi
  exact⟨_,b,B,m,d,F,u,f,rfl,(Array.getElem?_eq_some_iff.1 hg).1,hcell _ _ h1,hcell _ _ h2,hcell _ _ h3,h4⟩
theorem zfM.below (hE:zdD E){w w':World}{base:Nat}{t:TypeId}{v:Value}{xs:List α}{vs:List Value}(h:zfM E w base t v xs vs)(hb:Below w.heap.size w w'):zfM E w' base t v xs vs:=by
 refine⟨⟨h.own.1,?_⟩,h.nou.below hb,λi x hi=>?_⟩
 ·rcases h.own.2 with h1|⟨g,cap,cur,e1,e2,e3,e4⟩
  ·exact .inl h1
  ·exact .inr ⟨g,cap,cur,e1,e2,(hb.block g (Blk.lt (t:=t) (cs:=cur) e3)).trans e3,e4⟩
 ·obtain⟨b,B,m,d,F,u,f,h1,h2,h3,h4⟩:=h.num i x hi
  exact⟨b,B,m,d,F,u,f,h1,h2,h3,hE.below h4 hb⟩
theorem zfM.grow (hE:zdD E){w w':World}{base n:Nat}{t:TypeId}{v v':Value}{xs:List α}{vs:List Value}{x:α}{b:Bool}{B F:oA9}{m d u f:Nat}(h:zfM E w base t v xs vs)(hx:E w x b B m d F u f)
  (ho:w'.ownsRow base t 3 v' n (vs++[.bool b,.slice B m d,.slice F u f])) (hn:n=xs.length+1) (hg:w.grownBy w' v.ownBlock) (hnu:zbM w' v'):zfM E w' base t v' (xs++[x]) (vs++[.bool b,.slice B m d,.slice F u f]):=by
 have hl:=h.len
 refine⟨by rw [List.length_append,List.length_singleton,<-hn];exact ho,hnu,λi y hi=>?_⟩
 by_cases hlt:i<xs.length
 ·rw [List.getElem?_append_left hlt] at hi
  obtain⟨b1,B1,m1,d1,F1,u1,f1,h1,h2,h3,h4⟩:=h.num i y hi
  exact⟨b1,B1,m1,d1,F1,u1,f1,by rw [List.getElem?_append_left (by omega)];exact h1,by rw [List.getElem?_append_left (by omega)];exact h2,by rw [List.getElem?_append_left (by omega)];exact h3,hE.grown h4 hg h.nou⟩
 ·rw [List.getElem?_append_right (by omega)] at hi
  have hi2:i=xs.length:=by
   have:=(List.getElem?_eq_some_iff.1 hi).1
   simp at this
   omega
  subst hi2
  obtain rfl:x=y:=by
   rw [Nat.sub_self] at hi
   injection hi
  exact⟨b,B,m,d,F,u,f,by rw [List.getElem?_append_right (by omega),hl,Nat.sub_self];rfl,by rw [List.getElem?_append_right (by omega),hl,Nat.add_sub_cancel_left];rfl,by rw [List.getElem?_append_right (by omega),hl,Nat.add_sub_cancel_left];rfl,hE.grown hx hg h.nou⟩
end
structure zcK (n m c:Nat)(a s:Nat->Nat->Rat)(ld:List Nat)(p:Rat):Prop where
 len:ld.length<=n
 cm:c<=m
 up:∀l l',l<l'->l'<ld.length->ld.getD l 0<ld.getD l' 0
 lt:∀l,l<ld.length->ld.getD l 0<c
 ne:p≠0
 piv:∀l,l<ld.length->∀i,i<n->s i (ld.getD l 0)=if i=l then p else 0
 low:∀i,ld.length<=i->i<n->∀j,j<c->s i j=0
 fore:∀l,l<ld.length->∀j,j<ld.getD l 0->s l j=0
 back:∀i,i<n->∀j,j<m->p*a i j=zaF ld.length (λl=>a i (ld.getD l 0)*s l j)+if ld.length<=i then s i j else 0
 det:p=zbG ld.length λi j=>a i (ld.getD j 0)
theorem zcK.start (n m:Nat)(a:Nat->Nat->Rat):zcK n m 0 a a [] 1 where
 len:=Nat.zero_le _
 cm:=Nat.zero_le _
 up:=λl l' _ h=>by cases h
 lt:=λl h=>by cases h
 ne:=by decide+kernel
 piv:=λl h=>by cases h
 low:=λi _ _ j h=>by cases h
 fore:=λl h=>by cases h
 back:=λi _ j _=>by
  show 1*a i j=zaF 0 _+if 0<=i then a i j else 0
  rw [if_pos (Nat.zero_le _),zhj];grind
 det:=rfl
theorem zcK.skip {n m c:Nat}{a s:Nat->Nat->Rat}{ld:List Nat}{p:Rat}(h:zcK n m c a s ld p)(hc:c<m)(h0:∀i,ld.length<=i->i<n->s i c=0):zcK n m (c+1) a s ld p:=
 { h with
  cm:=hc
  lt:=λl hl=>Nat.lt_succ_of_lt (h.lt l hl)
  low:=λi h1 h2 j hj=>by
   rcases Nat.lt_or_ge j c with e|e
   ·exact h.low i h1 h2 j e
   ·rw [show j=c by omega];exact h0 i h1 h2}
def swp (r q:Nat)(s:Nat->Nat->Rat):Nat->Nat->Rat:=λi j=>if i=r then s q j else if i=q then -s r j else s i j
theorem zlZ (k:Nat)(f:Nat->Rat):zaF k (λi=> -f i)= -zaF k f:=by
 have:=zaZ k (-1) f
 rw [show(-1:Rat)*zaF k f= -zaF k f by grind] at this
 rw [this]
 exact zav λi _=>by grind
theorem zcK.swap {n m c:Nat}{a s:Nat->Nat->Rat}{ld:List Nat}{p:Rat}(h:zcK n m c a s ld p){q:Nat}(h1:ld.length<q)(h2:q<n):zcK n m c (swp ld.length q a) (swp ld.length q s) ld p where
 len:=h.len
 cm:=h.cm
 up:=h.up
 lt:=h.lt
 ne:=h.ne
 piv:=λl hl i hi=>by
  unfold swp
  by_cases e1:i=ld.length
  ·rw [if_pos e1,if_neg (by omega),h.piv l hl q h2,if_neg (by omega)]
  ·rw [if_neg e1]
   by_cases e2:i=q
   ·rw [if_pos e2,if_neg (by omega),h.piv l hl ld.length (by omega),if_neg (by omega),Rat.neg_zero]
   ·rw [if_neg e2,h.piv l hl i hi]
 low:=λi hi hi2 j hj=>by
  unfold swp
  split
  ·exact h.low q (by omega) h2 j hj
  ·split
   ·rw [h.low ld.length (Nat.le_refl _) (by omega) j hj,Rat.neg_zero]
   ·exact h.low i hi hi2 j hj
 fore:=λl hl j hj=>by
  unfold swp
  rw [if_neg (by omega),if_neg (by omega)];exact h.fore l hl j hj
 back:=λi hi j hj=>by
  have hs:∀i,zaF ld.length (λl=>swp ld.length q a i (ld.getD l 0)*swp ld.length q s l j)=zaF ld.length (λl=>swp ld.length q a i (ld.getD l 0)*s l j):=λi=>zav λl hl=>by
   rw [show swp ld.length q s l j=s l j by unfold swp;rw [if_neg (by omega),if_neg (by omega)]]
  rw [hs]
  by_cases e1:i=ld.length
  ·subst e1
   have:=h.back q h2 j hj
   rw [if_pos (by omega)] at this⊢
   simp only [swp,if_true]
   exact this
  ·by_cases e2:i=q
   ·subst e2
    have:=h.back ld.length (by omega) j hj
    rw [if_pos (by omega)] at this⊢
    simp only [swp,if_neg e1,if_true]
    have e:zaF ld.length (λl=> -a ld.length (ld.getD l 0)*s l j)= -zaF ld.length (λl=>a ld.length (ld.getD l 0)*s l j):=by
     rw [<-zlZ];exact zav λl _=>by grind
    rw [e]
    grind
   ·have:=h.back i hi j hj
    simp only [swp,if_neg e1,if_neg e2]
    exact this
 det:=by
  rw [h.det]
  exact zcL λi hi j _=>by unfold swp;rw [if_neg (by omega),if_neg (by omega)]
def clr (k c:Nat)(p:Rat)(s:Nat->Nat->Rat):Nat->Nat->Rat:=λi j=>if i=k then s k j else p⁻¹*(s k c*s i j+ -s i c*s k j)
theorem zbX {ld:List Nat}{c l:Nat}(h:l<ld.length):(ld++[c]).getD l 0=ld.getD l 0:=by
 rw [List.getD_eq_getElem?_getD,List.getD_eq_getElem?_getD,List.getElem?_append_left h]
theorem zcx (ld:List Nat)(c:Nat):(ld++[c]).getD ld.length 0=c:=by
 rw [List.getD_eq_getElem?_getD,List.getElem?_append_right (Nat.le_refl _),Nat.sub_self];rfl
theorem zdp (ld:List Nat)(c:Nat):(ld++[c]).length=ld.length+1:=by simp
theorem zcK.col {n m c:Nat}{a s:Nat->Nat->Rat}{ld:List Nat}{p:Rat}(h:zcK n m c a s ld p){l j:Nat}(hl:l<ld.length)(hj:j<m):s l j=zbG ld.length (zbI (λi j=>a i (ld.getD j 0)) l λi=>a i j):=by
 have e1:=zgc (n:=ld.length) (λi j=>a i (ld.getD j 0)) hl p (λi=>a i j)
 have e2:zbG ld.length (zbI (λi j=>a i (ld.getD j 0)) l λi=>p*a i j)=zbG ld.length (zbI (λi j=>a i (ld.getD j 0)) l λi=>zaF ld.length λq=>s q j*a i (ld.getD q 0)):=zcL λi hi j' _=>by
  by_cases e:j'=l
  ·subst e
   rw [zch,zch,h.back i (by have:=h.len;omega) j hj,if_neg (by omega),Rat.add_zero]
   exact zav λq _=>Rat.mul_comm _ _
  ·rw [zci _ e,zci _ e]
 rw [e2,zgx _ hl (λq=>s q j) (λq i=>a i (ld.getD q 0))] at e1
 have e3:∀q,q<ld.length->s q j*zbG ld.length (zbI (λi j=>a i (ld.getD j 0)) l λi=>a i (ld.getD q 0))=(s l j*p)*if q=l then 1 else 0:=λq hq=>by
  by_cases e:q=l
  ·subst e
   rw [if_pos rfl,zfJ (λi j=>a i (ld.getD j 0)) q,<-h.det,Rat.mul_one]
  ·rw [if_neg e,zik (M:=λi j=>a i (ld.getD j 0)) hl hq (Ne.symm e),Rat.mul_zero,Rat.mul_zero]
 rw [zav e3] at e1
 have e4:zaF ld.length (λq=>(s l j*p)*if q=l then 1 else 0)=s l j*p:=by
  clear e1 e2 e3
  have:∀k,l<k->zaF k (λq=>(s l j*p)*if q=l then 1 else 0)=s l j*p:=by
   intro k
   induction k with
   |zero=>intro h;cases h
   |succ k ih=>
     intro hk
     rw [zaP]
     by_cases e:k=l
     ·subst e
      rw [if_pos rfl,zcc λi hi=>by rw [if_neg (by omega),Rat.mul_zero],Rat.zero_add,Rat.mul_one]
     ·rw [if_neg e,Rat.mul_zero,Rat.add_zero,ih (by omega)]
  exact this _ hl
 rw [e4] at e1
 have:=h.ne
 grind
theorem zcK.lead {n m c:Nat}{a s:Nat->Nat->Rat}{ld:List Nat}{p:Rat}(h:zcK n m c a s ld p)(hc:c<m)(hk:ld.length<n):s ld.length c=zbG (ld.length+1) λi j=>a i ((ld++[c]).getD j 0):=by
 have hB:∀(f:Nat->Nat->Rat),(f=λi j=>a i ((ld++[c]).getD j 0))->s ld.length c=zbG (ld.length+1) f:=by
  intro f hf
  have hk1:ld.length<ld.length+1:=Nat.lt_succ_self _
  have e1:=zgc (n:=ld.length+1) f hk1 p (λi=>f i ld.length)
  rw [zfJ f] at e1
  have ff:∀i l,l<ld.length->f i l=a i (ld.getD l 0):=λi l hl=>by rw [hf];show a i _=_;rw [zbX hl]
  have fc:∀i,f i ld.length=a i c:=λi=>by rw [hf];show a i _=_;rw [zcx]
  have e2:zbG (ld.length+1) (zbI f ld.length λi=>p*f i ld.length)=zbG (ld.length+1) (zbI f ld.length λi=>1*(zaF ld.length λq=>s q c*f i q)+s ld.length c*if i=ld.length then 1 else 0):=zcL λi hi j' _=>by
   by_cases e:j'=ld.length
   ·subst e
    rw [zch,zch,fc,h.back i (by omega) c hc,Rat.one_mul]
    congr 1
    ·exact zav λq hq=>by rw [ff i q hq,Rat.mul_comm]
    ·by_cases e:i=ld.length
     ·rw [if_pos (by omega),if_pos e,e,Rat.mul_one]
     ·rw [if_neg (by omega),if_neg e,Rat.mul_zero]
   ·rw [zci _ e,zci _ e]
  rw [e2,zdE f hk1 1 (s ld.length c) (λi=>zaF ld.length λq=>s q c*f i q) (λi=>if i=ld.length then 1 else 0),zgx f hk1 (λq=>s q c) (λq i=>f i q)] at e1
  rw [zcc λq hq=>by rw [zik hk1 (by omega) (by omega),Rat.mul_zero]] at e1
  rw [zhr ld.length (M:=zbI f ld.length λi=>if i=ld.length then 1 else 0) (λi hi=>by rw [zch,if_neg (by omega)]),zch,if_pos rfl] at e1
  have e3:zbG ld.length (zbI f ld.length λi=>if i=ld.length then 1 else 0)=p:=by
   rw [h.det]
   exact zcL λi hi j hj=>by rw [zci _ (by omega),ff i j hj]
  rw [e3] at e1
  have:=h.ne
  grind
 exact hB _ rfl
theorem zcK.clear {n m c:Nat}{a s:Nat->Nat->Rat}{ld:List Nat}{p:Rat}(h:zcK n m c a s ld p)(hc:c<m)(hk:ld.length<n)(h0:s ld.length c≠0):zcK n m (c+1) a (clr ld.length c p s) (ld++[c]) (s ld.length c) where
 len:=by rw [zdp];omega
 cm:=hc
 up:=λl l' h1 h2=>by
  rw [zdp] at h2
  rw [zbX (by omega)]
  by_cases e:l'=ld.length
  ·subst e;rw [zcx];exact h.lt l h1
  ·rw [zbX (by omega)];exact h.up l l' h1 (by omega)
 lt:=λl hl=>by
  rw [zdp] at hl
  by_cases e:l=ld.length
  ·subst e;rw [zcx];omega
  ·rw [zbX (by omega)];exact Nat.lt_succ_of_lt (h.lt l (by omega))
 ne:=h0
 piv:=λl hl i hi=>by
  have hne:=h.ne
  rw [zdp] at hl
  unfold clr
  by_cases e:l=ld.length
  ·subst e
   rw [zcx]
   by_cases e2:i=ld.length
   ·rw [if_pos e2,if_pos e2]
   ·rw [if_neg e2,if_neg e2];grind
  ·have hl':l<ld.length:=by omega
   rw [zbX hl']
   have e3:=h.piv l hl' ld.length hk
   rw [if_neg (by omega)] at e3
   by_cases e2:i=ld.length
   ·rw [if_pos e2,if_neg (by omega),e3]
   ·rw [if_neg e2,e3,h.piv l hl' i hi]
    by_cases e4:i=l
    ·rw [if_pos e4,if_pos e4];grind
    ·rw [if_neg e4,if_neg e4];grind
 low:=λi hi hi2 j hj=>by
  rw [zdp] at hi
  unfold clr
  rw [if_neg (by omega)]
  by_cases e:j=c
  ·subst e;grind
  ·rw [h.low i (by omega) hi2 j (by omega),h.low ld.length (Nat.le_refl _) hk j (by omega)];grind
 fore:=λl hl j hj=>by
  rw [zdp] at hl
  unfold clr
  by_cases e:l=ld.length
  ·subst e
   rw [zcx] at hj
   rw [if_pos rfl];exact h.low _ (Nat.le_refl _) hk j hj
  ·have hl':l<ld.length:=by omega
   rw [zbX hl'] at hj
   have:=h.lt l hl'
   rw [if_neg e,h.fore l hl' j hj,h.low ld.length (Nat.le_refl _) hk j (by omega)];grind
 back:=λi hi j hj=>by
  have hne:=h.ne
  have e1:=h.back i hi j hj
  have e2:=h.back i hi c hc
  rw [zdp,zaP,zcx]
  have e3:zaF ld.length (λl=>a i ((ld++[c]).getD l 0)*clr ld.length c p s l j)=p⁻¹*(s ld.length c*zaF ld.length (λl=>a i (ld.getD l 0)*s l j)+ -(s ld.length j)*zaF ld.length (λl=>a i (ld.getD l 0)*s l c)):=by
   rw [zaZ,zaZ,<-zfu,zaZ]
   refine zav λl hl=>?_
   rw [zbX hl]
   unfold clr
   rw [if_neg (by omega)]
   grind
  have e4:clr ld.length c p s ld.length j=s ld.length j:=if_pos rfl
  rw [e3,e4]
  generalize zaF ld.length (λl=>a i (ld.getD l 0)*s l j)=x at*
  generalize zaF ld.length (λl=>a i (ld.getD l 0)*s l c)=y at*
  by_cases e5:ld.length+1<=i
  ·rw [if_pos e5]
   rw [if_pos (by omega)] at e1 e2
   unfold clr
   rw [if_neg (by omega)]
   generalize a i j=u at*
   generalize a i c=v at*
   generalize s i j=z at*
   generalize s i c=t at*
   generalize s ld.length j=r at*
   generalize s ld.length c=q at*
   grind
  ·rw [if_neg e5]
   by_cases e6:i=ld.length
   ·subst e6
    rw [if_pos (Nat.le_refl _)] at e1 e2
    grind
   ·rw [if_neg (by omega)] at e1 e2
    grind
 det:=by
  rw [zdp]
  exact h.lead hc hk
