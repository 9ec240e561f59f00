/- What this claim leans on. -/
import Derived.Test.YtcojjcjgbepicaaGreatDoorSMArgs
namespace Go.Proofs.YtcojjcjgbepicaaGreatDoor
open Go Go.RowKit
set_option maxHeartbeats 16000000
set_option linter.unusedVariables false
set_option linter.unusedSimpArgs false
def zch (u:Value):Prop:=∃A n c,u=.slice A n c
def zbM (w:World)(v:Value):Prop:=∀g,v.ownBlock=some g->∃(cur:Array Value) (e:TypeId),w.heap[g]?=some (.cells cur e (0,0))/\∀u ∈ cur.toList,zch u
theorem zbM.nil (w:World)(c:Nat):zbM w (.slice none 0 c):=λg h=>by simp [Value.ownBlock] at h
theorem zbM.block {w w':World}{v:Value}(h:zbM w v)(hg:∀g,v.ownBlock=some g->w'.heap[g]?=w.heap[g]?):zbM w' v:=λg e=>by
 obtain⟨cur,t,h1,h2⟩:=h g e
 exact⟨cur,t,(hg g e).trans h1,h2⟩
theorem zbM.below {w w':World}{v:Value}(h:zbM w v)(hb:Below w.heap.size w w'):zbM w' v:=λg e=>by
 obtain⟨cur,t,h1,h2⟩:=h g e
 exact⟨cur,t,(hb.block g (Array.getElem?_eq_some_iff.1 h1).1).trans h1,h2⟩
theorem zfC {z:Array Value}{k:Nat}{u:Value}(hz:0<z.size)(hu:u ∈(Builtin.zeroCells z k).toList):u ∈ z.toList:=by
 unfold Builtin.zeroCells at hu
 rw [Array.mem_toList_iff,Array.mem_map] at hu
 obtain⟨i,_,rfl⟩:=hu
 have hlt:i%z.size<z.size:=Nat.mod_lt _ hz
 rw [getElem!_pos z (i%z.size) hlt,Array.mem_toList_iff]
 exact Array.getElem_mem hlt
section
variable {P:Program}(w:World)
theorem zfX (base:Nat)(t ty e:TypeId)(i:TypeInfo)(z:Value)(size bytes:Nat)(ht:P.underlying t=some (.slice e))(hi:P.info? e=some i)(hz:i.zero=some z)
  (hsize:i.size=size) (hby:i.bytes=bytes) (hzs:z.cells.size=size) (hsz:0<size)
  (v:Value) (n:Nat) (xs:List Value) (hown:w.ownsRow base e size v n xs)
  (a:Addr) (m c:Nat) (news:List Value) (hl:news.length=m*size) (hnews:∀j u,news[j]?=some u->w.cell? (a.add j)=some u) (h1:∀u ∈ news,u.oneCell'=true)
  (h63:n+m<=maxLen) (hbytes:(n+m)*bytes<=140737488355328) (hbase:base<=w.heap.size)
  (hv:zbM w v) (hzn:∀u ∈ z.cells.toList,zch u) (hnn:∀u ∈ news,zch u):
  ∃ v' w',(Builtin.append_ #[t,t] ty #[v,.slice (some a) m c]).run P w = .ok v' w' ∧ w'.ownsRow base e size v' (n + m) (xs ++ news) ∧ w.grownBy w' v.ownBlock ∧
   (v'.ownBlock=v.ownBlock\/v'.ownBlock=some w.heap.size)/\zbM w' v':=by
 subst hsize
 subst hby
 have hsmall:n+m<=9223372036854775807:=by simp only [maxLen] at h63;omega
 have hlen:(xs++news).length=(n+m)*i.size:=by rw [List.length_append,hown.1,hl,Nat.add_mul]
 have grown : ∀ (old : Nat),old < n + m → (∀ u ∈ xs,zch u) → ∀ (row : Option Nat),
   (w.drew.alloc (.cells (xs.toArray ++ news.toArray ++ Builtin.zeroCells z.cells (grownCap w (n + m) old e - (n + m))) e)).ownsRow base e i.size
     (.slice (some ⟨w.heap.size,0,none⟩) (n+m) (grownCap w (n+m) old e)) (n+m) (xs++news)/\
   w.grownBy (w.drew.alloc (.cells (xs.toArray++news.toArray++Builtin.zeroCells z.cells (grownCap w (n+m) old e - (n+m))) e)) row/\
   zbM (w.drew.alloc (.cells (xs.toArray++news.toArray++Builtin.zeroCells z.cells (grownCap w (n+m) old e - (n+m))) e)) (.slice (some ⟨w.heap.size,0,none⟩) (n+m) (grownCap w (n+m) old e)):=by
  intro old ho hxs row
  have hge:=grownCap_ge w (n+m) old e
  have hcm:grownCap w (n+m) old e<=maxLen:=grownCap_le_maxLen w (n+m) old e h63
  refine⟨⟨hlen,.inr ⟨w.heap.size,_,_,rfl,hbase,heap_alloc_new w.drew _,hge,hcm,?_,?_⟩⟩,⟨rfl,rfl,rfl,by simp,λk hk _=>heap_alloc_old w.drew _ hk⟩,?_⟩
  ·simp only [Array.size_append,List.size_toArray,size_zeroCells,hzs,hown.1,hl,<-Nat.add_mul]
   congr 1
   omega
  ·simp only [Array.toList_append,List.append_assoc]
   rw [<-List.append_assoc,<-hlen]
   exact List.take_left
  ·intro g hg
   simp [Value.ownBlock] at hg
   subst hg
   refine⟨_,_,heap_alloc_new w.drew _,λu hu=>?_⟩
   simp only [Array.toList_append,List.mem_append] at hu
   rcases hu with(hu|hu)|hu
   ·exact hxs u hu
   ·exact hnn u hu
   ·exact hzn u (zfC (by omega) hu)
 rcases hown.2 with⟨rfl,rfl⟩|⟨g,cap,cur,rfl,hbg,hg,hnc,hcm,hcs,htake⟩
 ·have hx:xs=[]:=List.eq_nil_of_length_eq_zero (by simpa using hown.1)
  subst hx
  by_cases hm:m=0
  ·subst hm
   have hn:news=[]:=List.eq_nil_of_length_eq_zero (by simpa using hl)
   subst hn
   refine⟨.slice none 0 0,w,?_,World.ownsRow_nil w base e i.size,⟨rfl,rfl,rfl,Nat.le_refl _,λ_ _ _=>rfl⟩,Or.inl rfl,zbM.nil _ _⟩
   simp [Builtin.append_,run_underlying ht,sizeOf,typeInfo,hi,Builtin.lenOf,Builtin.firstCells,loadCells,loadCellsFrom]
  ·have hr:=run_append_nil (P:=P) w t ty e i z ht hi hz a m c news hl hnews (by omega) (by omega) (by have hb:=hbytes;simp only [Nat.zero_add] at hb;omega)
   have hgr:=grown 0 (by omega) (λu hu=>by cases hu) (Value.ownBlock (.slice none 0 0))
   simp only [Nat.zero_add,List.nil_append,Array.empty_append] at hgr⊢
   exact⟨_,_,hr,hgr.1,hgr.2.1,Or.inr rfl,hgr.2.2⟩
 ·obtain⟨cur2,e2,hg2,hcn⟩:=hv g rfl
  have hcur:cur2=cur:=by
   rw [hg] at hg2
   injection hg2 with hg2
   injection hg2 with hg2
   exact hg2.symm
  subst hcur
  by_cases hroom:n+m<=cap
  ·have hfit:n*i.size+news.length<=cur2.size:=by rw [hl,hcs,<-Nat.add_mul];exact Nat.mul_le_mul_right _ hroom
   have hr:=run_append_room (P:=P) w t ty e i ht hi g n cap cur2 hg a m c news hl hnews h1 hroom hfit
   refine⟨_,_,hr,⟨hlen,.inr ⟨g,cap,_,rfl,hbg,setRow_heap w g cur2 _ e _ hg,hroom,hcm,?_,?_⟩⟩,⟨rfl,rfl,rfl,by simp,λk _ hk=>setRow_other w g k _ (λe=>hk (by simp [Value.ownBlock,e]))⟩,Or.inl rfl,?_⟩
   ·simp only [List.size_toArray,List.length_append,List.length_take,List.length_drop,Array.length_toList]
    omega
   ·rw [htake,<-hlen]
    exact List.take_left
   ·intro g' hg'
    simp [Value.ownBlock] at hg'
    subst hg'
    refine⟨_,_,setRow_heap w g cur2 _ e _ hg,λu hu=>?_⟩
    rw [List.mem_append,List.mem_append] at hu
    rcases hu with(hu|hu)|hu
    ·exact hcn u (List.mem_of_mem_take hu)
    ·exact hnn u hu
    ·exact hcn u (List.mem_of_mem_drop hu)
  ·have holds:∀j u,xs[j]?=some u->w.cell? ((⟨g,0,none⟩:Addr).add j)=some u:=hown.cells (g:=g) rfl
   have hr:=run_append_grow (P:=P) w t ty e i z ht hi hz ⟨g,0,none⟩ n cap xs hown.1 holds a m c news hl hnews (by omega) (by omega) (growslice_fits (by omega) hbytes)
   have hxs:∀u ∈ xs,zch u:=λu hu=>hcn u (List.mem_of_mem_take (by rw [htake];exact hu))
   have hgr:=grown cap (by omega) hxs (Value.ownBlock (.slice (some ⟨g,0,none⟩) n cap))
   exact⟨_,_,hr,hgr.1,hgr.2.1,Or.inr rfl,hgr.2.2⟩
theorem zcx {ops:Array Oper}{rest:List Oper}{o:Oper}{a:Act}{Q:Exit->Act->World->Prop}(hgd:o.guard=none)(s x:Operand)(t:TypeId)
  (ho:o.op=.call {callee:=.builtin .append,args:=#[s,x],argTypes:=#[t,t]})
  (base:Nat) (e:TypeId) (i:TypeInfo) (z:Value) (size bytes:Nat) (ht:P.underlying t=some (.slice e)) (hi:P.info? e=some i) (hz:i.zero=some z)
  (hsize:i.size=size) (hby:i.bytes=bytes) (hzs:z.cells.size=size) (hsz:0<size)
  (v:Value) (n:Nat) (xs:List Value) (hs:a.eval s=v) (hown:w.ownsRow base e size v n xs)
  (ad:Addr) (m c:Nat) (news:List Value) (hx:a.eval x=.slice (some ad) m c) (hl:news.length=m*size) (hnews:∀j u,news[j]?=some u->w.cell? (ad.add j)=some u) (h1:∀u ∈ news,u.oneCell'=true)
  (h63:n+m<=maxLen) (hbytes:(n+m)*bytes<=140737488355328) (hbase:base<=w.heap.size)
  (hv:zbM w v) (hzn:∀u ∈ z.cells.toList,zch u) (hnn:∀u ∈ news,zch u)
  (h:∀v' w',w'.ownsRow base e size v' (n+m) (xs++news)->w.grownBy w' v.ownBlock->(v'.ownBlock=v.ownBlock\/v'.ownBlock=some w.heap.size)->zbM w' v'->wpList P ops Q rest (a.put o.dst v') w'):
  wpList P ops Q (o::rest) a w:=by
 refine wpList_plain hgd λK hK=>?_
 obtain⟨v',w',hr,h2,h3,h4,h5⟩:=zfX (P:=P) w base t o.type e i z size bytes ht hi hz hsize hby hzs hsz v n xs hown ad m c news hl hnews h1 h63 hbytes hbase hv hzn hnn
 unfold Oper.wp execOp
 simp only [ho,resolve,invoke,builtin,Sem.run_bind,Sem.run_pure,Result.andThen_ok,List.map_toArray,List.map_cons,List.map_nil,hs,hx,hr]
 exact hK _ _ (h v' w' h2 h3 h4 h5)
end
theorem zbM.blk {w:World}{v:Value}{g:Nat}(h:zbM w v)(hg:v.ownBlock=some g):∃(t:TypeId) (cs:Array Value),Blk w g t cs/\∀u ∈ cs.toList,zch u:=by
 obtain⟨cur,e,h1,h2⟩:=h g hg
 exact⟨e,cur,h1,h2⟩
theorem vec_offS {w w':World}{A:oA9}{n c g:Nat}{xs:List Rat}{t:TypeId}{cs:Array Value}(h:zaC w A n c xs)(hk:Blk w g t cs)(hs:∀u ∈ cs.toList,zch u)(ho:zbe g w w'):zaC w' A n c xs:=by
 refine⟨h.len,h.fits,h.most,λi x hi=>?_⟩
 obtain⟨ad,b,B,m,d,F,u,v,e,h1,h2,h3,h4,h5⟩:=h.num i x hi
 have hne:ad.block≠g:=λhg=>by
  have hb:(ad.add (i*3)).block=g:=by rw [zao];exact hg
  generalize ad.add (i*3)=q at hb h2
  obtain⟨bk,off,pr⟩:=q
  simp only at hb
  subst hb
  unfold Blk at hk
  cases pr with
  |none=>
    rw [show w.cell? ⟨bk,off,none⟩=cs[off]? from cell_of_row w bk off _ t (0,0) hk,<-Array.getElem?_toList] at h2
    obtain⟨A9,n9,c9,e9⟩:=hs _ (List.mem_of_getElem? h2)
    cases e9
  |some q=>simp [World.cell?,hk] at h2
 have hnu:NoU cs:=λq hq k z e9=>by
  obtain⟨A9,n9,c9,e8⟩:=hs q hq
  rw [e8] at e9
  cases e9
 have hc:∀j,w'.cell? (ad.add j)=w.cell? (ad.add j):=λj=>ho.2 _ (by rw [zao];exact h1) (by rw [zao];exact hne)
 exact⟨ad,b,B,m,d,F,u,v,e,Nat.lt_of_lt_of_le h1 ho.1,(hc _).trans h2,(hc _).trans h3,(hc _).trans h4,zaf.offg h5 hk hnu ho⟩
theorem zkh {w w':World}{v:Value}{A:oA9}{n c:Nat}{xs:List Rat}(h:zaC w A n c xs)(hg:w.grownBy w' v.ownBlock)(hn:zbM w v):zaC w' A n c xs:=by
 cases hv:v.ownBlock with
 |none=>rw [hv] at hg;exact h.keep (zbk hg)
 |some g=>
   rw [hv] at hg
   obtain⟨t,cs,hk,hc⟩:=hn.blk hv
   exact vec_offS h hk hc (zbe.of_grown hg)
structure zcH (w:World)(base:Nat)(v:Value)(Ls:List (List Rat))(vs:List Value):Prop where
 own:w.ownsRow base 71 1 v Ls.length vs
 sl:zbM w v
 num:∀(i:Nat) (L:List Rat),Ls[i]?=some L->∃(B:oA9) (d:Nat),vs[i]?=some (Value.slice B L.length d)/\zaC w B L.length d L
theorem zcH.nil (w:World)(base:Nat):zcH w base (.slice none 0 0) [] []:=⟨World.ownsRow_nil _ _ _ _,zbM.nil _ _,λi L hi=>by simp at hi⟩
theorem zcH.len {w:World}{base:Nat}{v:Value}{Ls:List (List Rat)}{vs:List Value}(h:zcH w base v Ls vs):vs.length=Ls.length:=by have:=h.own.1;omega
theorem zcH.shape {w:World}{base n:Nat}{v:Value}{Ls:List (List Rat)}{vs:List Value}(h:zcH w base v Ls vs)(hn:Ls.length=n):∃A c,v=.slice A n c/\zha w A n Ls:=by
 subst hn
 obtain⟨A,c,e,h1,h2,h3⟩:=zas.of_grown_own h.own
 refine⟨A,c,e,rfl,λi L hi=>?_⟩
 obtain⟨B,d,hv,hw⟩:=h.num i L hi
 have hlt:=(List.getElem?_eq_some_iff.1 hi).1
 obtain⟨ad,ea,hb,hc⟩:=h3.2 (by omega)
 exact⟨ad,B,d,ea,hb,hc i _ hv,hw⟩
theorem zcH.below {w w':World}{base:Nat}{v:Value}{Ls:List (List Rat)}{vs:List Value}(h:zcH w base v Ls vs)(hb:Below w.heap.size w w'):zcH w' base v Ls vs:=by
 refine⟨⟨h.own.1,?_⟩,h.sl.below hb,λi L hi=>?_⟩
 ·rcases h.own.2 with h1|⟨g,cap,cur,e1,e2,e3,e4⟩
  ·exact .inl h1
  ·exact .inr ⟨g,cap,cur,e1,e2,(hb.block g (Blk.lt (t:=71) (cs:=cur) e3)).trans e3,e4⟩
 ·obtain⟨B,d,hv,hw⟩:=h.num i L hi
  exact⟨B,d,hv,hw.keep hb⟩
theorem zcH.grow {w w':World}{base n:Nat}{v v':Value}{Ls:List (List Rat)}{vs:List Value}{L:List Rat}{B:oA9}{d:Nat}(h:zcH w base v Ls vs)(hx:zaC w B L.length d L)
  (ho:w'.ownsRow base 71 1 v' n (vs++[.slice B L.length d])) (hn:n=Ls.length+1) (hg:w.grownBy w' v.ownBlock) (hs:zbM w' v'):zcH w' base v' (Ls++[L]) (vs++[.slice B L.length d]):=by
 have hl:=h.len
 refine⟨by rw [List.length_append,List.length_singleton,<-hn];exact ho,hs,λi M hi=>?_⟩
 by_cases hlt:i<Ls.length
 ·rw [List.getElem?_append_left hlt] at hi
  obtain⟨C,e,hv,hw⟩:=h.num i M hi
  exact⟨C,e,by rw [List.getElem?_append_left (by omega)];exact hv,zkh hw hg h.sl⟩
 ·rw [List.getElem?_append_right (by omega)] at hi
  have hi2:i=Ls.length:=by
   have:=(List.getElem?_eq_some_iff.1 hi).1
   simp at this
   omega
  subst hi2
  obtain rfl:L=M:=by
   rw [Nat.sub_self] at hi
   injection hi
  exact⟨B,d,by rw [List.getElem?_append_right (by omega),hl,Nat.sub_self];rfl,zkh hx hg h.sl⟩
theorem zfJ:(Tryz.prog.info? 71).map (λi=>(i.zero,i.size,i.bytes))=some (some (.slice none 0 0),1,24):=by kernel_rfl
theorem zha.get {w:World}{A:oA9}{n:Nat}{Ls:List (List Rat)}(h:zha w A n Ls){i m:Nat}(hi:i<n)(hm:(Ls.getD i []).length=m):∃(ad:Addr) (B:oA9) (d:Nat),A=some ad/\w.cell? (ad.add i)=some (.slice B m d)/\zaC w B m d (Ls.getD i []):=by
 have hl:=h.len
 obtain⟨ad,B,d,e,_,h1,h2⟩:=h.num i _ (zbF (d:=[]) (by omega))
 rw [hm] at h1 h2
 exact⟨ad,B,d,e,h1,h2⟩
abbrev RowV:=Nat->oA9×Nat×Nat×List (Int×Int)
section
variable {α:Type}{E:El α}
theorem row_neS {w:World}{A:oA9}{n c g:Nat}{xs:List α}{t:TypeId}{cs:Array Value}(h:zaM E w A n c xs)(hk:Blk w g t cs)(hs:∀u ∈ cs.toList,∀b,u≠.bool b):0<n->∀ad,A=some ad->ad.block≠g:=λhn ad0 e0 hg=>by
 have hl:=h.len
 have h0:0<xs.length:=by omega
 obtain⟨ad,b,B,m,d,F,u,v,e,h1,h2,h3,h4,h5⟩:=h.num 0 _ (List.getElem?_eq_getElem h0)
 obtain rfl:ad0=ad:=by rw [e0] at e;injection e
 have hb:(ad0.add (0*3)).block=g:=by rw [zao];exact hg
 generalize ad0.add (0*3)=q at hb h2
 obtain⟨bk,off,pr⟩:=q
 simp only at hb
 subst hb
 unfold Blk at hk
 cases pr with
 |none=>
   rw [show w.cell? ⟨bk,off,none⟩=cs[off]? from cell_of_row w bk off _ t (0,0) hk,<-Array.getElem?_toList] at h2
   exact hs _ (List.mem_of_getElem? h2) b rfl
 |some q=>simp [World.cell?,hk] at h2
theorem zon {w w':World}{A:oA9}{n c g:Nat}{xs:List α}{t:TypeId}{cs:Array Value}(h:zaM E w A n c xs)(hk:Blk w g t cs)(hs:∀u ∈ cs.toList,∀b,u≠.bool b)(ho:zbe g w w')
  (hE:∀{x:α} {b:Bool} {A:oA9} {n c:Nat} {F:oA9} {k f:Nat},E w x b A n c F k f->E w' x b A n c F k f):zaM E w' A n c xs:=by
 have hne:=row_neS h hk hs
 refine⟨h.len,h.fits,h.most,λi x hi=>?_⟩
 have hl:=h.len
 have hlt:=(List.getElem?_eq_some_iff.1 hi).1
 obtain⟨ad,b,B,m,d,F,u,v,e,h1,h2,h3,h4,h5⟩:=h.num i x hi
 have hc:∀j,w'.cell? (ad.add j)=w.cell? (ad.add j):=λj=>ho.2 _ (by rw [zao];exact h1) (by rw [zao];exact hne (by omega) ad e)
 exact⟨ad,b,B,m,d,F,u,v,e,Nat.lt_of_lt_of_le h1 ho.1,(hc _).trans h2,(hc _).trans h3,(hc _).trans h4,hE h5⟩
theorem zpx {cs:Array Value}(hs:∀u ∈ cs.toList,zch u):∀u ∈ cs.toList,∀b,u≠.bool b:=λu hu b e=>by
 obtain⟨A,n,c,e2⟩:=hs u hu
 rw [e2] at e
 cases e
theorem sl_nou {cs:Array Value}(hs:∀u ∈ cs.toList,zch u):NoU cs:=λq hq k z e9=>by
 obtain⟨A9,n9,c9,e8⟩:=hs q hq
 rw [e8] at e9
 cases e9
theorem zmg (hE:zdH E){w w':World}{A:oA9}{n c g:Nat}{xs:List α}{t:TypeId}{cs:Array Value}(h:zaM E w A n c xs)(hk:Blk w g t cs)(hs:∀u ∈ cs.toList,zch u)(ho:zbe g w w'):zaM E w' A n c xs:=
 zon h hk (zpx hs) ho (λh5=>hE.offg h5 hk (sl_nou hs) ho)
end
abbrev RP (α:Type):=World->oA9->Nat->Nat->List α->Prop
structure zcd {α:Type}(R:RP α):Prop where
 len:∀{w:World} {A:oA9} {n c:Nat} {xs:List α},R w A n c xs->xs.length=n
 below:∀{w w':World} {A:oA9} {n c:Nat} {xs:List α},R w A n c xs->Below w.heap.size w w'->R w' A n c xs
 offS:∀{w w':World} {A:oA9} {n c g:Nat} {xs:List α} {t:TypeId} {cs:Array Value},R w A n c xs->Blk w g t cs->(∀u ∈ cs.toList,zch u)->zbe g w w'->R w' A n c xs
 nil:∀w:World,R w none 0 0 []
theorem zam {α:Type}{E:El α}(hE:zdH E):zcd (zaM E):=⟨λh=>h.len,λh hb=>h.below hE hb,λh hk hs ho=>zmg hE h hk hs ho,λw=>zaM.nil w⟩
theorem zcd.grown {α:Type}{R:RP α}(hR:zcd R){w w':World}{v:Value}{A:oA9}{n c:Nat}{xs:List α}(h:R w A n c xs)(hg:w.grownBy w' v.ownBlock)(hn:zbM w v):R w' A n c xs:=by
 cases hv:v.ownBlock with
 |none=>rw [hv] at hg;exact hR.below h (zbk hg)
 |some g=>
   rw [hv] at hg
   obtain⟨t,cs,hk,hc⟩:=hn.blk hv
   exact hR.offS h hk hc (zbe.of_grown hg)
section
variable {α:Type}{R:RP α}
structure zaz (R:RP α)(w:World)(A:oA9)(n:Nat)(Ls:List (List α)):Prop where
 len:Ls.length=n
 num:∀i L,Ls[i]?=some L->∃(ad:Addr) (B:oA9) (d:Nat),A=some ad/\ad.block<w.heap.size/\w.cell? (ad.add i)=some (.slice B L.length d)/\R w B L.length d L
theorem zaz.below (hR:zcd R){w w':World}{A:oA9}{n:Nat}{Ls:List (List α)}(h:zaz R w A n Ls)(hb:Below w.heap.size w w'):zaz R w' A n Ls:=
 ⟨h.len,λi L hi=>by
  obtain⟨ad,B,d,e,h1,h2,h3⟩:=h.num i L hi
  exact⟨ad,B,d,e,Nat.lt_of_lt_of_le h1 hb.size,zac hb h2,hR.below h3 hb⟩⟩
theorem zaz.nil (w:World)(A:oA9):zaz R w A 0 []:=⟨rfl,λi L hi=>by simp at hi⟩
theorem zaz.get (hR:zcd R){w wr:World}{A:oA9}{n m:Nat}{Ls:List (List α)}(h:zaz R w A n Ls)(hb:Below w.heap.size w wr){i:Nat}(hi:i<n)(hm:(Ls.getD i []).length=m):∃(ad:Addr) (B:oA9) (d:Nat),A=some ad/\ad.block<w.heap.size/\wr.cell? (ad.add i)=some (.slice B m d)/\R wr B m d (Ls.getD i []):=by
 have hl:=h.len
 obtain⟨ad,B,d,e,h1,h2,h3⟩:=h.num i _ (zbF (d:=[]) (by omega))
 rw [hm] at h2 h3
 exact⟨ad,B,d,e,h1,zac hb h2,hR.below h3 hb⟩
theorem zaz.off {w w':World}{A:oA9}{n g:Nat}{Ls:List (List α)}(h:zaz R w A n Ls)(hf:∀ad,A=some ad->ad.block≠g)(ho:zbe g w w')(hE2:∀{B:oA9} {m d:Nat} {L:List α},R w B m d L->R w' B m d L):zaz R w' A n Ls:=
 ⟨h.len,λi L hi=>by
  obtain⟨ad,B,d,e,h1,h2,h3⟩:=h.num i L hi
  exact⟨ad,B,d,e,Nat.lt_of_lt_of_le h1 ho.1,(ho.2 _ (by rw [zao];exact h1) (by rw [zao];exact hf ad e)).trans h2,hE2 h3⟩⟩
structure zaZ (R:RP α)(w:World)(t:TypeId)(g n:Nat)(Ls:List (List α)):Prop where
 len:Ls.length=n
 blk:∃cs:Array Value,Blk w g t cs/\(∀u ∈ cs.toList,zch u)/\cs.size=n
 num:∀i L,Ls[i]?=some L->∃(B:oA9) (d:Nat),w.cell? ⟨g,i,none⟩=some (.slice B L.length d)/\R w B L.length d L
theorem zaZ.lt {w:World}{t:TypeId}{g n:Nat}{Ls:List (List α)}(h:zaZ R w t g n Ls):g<w.heap.size:=by
 obtain⟨cs,hk,_⟩:=h.blk
 exact hk.lt
theorem zaZ.below (hR:zcd R){w w':World}{t:TypeId}{g n:Nat}{Ls:List (List α)}(h:zaZ R w t g n Ls)(hb:Below w.heap.size w w'):zaZ R w' t g n Ls:=by
 refine⟨h.len,?_,λi x hi=>?_⟩
 ·obtain⟨cs,hk,h1,h2⟩:=h.blk
  exact⟨cs,zab hb hk,h1,h2⟩
 ·obtain⟨B,d,h1,h2⟩:=h.num i x hi
  exact⟨B,d,zac hb h1,hR.below h2 hb⟩
theorem zaZ.rows {w:World}{t:TypeId}{g n:Nat}{Ls:List (List α)}(h:zaZ R w t g n Ls):zaz R w (some ⟨g,0,none⟩) n Ls:=
 ⟨h.len,λi x hi=>by
  obtain⟨B,d,h1,h2⟩:=h.num i x hi
  exact⟨_,B,d,rfl,h.lt,by rw [zaK];exact h1,h2⟩⟩
theorem zaZ.ready {w:World}{t:TypeId}{g n:Nat}{Ls:List (List α)}(h:zaZ R w t g n Ls){i:Nat}(hi:i<n):∃a:Value,w.cell? ⟨g,i,none⟩=some a/\w.frozen? ⟨g,i,none⟩=false:=by
 obtain⟨cs,hk,h1,h2⟩:=h.blk
 have e0:i<cs.size:=by omega
 exact⟨_,(hk.cell _).trans (Array.getElem?_eq_getElem e0),hk.frozen _⟩
theorem zaZ.set_ (hR:zcd R){w:World}{t:TypeId}{g n m:Nat}{Ls:List (List α)}(h:zaZ R w t g n Ls){i:Nat}(hi:i<n){L:List α}{B:oA9}{d:Nat}(hx:R w B m d L)(hm:L.length=m):
  zaZ R (w.setCell ⟨g,i,none⟩ (.slice B m d)) t g n (Ls.set i L):=by
 subst hm
 obtain⟨cs,hk,h1,h2⟩:=h.blk
 have ho:zbe g w (w.setCell ⟨g,i,none⟩ (.slice B L.length d)):=zbe.of_far ((zba.refl g w).set_ i _)
 have hk3:=hk.set_ i (.slice B L.length d)
 refine⟨by rw [List.length_set];exact h.len,⟨_,hk3,?_,by simp;exact h2⟩,λj y hj=>?_⟩
 ·intro u hu
  rw [Array.toList_setIfInBounds] at hu
  rcases List.mem_or_eq_of_mem_set hu with hu|rfl
  ·exact h1 u hu
  ·exact⟨_,_,_,rfl⟩
 ·by_cases hij:i=j
  ·subst hij
   have hl:=h.len
   rw [List.getElem?_set_self (by omega)] at hj
   injection hj with hj
   subst hj
   refine⟨B,d,?_,hR.offS hx hk h1 ho⟩
   rw [hk3.cell,Array.getElem?_setIfInBounds_self_of_lt (by omega)]
  ·rw [List.getElem?_set_ne hij] at hj
   obtain⟨B',d',c1,c2⟩:=h.num j y hj
   refine⟨B',d',?_,hR.offS c2 hk h1 ho⟩
   rw [hk3.cell,Array.getElem?_setIfInBounds_ne (by omega),<-hk.cell]
   exact c1
def zjn:Array Value:=#[.slice none 0 0]
theorem zero1_sl (n:Nat):∀u ∈(madeCells zjn n).toList,zch u:=by
 intro v hv
 rw [Array.mem_toList_iff,Array.mem_iff_getElem?] at hv
 obtain⟨j,hj⟩:=hv
 have hlt:j<n:=by
  have:=(Array.getElem?_eq_some_iff.1 hj).1
  rwa [size_madeCells] at this
 rw [zbG _ _ _ hlt,show zjn.size=1 from rfl,Nat.mod_one] at hj
 simp [zjn] at hj
 exact⟨_,_,_,hj.symm⟩
theorem zaZ.made (hR:zcd R)(w:World)(t:TypeId)(n:Nat):zaZ R (w.alloc (.cells (madeCells zjn n) t)) t w.heap.size n (List.replicate n []):=by
 have hk:=Blk.new w t (madeCells zjn n)
 refine⟨by simp,⟨_,hk,zero1_sl _,size_madeCells _ _⟩,λi x hi=>?_⟩
 have hlt:i<n:=by
  have:=(List.getElem?_eq_some_iff.1 hi).1
  simpa using this
 obtain rfl:[]=x:=by
  rw [List.getElem?_replicate,if_pos hlt] at hi
  injection hi
 refine⟨none,0,?_,hR.nil _⟩
 rw [hk.cell,zbG _ _ _ hlt,show zjn.size=1 from rfl,Nat.mod_one]
 rfl
structure zbj (R:RP α)(w:World)(base:Nat)(t:TypeId)(v:Value)(Ls:List (List α))(vs:List Value):Prop where
 own:w.ownsRow base t 1 v Ls.length vs
 sl:zbM w v
 num:∀(i:Nat) (L:List α),Ls[i]?=some L->∃(B:oA9) (d:Nat),vs[i]?=some (Value.slice B L.length d)/\R w B L.length d L
theorem zbj.nil (w:World)(base:Nat)(t:TypeId):zbj R w base t (.slice none 0 0) [] []:=⟨World.ownsRow_nil _ _ _ _,zbM.nil _ _,λi L hi=>by simp at hi⟩
theorem zbj.len {w:World}{base:Nat}{t:TypeId}{v:Value}{Ls:List (List α)}{vs:List Value}(h:zbj R w base t v Ls vs):vs.length=Ls.length:=by have:=h.own.1;omega
theorem zbj.shape {w:World}{base n:Nat}{t:TypeId}{v:Value}{Ls:List (List α)}{vs:List Value}(h:zbj R w base t v Ls vs)(hn:Ls.length=n):∃A c,v=.slice A n c/\n<=c/\c<=9223372036854775807/\zaz R w A n Ls/\∀ad,A=some ad->base<=ad.block:=by
 subst hn
 rcases h.own.2 with⟨rfl,h0⟩|⟨g,cap,cur,rfl,hbg,hg,hnc,hcm,hcs,htake⟩
 ·have hx:Ls=[]:=List.eq_nil_of_length_eq_zero h0
  subst hx
  exact⟨none,0,rfl,Nat.le_refl _,by decide,zaz.nil w none,λad e=>by cases e⟩
 ·have hcell:=h.own.cells (g:=g) rfl
  refine⟨some ⟨g,0,none⟩,cap,rfl,hnc,by unfold maxLen at hcm;omega,⟨rfl,λi L hi=>?_⟩,λad e=>by injection e with e;subst e;exact hbg⟩
  obtain⟨B,d,hv,hw⟩:=h.num i L hi
  exact⟨_,B,d,rfl,(Array.getElem?_eq_some_iff.1 hg).1,hcell _ _ hv,hw⟩
theorem zbj.below (hR:zcd R){w w':World}{base:Nat}{t:TypeId}{v:Value}{Ls:List (List α)}{vs:List Value}(h:zbj R w base t v Ls vs)(hb:Below w.heap.size w w'):zbj R w' base t v Ls vs:=by
 refine⟨⟨h.own.1,?_⟩,h.sl.below hb,λi L hi=>?_⟩
 ·rcases h.own.2 with h1|⟨g,cap,cur,e1,e2,e3,e4⟩
  ·exact .inl h1
  ·exact .inr ⟨g,cap,cur,e1,e2,(hb.block g (Blk.lt (t:=t) (cs:=cur) e3)).trans e3,e4⟩
 ·obtain⟨B,d,hv,hw⟩:=h.num i L hi
  exact⟨B,d,hv,hR.below hw hb⟩
theorem zbj.grow (hR:zcd R){w w':World}{base n m:Nat}{t:TypeId}{v v':Value}{Ls:List (List α)}{vs:List Value}{L:List α}{B:oA9}{d:Nat}(h:zbj R w base t v Ls vs)(hx:R w B m d L)(hm:L.length=m)
  (ho:w'.ownsRow base t 1 v' n (vs++[.slice B m d])) (hn:n=Ls.length+1) (hg:w.grownBy w' v.ownBlock) (hs:zbM w' v'):zbj R w' base t v' (Ls++[L]) (vs++[.slice B m d]):=by
 subst hm
 have hl:=h.len
 refine⟨by rw [List.length_append,List.length_singleton,<-hn];exact ho,hs,λi M hi=>?_⟩
 by_cases hlt:i<Ls.length
 ·rw [List.getElem?_append_left hlt] at hi
  obtain⟨C,e,hv,hw⟩:=h.num i M hi
  exact⟨C,e,by rw [List.getElem?_append_left (by omega)];exact hv,hR.grown hw hg h.sl⟩
 ·rw [List.getElem?_append_right (by omega)] at hi
  have hi2:i=Ls.length:=by
   have:=(List.getElem?_eq_some_iff.1 hi).1
   simp at this
   omega
  subst hi2
  obtain rfl:L=M:=by
   rw [Nat.sub_self] at hi
   injection hi
  exact⟨B,d,by rw [List.getElem?_append_right (by omega),hl,Nat.sub_self];rfl,hR.grown hx hg h.sl⟩
theorem zfM (hR:zcd R){w:World}{g:Nat}{t:TypeId}{A B:oA9}{n m c d:Nat}{xs ys:List α}(h:Blk w g t #[.slice A n c,.slice B m d])(h1:R w A n c xs)(h2:R w B m d ys):zaz R w (some ⟨g,0,none⟩) 2 [xs,ys]:=by
 refine⟨rfl,λi L hi=>?_⟩
 have hlx:=hR.len h1
 have hly:=hR.len h2
 match i,hi with
 |0,hi=>
   obtain rfl:xs=L:=by simpa using hi
   rw [hlx]
   exact⟨_,A,c,rfl,h.lt,by rw [zaK];exact h.cell 0,h1⟩
 |1,hi=>
   obtain rfl:ys=L:=by simpa using hi
   rw [hly]
   exact⟨_,B,d,rfl,h.lt,by rw [zaK];exact h.cell 1,h2⟩
 |i+2,hi=>simp at hi
end
theorem zhh (n:Nat)(hn:n<=1099511627776):∃Z:Array Value,∀W:World,(Instr.makeSlice 30 (.int .i64 (n:Int)) (.int .i64 (n:Int))).run Tryz.prog W=.ok (.slice (some ⟨W.heap.size,0,none⟩) n n) (W.alloc (.cells Z 71))/\zaZ (zaM zah) (W.alloc (.cells Z 71)) 71 W.heap.size n (List.replicate n []):=by
 obtain⟨i0,hi0,hz0,hz1,hz2⟩:=info_parts zfJ
 refine⟨madeCells zjn n,λW=>⟨?_,zaZ.made (zam zaf) W _ n⟩⟩
 have h:=zaY (P:=Tryz.prog) _ _ i0 _ Tryz.underlying30 hi0 hz0 .i64 .i64 n n (Nat.le_refl _) (by rw [hz2];omega) (by omega) W
 rw [hz1,Nat.mul_one] at h
 exact h
theorem zeT {P:Program}(w:World){o:Oper}{a:Act}{K:Act->World->Prop}{Q:Exit->Act->World->Prop}(s x:Operand)(t:TypeId)
  (ho:o.op=.call {callee:=.builtin .append,args:=#[s,x],argTypes:=#[t,t]})
  (base:Nat) (e:TypeId) (i:TypeInfo) (z:Value) (size bytes:Nat) (ht:P.underlying t=some (.slice e)) (hi:P.info? e=some i) (hz:i.zero=some z)
  (hsize:i.size=size) (hby:i.bytes=bytes) (hzs:z.cells.size=size) (hsz:0<size)
  (v:Value) (n:Nat) (xs:List Value) (hs:a.eval s=v) (hown:w.ownsRow base e size v n xs)
  (ad:Addr) (m c:Nat) (news:List Value) (hx:a.eval x=.slice (some ad) m c) (hl:news.length=m*size) (hnews:∀j u,news[j]?=some u->w.cell? (ad.add j)=some u) (h1:∀u ∈ news,u.oneCell'=true)
  (h63:n+m<=maxLen) (hbytes:(n+m)*bytes<=140737488355328) (hbase:base<=w.heap.size)
  (hv:zbM w v) (hzn:∀u ∈ z.cells.toList,zch u) (hnn:∀u ∈ news,zch u)
  (h:∀v' w',w'.ownsRow base e size v' (n+m) (xs++news)->w.grownBy w' v.ownBlock->(v'.ownBlock=v.ownBlock\/v'.ownBlock=some w.heap.size)->zbM w' v'->K (a.put o.dst v') w'):Oper.wp P o a w K Q:=by
 obtain⟨v',w',hr,h2,h3,h4,h5⟩:=zfX (P:=P) w base t o.type e i z size bytes ht hi hz hsize hby hzs hsz v n xs hown ad m c news hl hnews h1 h63 hbytes hbase hv hzn hnn
 unfold Oper.wp execOp
 simp only [ho,resolve,invoke,builtin,Sem.run_bind,Sem.run_pure,Result.andThen_ok,List.map_toArray,List.map_cons,List.map_nil,hs,hx,hr]
 exact h v' w' h2 h3 h4 h5
