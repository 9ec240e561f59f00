/- What this claim leans on. -/
import Derived.Test.YtghpdeciaaagnaaGreatDoorIJ8Etc
namespace Go.Proofs.YtghpdeciaaagnaaGreatDoor
open Go Go.RowKit
set_option maxHeartbeats 16000000
set_option linter.unusedVariables false
set_option linter.unusedSimpArgs false
def zfx (Pc:Value->Prop)(w:World)(v:Value):Prop:=∀g,v.ownBlock=some g->∃(cur:Array Value) (e:TypeId),w.heap[g]?=some (.cells cur e (0,0))/\∀u ∈ cur.toList,Pc u
theorem zfx.nil {Pc:Value->Prop}(w:World)(c:Nat):zfx Pc w (.slice none 0 c):=λg h=>by simp [Value.ownBlock] at h
section
variable {P:Program}{Pc:Value->Prop}(w:World)
theorem zkx (base:Nat)(t ty e:TypeId)(i:TypeInfo)(z:Value)(size bytes:Nat)(ht:P.underlying t=some (.slice e))(hi:P.info? e=some i)(hz:i.zero=some z)
  (hsize:i.size=size) (hby:i.bytes=bytes) (hzs:z.cells.size=size) (hsz:0<size)
  (v:Value) (n:Nat) (xs:List Value) (hown:w.ownsRow base e size v n xs)
  (a:Addr) (m c:Nat) (news:List Value) (hl:news.length=m*size) (hnews:∀j u,news[j]?=some u->w.cell? (a.add j)=some u) (h1:∀u ∈ news,u.oneCell'=true)
  (h63:n+m<=maxLen) (hbytes:(n+m)*bytes<=140737488355328) (hbase:base<=w.heap.size)
  (hv:zfx Pc w v) (hzn:∀u ∈ z.cells.toList,Pc u) (hnn:∀u ∈ news,Pc u):
  ∃ v' w',(Builtin.append_ #[t,t] ty #[v,.slice (some a) m c]).run P w = .ok v' w' ∧ w'.ownsRow base e size v' (n + m) (xs ++ news) ∧ w.grownBy w' v.ownBlock ∧
   (v'.ownBlock=v.ownBlock\/v'.ownBlock=some w.heap.size)/\zfx Pc w' v':=by
 subst hsize
 subst hby
 have hsmall:n+m<=9223372036854775807:=by simp only [maxLen] at h63;omega
 have hlen:(xs++news).length=(n+m)*i.size:=by rw [List.length_append,hown.1,hl,Nat.add_mul]
 have grown : ∀ (old : Nat),old < n + m → (∀ u ∈ xs,Pc u) → ∀ (row : Option Nat),
   (w.drew.alloc (.cells (xs.toArray ++ news.toArray ++ Builtin.zeroCells z.cells (grownCap w (n + m) old e - (n + m))) e)).ownsRow base e i.size
     (.slice (some ⟨w.heap.size,0,none⟩) (n+m) (grownCap w (n+m) old e)) (n+m) (xs++news)/\
   w.grownBy (w.drew.alloc (.cells (xs.toArray++news.toArray++Builtin.zeroCells z.cells (grownCap w (n+m) old e - (n+m))) e)) row/\
   zfx Pc (w.drew.alloc (.cells (xs.toArray++news.toArray++Builtin.zeroCells z.cells (grownCap w (n+m) old e - (n+m))) e)) (.slice (some ⟨w.heap.size,0,none⟩) (n+m) (grownCap w (n+m) old e)):=by
  intro old ho hxs row
  have hge:=grownCap_ge w (n+m) old e
  have hcm:grownCap w (n+m) old e<=maxLen:=grownCap_le_maxLen w (n+m) old e h63
  refine⟨⟨hlen,.inr ⟨w.heap.size,_,_,rfl,hbase,heap_alloc_new w.drew _,hge,hcm,?_,?_⟩⟩,⟨rfl,rfl,rfl,by simp,λk hk _=>heap_alloc_old w.drew _ hk⟩,?_⟩
  ·simp only [Array.size_append,List.size_toArray,size_zeroCells,hzs,hown.1,hl,<-Nat.add_mul]
   congr 1
   omega
  ·simp only [Array.toList_append,List.append_assoc]
   rw [<-List.append_assoc,<-hlen]
   exact List.take_left
  ·intro g hg
   simp [Value.ownBlock] at hg
   subst hg
   refine⟨_,_,heap_alloc_new w.drew _,λu hu=>?_⟩
   simp only [Array.toList_append,List.mem_append] at hu
   rcases hu with(hu|hu)|hu
   ·exact hxs u hu
   ·exact hnn u hu
   ·exact hzn u (zfZ (by omega) hu)
 rcases hown.2 with⟨rfl,rfl⟩|⟨g,cap,cur,rfl,hbg,hg,hnc,hcm,hcs,htake⟩
 ·have hx:xs=[]:=List.eq_nil_of_length_eq_zero (by simpa using hown.1)
  subst hx
  by_cases hm:m=0
  ·subst hm
   have hn:news=[]:=List.eq_nil_of_length_eq_zero (by simpa using hl)
   subst hn
   refine⟨.slice none 0 0,w,?_,World.ownsRow_nil w base e i.size,⟨rfl,rfl,rfl,Nat.le_refl _,λ_ _ _=>rfl⟩,Or.inl rfl,zfx.nil _ _⟩
   simp [Builtin.append_,run_underlying ht,sizeOf,typeInfo,hi,Builtin.lenOf,Builtin.firstCells,loadCells,loadCellsFrom]
  ·have hr:=run_append_nil (P:=P) w t ty e i z ht hi hz a m c news hl hnews (by omega) (by omega) (by have hb:=hbytes;simp only [Nat.zero_add] at hb;omega)
   have hgr:=grown 0 (by omega) (λu hu=>by cases hu) (Value.ownBlock (.slice none 0 0))
   simp only [Nat.zero_add,List.nil_append,Array.empty_append] at hgr⊢
   exact⟨_,_,hr,hgr.1,hgr.2.1,Or.inr rfl,hgr.2.2⟩
 ·obtain⟨cur2,e2,hg2,hcn⟩:=hv g rfl
  have hcur:cur2=cur:=by
   rw [hg] at hg2
   injection hg2 with hg2
   injection hg2 with hg2
   exact hg2.symm
  subst hcur
  by_cases hroom:n+m<=cap
  ·have hfit:n*i.size+news.length<=cur2.size:=by rw [hl,hcs,<-Nat.add_mul];exact Nat.mul_le_mul_right _ hroom
   have hr:=run_append_room (P:=P) w t ty e i ht hi g n cap cur2 hg a m c news hl hnews h1 hroom hfit
   refine⟨_,_,hr,⟨hlen,.inr ⟨g,cap,_,rfl,hbg,setRow_heap w g cur2 _ e _ hg,hroom,hcm,?_,?_⟩⟩,⟨rfl,rfl,rfl,by simp,λk _ hk=>setRow_other w g k _ (λe=>hk (by simp [Value.ownBlock,e]))⟩,Or.inl rfl,?_⟩
   ·simp only [List.size_toArray,List.length_append,List.length_take,List.length_drop,Array.length_toList]
    omega
   ·rw [htake,<-hlen]
    exact List.take_left
   ·intro g' hg'
    simp [Value.ownBlock] at hg'
    subst hg'
    refine⟨_,_,setRow_heap w g cur2 _ e _ hg,λu hu=>?_⟩
    rw [List.mem_append,List.mem_append] at hu
    rcases hu with(hu|hu)|hu
    ·exact hcn u (List.mem_of_mem_take hu)
    ·exact hnn u hu
    ·exact hcn u (List.mem_of_mem_drop hu)
  ·have holds:∀j u,xs[j]?=some u->w.cell? ((⟨g,0,none⟩:Addr).add j)=some u:=hown.cells (g:=g) rfl
   have hr:=run_append_grow (P:=P) w t ty e i z ht hi hz ⟨g,0,none⟩ n cap xs hown.1 holds a m c news hl hnews (by omega) (by omega) (growslice_fits (by omega) hbytes)
   have hxs:∀u ∈ xs,Pc u:=λu hu=>hcn u (List.mem_of_mem_take (by rw [htake];exact hu))
   have hgr:=grown cap (by omega) hxs (Value.ownBlock (.slice (some ⟨g,0,none⟩) n cap))
   exact⟨_,_,hr,hgr.1,hgr.2.1,Or.inr rfl,hgr.2.2⟩
end
theorem zhH {P:Program}{Pc:Value->Prop}(w:World){o:Oper}{a:Act}{K:Act->World->Prop}{Q:Exit->Act->World->Prop}(s x:Operand)(t:TypeId)
  (ho:o.op=.call {callee:=.builtin .append,args:=#[s,x],argTypes:=#[t,t]})
  (base:Nat) (e:TypeId) (i:TypeInfo) (z:Value) (size bytes:Nat) (ht:P.underlying t=some (.slice e)) (hi:P.info? e=some i) (hz:i.zero=some z)
  (hsize:i.size=size) (hby:i.bytes=bytes) (hzs:z.cells.size=size) (hsz:0<size)
  (v:Value) (n:Nat) (xs:List Value) (hs:a.eval s=v) (hown:w.ownsRow base e size v n xs)
  (ad:Addr) (m c:Nat) (news:List Value) (hx:a.eval x=.slice (some ad) m c) (hl:news.length=m*size) (hnews:∀j u,news[j]?=some u->w.cell? (ad.add j)=some u) (h1:∀u ∈ news,u.oneCell'=true)
  (h63:n+m<=maxLen) (hbytes:(n+m)*bytes<=140737488355328) (hbase:base<=w.heap.size)
  (hv:zfx Pc w v) (hzn:∀u ∈ z.cells.toList,Pc u) (hnn:∀u ∈ news,Pc u)
  (h:∀v' w',w'.ownsRow base e size v' (n+m) (xs++news)->w.grownBy w' v.ownBlock->(v'.ownBlock=v.ownBlock\/v'.ownBlock=some w.heap.size)->zfx Pc w' v'->K (a.put o.dst v') w'):Oper.wp P o a w K Q:=by
 obtain⟨v',w',hr,h2,h3,h4,h5⟩:=zkx (P:=P) w base t o.type e i z size bytes ht hi hz hsize hby hzs hsz v n xs hown ad m c news hl hnews h1 h63 hbytes hbase hv hzn hnn
 unfold Oper.wp execOp
 simp only [ho,resolve,invoke,builtin,Sem.run_bind,Sem.run_pure,Result.andThen_ok,List.map_toArray,List.map_cons,List.map_nil,hs,hx,hr]
 exact h v' w' h2 h3 h4 h5
def VZ (z:Nat):RP Rat:=λw A n c xs=>zaz w A n c xs/\∀ad,A=some ad->z<ad.block
theorem zcB (z:Nat):zbW (VZ z) where
 len h:=h.1.len
 below h hb:=⟨h.1.keep hb,h.2⟩
 offS h hk hs ho:=⟨zhy zaf h.1 hk hs ho,h.2⟩
 nil w:=⟨zaI.nil w,λad e=>by cases e⟩
theorem vec_offN {w w':World}{A:oA9}{n c g:Nat}{xs:List Rat}{t:TypeId}{cs:Array Value}(h:zaz w A n c xs)(hne:∀ad,A=some ad->ad.block≠g)(hk:Blk w g t cs)(hcs:NoK .u64 cs)(ho:zbl g w w'):zaz w' A n c xs:=by
 refine⟨h.len,h.fits,h.most,λi x hi=>?_⟩
 obtain⟨ad,b,B,m,d,F,u,v,e,h1,h2,h3,h4,h5⟩:=h.num i x hi
 have hc:∀j,w'.cell? (ad.add j)=w.cell? (ad.add j):=λj=>ho.2 _ (by rw [zap];exact h1) (by rw [zap];exact hne ad e)
 exact⟨ad,b,B,m,d,F,u,v,e,Nat.lt_of_lt_of_le h1 ho.1,(hc _).trans h2,(hc _).trans h3,(hc _).trans h4,zcO hk hcs ho h5⟩
theorem zmn {z:Nat}{w w':World}{A:oA9}{n c:Nat}{xs:List Rat}{t:TypeId}{cs:Array Value}(h:VZ z w A n c xs)(hk:Blk w z t cs)(hcs:NoK .u64 cs)(ho:zbl z w w'):VZ z w' A n c xs:=
 ⟨vec_offN h.1 (λad e=>by have:=h.2 ad e;omega) hk hcs ho,h.2⟩
theorem vz_offK {z g:Nat}{w w':World}{A:oA9}{n c:Nat}{xs:List Rat}{t:TypeId}{cs:Array Value}(h:VZ z w A n c xs)(hk:Blk w g t cs)(hs:∀u ∈ cs.toList,∀b,u≠.bool b)(hcs:NoK .u64 cs)(ho:zbl g w w'):VZ z w' A n c xs:=
 ⟨zkk h.1 hk hs hcs ho,h.2⟩
theorem zbv.off {α:Type}{R:RP α}{w w':World}{base:Nat}{t:TypeId}{v:Value}{Ls:List (List α)}{vs:List Value}(h:zbv R w base t v Ls vs)(hb:∀g s cs,v.ownBlock=some g->Blk w g s cs->Blk w' g s cs)
  (hE:∀{B:oA9} {m d:Nat} {L:List α},R w B m d L->R w' B m d L):zbv R w' base t v Ls vs:=by
 refine⟨⟨h.own.1,?_⟩,λg e=>?_,λi L hi=>?_⟩
 ·rcases h.own.2 with h1|⟨g,cap,cur,e1,e2,e3,e4⟩
  ·exact .inl h1
  ·exact .inr ⟨g,cap,cur,e1,e2,hb g t cur (by rw [e1];rfl) e3,e4⟩
 ·obtain⟨cur,s,h1,h2⟩:=h.sl g e
  exact⟨cur,s,hb g s cur e h1,h2⟩
 ·obtain⟨B,d,hv,hw⟩:=h.num i L hi
  exact⟨B,d,hv,hE hw⟩
theorem zbv.at_ {α:Type}{R:RP α}{w:World}{base n:Nat}{t:TypeId}{A:oA9}{k c:Nat}{Ls:List (List α)}{vs:List Value}(h:zbv R w base t (.slice A k c) Ls vs)(hn:0<Ls.length):∃g cur,A=some ⟨g,0,none⟩/\base<=g/\k=Ls.length/\k<=c/\c<=maxLen/\Blk w g t cur/\cur.size=c/\cur.toList.take k=vs/\∀u ∈ cur.toList,zcr u:=by
 rcases h.own.2 with⟨_,h0⟩|⟨g,cap,cur,e1,e2,e3,e4,e5,e6,e7⟩
 ·omega
 ·injection e1 with a1 a2 a3
  subst a1 a2 a3
  obtain⟨cur2,s,h1,h2⟩:=h.sl g rfl
  rw [e3] at h1
  injection h1 with h1
  injection h1 with h1 _
  subst h1
  exact⟨g,cur,rfl,e2,rfl,e4,e5,e3,by omega,by rw [<-e7,Nat.mul_one],h2⟩
theorem zbv.set_ {α:Type}{R:RP α}(hR:zbW R){w:World}{base:Nat}{t:TypeId}{g k c:Nat}{Ls:List (List α)}{vs:List Value}(h:zbv R w base t (.slice (some ⟨g,0,none⟩) k c) Ls vs){i:Nat}(hi:i<Ls.length){L:List α}{B:oA9}{m d:Nat}(hx:R w B m d L)(hm:L.length=m):
  zbv R (w.setCell ⟨g,i,none⟩ (.slice B m d)) base t (.slice (some ⟨g,0,none⟩) k c) (Ls.set i L) (vs.set i (.slice B m d)):=by
 subst hm
 obtain⟨g',cur,e1,e2,e3,e4,e5,hk,e6,e7,hs⟩:=h.at_ (n:=0) (by omega)
 injection e1 with e1
 injection e1 with e1
 subst e1
 have hl:=h.len
 have ho:zbl g w (w.setCell ⟨g,i,none⟩ (.slice B L.length d)):=zbl.of_far ((zbj.refl g w).set_ i _)
 have hk3:=hk.set_ i (.slice B L.length d)
 refine⟨⟨by rw [List.length_set,List.length_set,hl,Nat.mul_one],.inr ⟨g,c,_,by rw [List.length_set,<-e3],e2,hk3,by rw [List.length_set,<-e3];exact e4,e5,by simp;exact e6,?_⟩⟩,λq hq=>?_,λj M hj=>?_⟩
 ·rw [List.length_set,<-e3,Nat.mul_one,Array.toList_setIfInBounds,List.take_set,e7]
 ·simp [Value.ownBlock] at hq
  subst hq
  refine⟨_,_,hk3,λu hu=>?_⟩
  rw [Array.toList_setIfInBounds] at hu
  rcases List.mem_or_eq_of_mem_set hu with hu|rfl
  ·exact hs u hu
  ·exact⟨_,_,_,rfl⟩
 ·by_cases hij:i=j
  ·subst hij
   rw [List.getElem?_set_self hi] at hj
   injection hj with hj
   subst hj
   exact⟨B,d,by rw [List.getElem?_set_self (by omega)],hR.offS hx hk hs ho⟩
  ·rw [List.getElem?_set_ne hij] at hj
   obtain⟨B',d',c1,c2⟩:=h.num j M hj
   exact⟨B',d',by rw [List.getElem?_set_ne hij];exact c1,hR.offS c2 hk hs ho⟩
def zgZ (u:Value):Prop:=∃z,u=.int .i64 z
def ldV (ld:List Nat):List Value:=ld.map λl:Nat=>.int .i64 (l:Int)
structure zgq (w:World)(base:Nat)(v:Value)(ld:List Nat):Prop where
 own:w.ownsRow base 3 1 v ld.length (ldV ld)
 pr:zfx zgZ w v
theorem zgq.nil (w:World)(base:Nat):zgq w base (.slice none 0 0) []:=⟨World.ownsRow_nil _ _ _ _,zfx.nil _ _⟩
theorem zgq.off {w w':World}{base:Nat}{v:Value}{ld:List Nat}(h:zgq w base v ld)(hb:∀g s cs,v.ownBlock=some g->Blk w g s cs->Blk w' g s cs):zgq w' base v ld:=by
 refine⟨⟨h.own.1,?_⟩,λg e=>?_⟩
 ·rcases h.own.2 with h1|⟨g,cap,cur,e1,e2,e3,e4⟩
  ·exact .inl h1
  ·exact .inr ⟨g,cap,cur,e1,e2,hb g _ cur (by rw [e1];rfl) e3,e4⟩
 ·obtain⟨cur,s,h1,h2⟩:=h.pr g e
  exact⟨cur,s,hb g s cur e h1,h2⟩
theorem zgq.shape {w:World}{base:Nat}{v:Value}{ld:List Nat}(h:zgq w base v ld):∃A c,v=.slice A ld.length c/\ld.length<=c/\c<=9223372036854775807/\(∀ad,A=some ad->base<=ad.block)/\∀i,i<ld.length->∃ad,A=some ad/\w.cell? (ad.add i)=some (.int .i64 (ld.getD i 0:Nat)):=by
 rcases h.own.2 with⟨rfl,h0⟩|⟨g,cap,cur,rfl,hbg,hg,hnc,hcm,hcs,htake⟩
 ·exact⟨none,0,by rw [h0],by omega,by decide,(λad e=>by cases e),λi hi=>by omega⟩
 ·have hcell:=h.own.cells (g:=g) rfl
  refine⟨some ⟨g,0,none⟩,cap,rfl,hnc,by unfold maxLen at hcm;omega,(λad e=>by injection e with e;subst e;exact hbg),λi hi=>⟨_,rfl,hcell _ _ ?_⟩⟩
  unfold ldV
  rw [List.getElem?_map,List.getD_eq_getElem?_getD,List.getElem?_eq_getElem hi];rfl
theorem zoo {cs:Array Value}(hs:∀u ∈ cs.toList,zgZ u):∀u ∈ cs.toList,∀b,u≠.bool b:=λu hu b e=>by
 obtain⟨z,e2⟩:=hs u hu;rw [e2] at e;cases e
theorem zlJ {cs:Array Value}(hs:∀u ∈ cs.toList,zgZ u):NoK .u64 cs:=λu hu z e=>by
 obtain⟨z',e2⟩:=hs u hu;rw [e2] at e;cases e
theorem zfT {cs:Array Value}(hs:∀u ∈ cs.toList,zcr u):NoK .u64 cs:=λu hu z e=>by
 obtain⟨A,n,c,e2⟩:=hs u hu;rw [e2] at e;cases e
def RV (w:World)(x:Rat)(x0 x1 x2:Value):Prop:=∃(b:Bool) (A:oA9) (n c:Nat) (E:oA9) (k f:Nat),x0=.bool b/\x1=.slice A n c/\x2=.slice E k f/\zah w x b A n c E k f
theorem RV.of {w:World}{x:Rat}{b:Bool}{A:oA9}{n c:Nat}{E:oA9}{k f:Nat}(h:zah w x b A n c E k f):RV w x (.bool b) (.slice A n c) (.slice E k f):=⟨_,_,_,_,_,_,_,rfl,rfl,rfl,h⟩
theorem RV.below {w w':World}{x:Rat}{x0 x1 x2:Value}(h:RV w x x0 x1 x2)(hb:Below w.heap.size w w'):RV w' x x0 x1 x2:=by
 obtain⟨b,A,n,c,E,k,f,e0,e1,e2,hr⟩:=h;exact⟨b,A,n,c,E,k,f,e0,e1,e2,hr.below hb⟩
theorem RV.off {w w':World}{x:Rat}{x0 x1 x2:Value}{g:Nat}{t:TypeId}{cs:Array Value}(h:RV w x x0 x1 x2)(hk:Blk w g t cs)(hcs:NoK .u64 cs)(ho:zbl g w w'):RV w' x x0 x1 x2:=by
 obtain⟨b,A,n,c,E,k,f,e0,e1,e2,hr⟩:=h;exact⟨b,A,n,c,E,k,f,e0,e1,e2,zcO hk hcs ho hr⟩
structure ElS (w:World)(g:Nat)(e:ESt)(rd:Rat)(A:oA9)(n cA:Nat)(B:oA9)(k cB:Nat)(x0 x1 x2 y0 y1 y2:Value):Prop where
 blk:Blk w g 105 #[.slice A n cA,.slice B k cB,x0,x1,x2,y0,y1,y2]
 hn:e.S.length=n
 hk:e.ld.length=k
 rows:∃vs,zbv (VZ g) w g 61 (.slice A n cA) e.S vs
 lds:zgq w g (.slice B k cB) e.ld
 lead:RV w e.p x0 x1 x2
 rsd:RV w rd y0 y1 y2
section
variable {w w':World}{g:Nat}{e:ESt}{rd:Rat}{A:oA9}{n cA:Nat}{B:oA9}{k cB:Nat}{x0 x1 x2 y0 y1 y2:Value}
theorem ElS.below (h:ElS w g e rd A n cA B k cB x0 x1 x2 y0 y1 y2)(hb:Below w.heap.size w w'):ElS w' g e rd A n cA B k cB x0 x1 x2 y0 y1 y2:=by
 obtain⟨vs,hr⟩:=h.rows
 exact{blk:=zaa hb h.blk,hn:=h.hn,hk:=h.hk,rows:=⟨vs,hr.below (zcB g) hb⟩,lds:=h.lds.off λq s cs _ hq=>zaa hb hq,lead:=h.lead.below hb,rsd:=h.rsd.below hb}
theorem ElS.nok (h:ElS w g e rd A n cA B k cB x0 x1 x2 y0 y1 y2):NoK .u64 #[.slice A n cA,.slice B k cB,x0,x1,x2,y0,y1,y2]:=by
 obtain⟨_,_,_,_,_,_,_,rfl,rfl,rfl,_⟩:=h.lead
 obtain⟨_,_,_,_,_,_,_,rfl,rfl,rfl,_⟩:=h.rsd
 intro v hv z e
 simp at hv
 rcases hv with rfl|rfl|rfl|rfl|rfl|rfl|rfl|rfl<;>cases e
theorem zdc {w:World}{q:Nat}{t s:TypeId}{cs ds:Array Value}(h:Blk w q t cs)(h':Blk w q s ds):t=s:=by
 unfold Blk at h h'
 rw [h] at h'
 injection h' with h'
 injection h' with _ h'
theorem ElS.neA (h:ElS w g e rd A n cA B k cB x0 x1 x2 y0 y1 y2){q:Nat}(hq:(Value.slice A n cA).ownBlock=some q):q≠g/\∃cs,Blk w q 61 cs/\∀u ∈ cs.toList,zcr u:=by
 obtain⟨vs,hr⟩:=h.rows
 rcases hr.own.2 with⟨h1,_⟩|⟨g',cap,cur,e1,e2,e3,_⟩
 ·rw [h1] at hq;cases hq
 ·rw [e1] at hq
  simp [Value.ownBlock] at hq
  subst hq
  obtain⟨cur2,s,h1,h2⟩:=hr.sl g' (by rw [e1];rfl)
  have:cur2=cur:=by rw [e3] at h1;injection h1 with h1;injection h1 with h1 _;exact h1.symm
  subst this
  exact⟨λe=>absurd (zdc e3 (e▸h.blk)) (by decide),cur2,e3,h2⟩
theorem ElS.neB (h:ElS w g e rd A n cA B k cB x0 x1 x2 y0 y1 y2){q:Nat}(hq:(Value.slice B k cB).ownBlock=some q):q≠g/\∃cs,Blk w q 3 cs/\∀u ∈ cs.toList,zgZ u:=by
 rcases h.lds.own.2 with⟨h1,_⟩|⟨g',cap,cur,e1,e2,e3,_⟩
 ·rw [h1] at hq;cases hq
 ·rw [e1] at hq
  simp [Value.ownBlock] at hq
  subst hq
  obtain⟨cur2,s,h1,h2⟩:=h.lds.pr g' (by rw [e1];rfl)
  have:cur2=cur:=by rw [e3] at h1;injection h1 with h1;injection h1 with h1 _;exact h1.symm
  subst this
  exact⟨λe=>absurd (zdc e3 (e▸h.blk)) (by decide),cur2,e3,h2⟩
theorem ElS.setRow {q:Nat}(h:ElS w g e rd (some ⟨q,0,none⟩) n cA B k cB x0 x1 x2 y0 y1 y2){i:Nat}(hi:i<n){L:List Rat}{C:oA9}{m d:Nat}(hx:VZ g w C m d L)(hm:L.length=m):ElS (w.setCell ⟨q,i,none⟩ (.slice C m d)) g {e with S:=e.S.set i L} rd (some ⟨q,0,none⟩) n cA B k cB x0 x1 x2 y0 y1 y2:=by
 obtain⟨hqg,cs,hq,hs⟩:=h.neA (q:=q) rfl
 obtain⟨vs,hr⟩:=h.rows
 have ho:zbl q w (w.setCell ⟨q,i,none⟩ (.slice C m d)):=zbl.of_far ((zbj.refl q w).set_ i _)
 exact {
  blk:=Blk.far (p:=⟨q,i,none⟩) h.blk (Ne.symm hqg) _
  hn:=by rw [<-h.hn];exact List.length_set
  hk:=h.hk
  rows:=⟨_,hr.set_ (zcB g) (by rw [h.hn];exact hi) hx hm⟩
  lds:=h.lds.off λp s ds hp hk=>Blk.far (p:=⟨q,i,none⟩) hk (λe=>by
   obtain⟨_,ds',h1,_⟩:=h.neB hp
   subst e
   exact absurd (zdc hq h1) (by decide)) _
  lead:=h.lead.off hq (zfT hs) ho
  rsd:=h.rsd.off hq (zfT hs) ho}
theorem ElS.store (h:ElS w g e rd A n cA B k cB x0 x1 x2 y0 y1 y2)(hf:zbj g w w'){z0 z1 z2 u0 u1 u2:Value}{p rd':Rat}(hb:Blk w' g 105 #[.slice A n cA,.slice B k cB,z0,z1,z2,u0,u1,u2])(hp:RV w p z0 z1 z2)(hr':RV w rd' u0 u1 u2)(hkeep:∀q s cs,q≠g->Blk w q s cs->Blk w' q s cs):ElS w' g {e with p:=p} rd' A n cA B k cB z0 z1 z2 u0 u1 u2:=by
 obtain⟨vs,hr⟩:=h.rows
 have ho:=zbl.of_far hf
 exact {
  blk:=hb
  hn:=h.hn
  hk:=h.hk
  rows:=⟨vs,hr.off (λq s cs hq hk=>hkeep q s cs (h.neA hq).1 hk) (λhx=>zmn hx h.blk h.nok ho)⟩
  lds:=h.lds.off λq s cs hq hk=>hkeep q s cs (h.neB hq).1 hk
  lead:=hp.off h.blk h.nok ho
  rsd:=hr'.off h.blk h.nok ho}
end
