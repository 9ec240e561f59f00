/- What this claim leans on. -/
import Derived.Test.YtcojjcjgbepicaaGreatDoorSEAwake
namespace Go.Proofs.YtcojjcjgbepicaaGreatDoor
open Go Go.RowKit
set_option maxHeartbeats 16000000
set_option linter.unusedVariables false
theorem zov {n m:Nat}{X:List (List Rat)}{v:List Rat}{i j:Nat}(hi:i<n)(hj:j<m+1):atM (zaN n m (m+1) X v) i j=if j=m then v.getD i 0 else atM X i j:=zor hi hj
theorem RF.cutNo {n m:Nat}{W X R:Nat->Nat->Rat}{lw:List Nat}(h:RF n (m+1) W lw R)(e:∀i,i<n->∀j,j<m->W i j=X i j)(hm:m ∉ lw):RF n m X lw R:=by
 have hlt:∀l,l<lw.length->lw.getD l 0<m:=λl hl=>by
  have h1:=h.lt l hl
  have h2:lw.getD l 0≠m:=λe=>hm (e▸zcB hl)
  omega
 refine⟨h.len,h.up,hlt,h.piv,λi h1 h2 j hj=>h.zero i h1 h2 j (by omega),h.fore,λi hi j hj=>?_,λl hl=>?_⟩
 ·rw [<-e i hi j hj,h.sum i hi j (by omega)]
  exact zau λl hl=>by rw [e i hi _ (hlt l hl)]
 ·obtain⟨y,hy⟩:=h.span l hl
  exact⟨y,λj hj=>(hy j (by omega)).trans (zau λi hi=>by rw [e i hi j hj])⟩
theorem zjO {n m:Nat}{W R:Nat->Nat->Rat}{lw:List Nat}(h:RF n (m+1) W lw R)(hm:m ∈ lw):∃k,lw.length=k+1/\lw.getD k 0=m/\∀l,l<k->lw.getD l 0<m:=by
 obtain⟨q,hq,e⟩:=zdq hm
 have hlast:q=lw.length - 1:=by
  refine Classical.byContradiction λhne=>?_
  have h1:=h.up q (lw.length - 1) (by omega) (by omega)
  have h2:=h.lt (lw.length - 1) (by omega)
  omega
 refine⟨lw.length - 1,by omega,by rw [<-hlast];exact e,λl hl=>?_⟩
 have:=h.up l (lw.length - 1) hl (by omega)
 rw [<-hlast,e] at this
 exact this
theorem zdF {lw:List Nat}{k l:Nat}(h:l<k):(lw.take k).getD l 0=lw.getD l 0:=by
 rw [List.getD_eq_getElem?_getD,List.getD_eq_getElem?_getD,List.getElem?_take,if_pos h]
theorem RF.cutYes {n m k:Nat}{W X R:Nat->Nat->Rat}{lw:List Nat}(h:RF n (m+1) W lw R)(e:∀i,i<n->∀j,j<m->W i j=X i j)(hk:lw.length=k+1)(hm:lw.getD k 0=m)(hlt:∀l,l<k->lw.getD l 0<m):RF n m X (lw.take k) R:=by
 have hlen:(lw.take k).length=k:=by rw [List.length_take];omega
 have hl0:=h.len
 refine⟨by omega,λl l' h1 h2=>?_,λl hl=>?_,λl hl i hi=>?_,λi h1 h2 j hj=>?_,λl hl j hj=>?_,λi hi j hj=>?_,λl hl=>?_⟩
 ·rw [zdF (by omega),zdF (by omega)];exact h.up l l' h1 (by omega)
 ·rw [zdF (by omega)];exact hlt l (by omega)
 ·rw [zdF (by omega)];exact h.piv l (by omega) i hi
 ·by_cases e2:i=k
  ·rw [e2];exact h.fore k (by omega) j (by rw [hm];exact hj)
  ·exact h.zero i (by omega) h2 j (by omega)
 ·rw [zdF (by omega)] at hj;exact h.fore l (by omega) j hj
 ·rw [<-e i hi j hj,h.sum i hi j (by omega),hk,hlen,zaQ,h.fore k (by omega) j (by rw [hm];exact hj),Rat.mul_zero,Rat.add_zero]
  exact zau λl hl=>by rw [zdF hl,e i hi _ (hlt l hl)]
 ·obtain⟨y,hy⟩:=h.span l (by omega)
  exact⟨y,λj hj=>(hy j (by omega)).trans (zau λi hi=>by rw [e i hi j hj])⟩
def solF (m:Nat)(ld:List Nat)(R:Nat->Nat->Rat)(j:Nat):Rat:=zaP ld.length λq=>(if j=ld.getD q 0 then 1 else 0)*R q m
theorem zpy {m:Nat}{ld:List Nat}{R:Nat->Nat->Rat}{j:Nat}(h:j ∉ ld):solF m ld R j=0:=by
 unfold solF
 exact zcv λq hq=>by rw [if_neg (λe:j=ld.getD q 0=>h (by rw [e];exact zcB hq)),Rat.zero_mul]
theorem zpz {n m p:Nat}{M R:Nat->Nat->Rat}{ld:List Nat}(h:RF n p M ld R){l:Nat}(hl:l<ld.length):solF m ld R (ld.getD l 0)=R l m:=by
 unfold solF
 have:zaP ld.length (λq=>(if ld.getD l 0=ld.getD q 0 then 1 else 0)*R q m)=zaP ld.length (λq=>(if q=l then 1 else 0)*R q m):=zau λq hq=>by
  by_cases e:q=l
  ·rw [if_pos e,if_pos (by rw [e])]
  ·rw [if_neg e,if_neg λk=>e (h.inj hl hq k).symm]
 rw [this,zfz hl (λq=>R q m)]
theorem zmk {n m:Nat}{W X R:Nat->Nat->Rat}{lw:List Nat}(h:RF n (m+1) W lw R)(e:∀i,i<n->∀j,j<m->W i j=X i j)(hm:m ∉ lw){i:Nat}(hi:i<n):zaP m (λj=>X i j*solF m lw R j)=W i m:=by
 have hx:=h.cutNo e hm
 rw [h.sum i hi m (by omega)]
 have e1:zaP m (λj=>X i j*solF m lw R j)=zaP m (λj=>zaP lw.length λq=>(if j=lw.getD q 0 then 1 else 0)*(X i j*R q m)):=zau λj _=>by
  unfold solF
  rw [zbb];exact zau λq _=>by grind
 rw [e1,zho]
 refine zau λq hq=>?_
 rw [zfz (hx.lt q hq) λj=>X i j*R q m,e i hi _ (hx.lt q hq)]
theorem made_no {n m:Nat}{W X R:Nat->Nat->Rat}{lw:List Nat}(h:RF n (m+1) W lw R)(e:∀i,i<n->∀j,j<m->W i j=X i j){y:Nat->Rat}(hy:∀i,i<n->W i m=zaP m λj=>X i j*y j):m ∉ lw:=λhm=>by
 obtain⟨k,hk,hkm,hlt⟩:=zjO h hm
 obtain⟨u,hu⟩:=h.span k (by omega)
 have h1:=h.piv k (by omega) k (by have:=h.len;omega)
 rw [if_pos rfl,hkm,hu m (by omega)] at h1
 have h2:zaP n (λi=>u i*W i m)=zaP n (λi=>zaP m λj=>y j*(u i*X i j)):=zau λi hi=>by
  rw [hy i hi,zbb];exact zau λj _=>by grind
 rw [h2,zho] at h1
 have h3:zaP m (λj=>zaP n λi=>y j*(u i*X i j))=0:=zcv λj hj=>by
  rw [<-zbb]
  have h4:=h.fore k (by omega) j (by rw [hkm];exact hj)
  rw [hu j (by omega)] at h4
  have h5:zaP n (λi=>u i*X i j)=zaP n (λi=>u i*W i j):=zau λi hi=>by rw [e i hi j hj]
  rw [h5,h4,Rat.mul_zero]
 rw [h3] at h1
 exact absurd h1 (by decide+kernel)
theorem zgm {m:Nat}{ld:List Nat}{R:List (List Rat)}{j:Nat}(h:j ∉ ld):∀i,i<=ld.length->(zfw m ld R i).getD j 0=0
 |0,_=>by
   show(List.replicate m (0:Rat)).getD j 0=0
   rw [List.getD_eq_getElem?_getD,List.getElem?_replicate];split<;>rfl
 |i+1,hi=>by
   rw [zdS,List.getD_eq_getElem?_getD,List.getElem?_set,if_neg (λe:ld.getD i 0=j=>h (by rw [<-e];exact zcB (by omega))),<-List.getD_eq_getElem?_getD]
   exact zgm h i (by omega)
theorem zja {n m:Nat}{ld:List Nat}{M:Nat->Nat->Rat}{R:List (List Rat)}{q:Nat}(h:RF n m M ld (atM R))(hq:q<ld.length):∀i,i<=ld.length->q<i->(zfw m ld R i).getD (ld.getD q 0) 0=atM R q m
 |0,_,h0=>by omega
 |i+1,hi,hqi=>by
   rw [zdS,List.getD_eq_getElem?_getD,List.getElem?_set,zhn]
   by_cases e:i=q
   ·subst e
    rw [if_pos rfl,if_pos (h.lt i hq)];rfl
   ·rw [if_neg (λe2=>e (h.inj (by omega) hq e2)),<-List.getD_eq_getElem?_getD]
    exact zja h hq i (by omega) (by omega)
structure SolNo (n m:Nat)(X:List (List Rat))(v:List Rat):Prop where
 x:zeQ m (zaA (m+1) (zaN n m (m+1) X v)).ld (zdP (m+1) (zaN n m (m+1) X v))=[]
 c:zgQ m (zaA (m+1) (zaN n m (m+1) X v)).ld=1
 rank:(zaA (m+1) (zaN n m (m+1) X v)).ld.length=(zaA m X).ld.length+1
 un:∀y:List Rat,y.length=m->v≠zcY X y
structure SolYes (n m:Nat)(X:List (List Rat))(v:List Rat)(x:List Rat)(z:Int):Prop where
 ex:zeQ m (zaA (m+1) (zaN n m (m+1) X v)).ld (zdP (m+1) (zaN n m (m+1) X v))=x
 ec:zgQ m (zaA (m+1) (zaN n m (m+1) X v)).ld=z
 len:x.length=m
 free:∀j,j<m->j ∉(zaA m X).ld->x.getD j 0=0
 times:zcY X x=v
 rank:(zaA (m+1) (zaN n m (m+1) X v)).ld.length=(zaA m X).ld.length
 c:z=if (zaA m X).ld.length=m then 2 else 3
theorem sol_ok {n m:Nat}{X:List (List Rat)}{v:List Rat}(h:zbh X n m)(hv:v.length=n):SolNo n m X v\/∃x z,SolYes n m X v x z:=by
 have hW:RF n (m+1) (atM (zaN n m (m+1) X v)) (zaA (m+1) (zaN n m (m+1) X v)).ld (atM (zdP (m+1) (zaN n m (m+1) X v))):=zla (zcP _ _ _ _ _)
 have hX:=zla h
 have e:∀i,i<n->∀j,j<m->atM (zaN n m (m+1) X v) i j=atM X i j:=λi hi j hj=>by rw [zov hi (by omega),if_neg (by omega)]
 have e2:∀i,i<n->atM (zaN n m (m+1) X v) i m=v.getD i 0:=λi hi=>by rw [zov hi (by omega),if_pos rfl]
 by_cases hm:m ∈(zaA (m+1) (zaN n m (m+1) X v)).ld
 ·left
  obtain⟨k,hk,hkm,hlt⟩:=zjO hW hm
  have hc:=hW.cutYes e hk hkm hlt
  have ho:=(hX.one hc (λi hi=>Sp.row hi) (λi hi=>Sp.row hi)).1
  refine⟨by unfold zeQ;rw [if_pos hm],by unfold zgQ;rw [if_pos hm],by rw [ho,List.length_take];omega,λy hy hvy=>?_⟩
  refine made_no hW e (y:=λj=>y.getD j 0) (λi hi=>?_) hm
  have hxl:=h.rows
  rw [e2 i hi,hvy]
  unfold zcY
  rw [List.getD_eq_getElem?_getD,List.getElem?_map,zbF (d:=[]) (by omega)]
  exact zjF (h.row hi) hy
 ·right
  have hc:=hW.cutNo e hm
  have ho:=(hX.one hc (λi hi=>Sp.row hi) (λi hi=>Sp.row hi)).1
  refine⟨_,_,rfl,rfl,by unfold zeQ;rw [if_neg hm];exact zhn _ _ _ _,λj hj hjn=>?_,?_,by rw [ho],?_⟩
  ·unfold zeQ;rw [if_neg hm]
   exact zgm (by rw [<-ho];exact hjn) _ (Nat.le_refl _)
  ·have hxl:=h.rows
   refine List.ext_getElem (by rw [zjd];omega) λi h1 h2=>?_
   have hi:i<n:=by omega
   have e5:v[i]=v.getD i 0:=by rw [List.getD_eq_getElem?_getD,List.getElem?_eq_getElem h2];rfl
   have e6:=zjc (M:=X) (v:=zeQ m (zaA (m+1) (zaN n m (m+1) X v)).ld (zdP (m+1) (zaN n m (m+1) X v))) (i:=i) (by omega)
   rw [List.getElem?_eq_getElem h1] at e6
   rw [Option.some.inj e6,e5,<-e2 i hi,<-zmk hW e hm hi,zjF (k:=m) (h.row hi) (by unfold zeQ;rw [if_neg hm];exact zhn _ _ _ _)]
   refine zau λj hj=>?_
   show atM X i j*_=atM X i j*_
   congr 1
   unfold zeQ;rw [if_neg hm]
   by_cases hl:j ∈(zaA (m+1) (zaN n m (m+1) X v)).ld
   ·obtain⟨q,hq,rfl⟩:=zdq hl
    rw [zja hc hq _ (Nat.le_refl _) hq,zpz hW hq]
   ·rw [zgm hl _ (Nat.le_refl _),zpy hl]
  ·unfold zgQ;rw [if_neg hm,<-ho]
   have:=hX.len
   have hall:(zaA m X).ld.length<=m:=by
    have:=zeM hX.rising λl hl=>by obtain⟨q,hq,rfl⟩:=zdq hl;exact hX.lt q hq
    omega
   by_cases hq:(zaA m X).ld.length=m
   ·rw [if_pos hq,if_neg (by omega)]
   ·rw [if_neg hq,if_pos (by omega)]
theorem zml {n p m K:Nat}{ld:List Nat}{R:List (List Rat)}(hd:zbh R n p)(hz:zaD K R)(hm:m<p)(hl:ld.length<=n)(hK:1<=K):∀i,i<=ld.length->zaq K (zfw m ld R i)
 |0,_=>λx hx=>by
   rw [(List.mem_replicate.1 (show x ∈ List.replicate m 0 from hx)).2]
   exact SzQ.up (K:=1) (r:=0) ⟨by decide,by decide⟩ hK
 |i+1,hi=>λx hx=>by
   rw [zdS] at hx
   rcases List.mem_or_eq_of_mem_set hx with hx|rfl
   ·exact zml hd hz hm hl hK i (by omega) x hx
   ·exact hz.at_ hd (by omega) hm
theorem zpA (n m:Nat)(X:List (List Rat))(v:List Rat)(h:zbh X n m)(hv:v.length=n)(hz:zaD 19 X)(hvz:zaq 19 v)(bm:m<=6)(bn:n<=6):zaq 1000000 (zeQ m (zaA (m+1) (zaN n m (m+1) X v)).ld (zdP (m+1) (zaN n m (m+1) X v))):=by
 have hW:zbT 153 (zaN n m (m+1) X v):=(zbT.of_sz (zfB (K:=19) (p:=m+1) rfl h hz hv hvz) (zcP _ _ _ _ _)).up (by omega)
 have hd:zbh (zaN n m (m+1) X v) n (m+1):=zcP _ _ _ _ _
 have h1:=(zgN hd (by omega) hW).1
 unfold zeQ
 split
 ·intro x hx;cases hx
 ·exact(zml (zka hd) h1 (by omega) (zla hd).len (by omega) _ (Nat.le_refl _)).up (by omega)
theorem int_sz12 {z:Int}(h0:0<=z)(h1:z<=1048576):SzQ 1 (z:Rat):=
 ⟨by rw [Rat.num_intCast];omega,by rw [Rat.den_intCast];decide⟩
