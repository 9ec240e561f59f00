/- What this claim leans on. -/
import Derived.Test.YtcojjcjgbepicaaGreatDoorKVApp
namespace Go.Proofs.YtcojjcjgbepicaaGreatDoor
open Go Go.RowKit
set_option maxHeartbeats 16000000
set_option linter.unusedVariables false
def LI (K:Nat)(x:Rat):Prop:=∃z:Int,x=(z:Rat)/\Sz K z.natAbs
theorem LI.up {K K':Nat}{x:Rat}(h:LI K x)(hk:K<=K'):LI K' x:=by
 obtain⟨z,e,hz⟩:=h;exact⟨z,e,hz.up hk⟩
theorem LI.one:LI 1 1:=⟨1,by decide+kernel,by show 1<18446744073709551616^1;rw [Nat.pow_one];decide⟩
theorem LI.zero (K:Nat):LI K 0:=⟨0,by decide+kernel,Nat.pow_pos (by decide)⟩
theorem LI.mul {K K':Nat}{x y:Rat}(h:LI K x)(k:LI K' y):LI (K+K') (x*y):=by
 obtain⟨z,rfl,hz⟩:=h;obtain⟨t,rfl,ht⟩:=k
 exact⟨z*t,(Rat.intCast_mul z t).symm,by rw [Int.natAbs_mul];exact hz.mul ht⟩
theorem LI.neg {K:Nat}{x:Rat}(h:LI K x):LI K (-x):=by
 obtain⟨z,rfl,hz⟩:=h;exact⟨-z,(Rat.intCast_neg z).symm,by rw [Int.natAbs_neg];exact hz⟩
theorem LI.add {K:Nat}{x y:Rat}(h:LI K x)(k:LI K y):LI (K+1) (x+y):=by
 obtain⟨z,rfl,hz⟩:=h;obtain⟨t,rfl,ht⟩:=k
 refine⟨z+t,(Rat.intCast_add z t).symm,?_⟩
 have:=Int.natAbs_add_le z t
 unfold Sz at*
 rw [Nat.pow_succ]
 omega
theorem LI.sub {K:Nat}{x y:Rat}(h:LI K x)(k:LI K y):LI (K+1) (x - y):=by
 rw [Rat.sub_eq_add_neg];exact h.add k.neg
theorem LI.sum {K k:Nat}{f:Nat->Rat}(hk:k<=18446744073709551616)(h:∀i,i<k->LI K (f i)):LI (K+1) (zaF k f):=by
 have:∀q,q<=k->∃z:Int,zaF q f=(z:Rat)/\z.natAbs<=q*(18446744073709551616^K - 1):=by
  intro q
  induction q with
  |zero=>intro _;exact⟨0,by rw [zhj];decide+kernel,by omega⟩
  |succ q ih=>
    intro hq
    obtain⟨z,e,hz⟩:=ih (by omega)
    obtain⟨t,e2,ht⟩:=h q (by omega)
    refine⟨z+t,by rw [zaP,e,e2,Rat.intCast_add],?_⟩
    have h1:=Int.natAbs_add_le z t
    unfold Sz at ht
    rw [Nat.succ_mul]
    omega
 obtain⟨z,e,hz⟩:=this k (Nat.le_refl _)
 refine⟨z,e,?_⟩
 unfold Sz
 rw [Nat.pow_succ,Nat.mul_comm]
 have h0:0<18446744073709551616^K:=Nat.pow_pos (by decide)
 refine Nat.lt_of_le_of_lt hz (Nat.lt_of_le_of_lt (Nat.mul_le_mul_right _ hk) ?_)
 exact Nat.mul_lt_mul_of_pos_left (by omega) (by decide)
theorem LI.sg_ {K c:Nat}{x:Rat}(h:LI K x):LI K (sg c*x):=by
 unfold sg
 split
 ·rw [Rat.one_mul];exact h
 ·rw [Rat.neg_mul,Rat.one_mul];exact h.neg
theorem LI.det_ {K:Nat}:∀{n:Nat} {M:Nat->Nat->Rat},n<=64->(∀i,i<n->∀j,j<n->LI K (M i j))->LI (1+n*(K+1)) (zbG n M)
 |0,_,_,_=>LI.one.up (by omega)
 |n+1,M,hn,h=>by
   rw [zcv]
   refine(LI.sum (K:=K+(1+n*(K+1))) (by omega) λc hc=>?_).up (by rw [Nat.succ_mul];omega)
   exact(LI.sg_ (h 0 (by omega) c hc)).mul (LI.det_ (by omega) λi hi j hj=>h (i+1) (by omega) _ (skp_lt hj))
theorem zcK.lead_sz {n m c K:Nat}{a s:Nat->Nat->Rat}{ld:List Nat}{p:Rat}(h:zcK n m c a s ld p)(hn:n<=64)(ha:∀i,i<n->∀j,j<m->LI K (a i j)):LI (1+64*(K+1)) p:=by
 have h1:=h.len
 rw [h.det]
 refine(LI.det_ (K:=K) (by omega) λi hi j hj=>ha i (by omega) _ ?_).up (Nat.add_le_add_left (Nat.mul_le_mul_right _ (by omega)) _)
 have:=h.lt j hj;have:=h.cm;omega
theorem zcK.top_sz {n m c K:Nat}{a s:Nat->Nat->Rat}{ld:List Nat}{p:Rat}(h:zcK n m c a s ld p)(hn:n<=64)(ha:∀i,i<n->∀j,j<m->LI K (a i j)){l j:Nat}(hl:l<ld.length)(hj:j<m):LI (1+64*(K+1)) (s l j):=by
 have h1:=h.len
 rw [h.col hl hj]
 refine(LI.det_ (K:=K) (by omega) λi hi j' hj'=>?_).up (Nat.add_le_add_left (Nat.mul_le_mul_right _ (by omega)) _)
 by_cases e:j'=l
 ·rw [e,zch];exact ha i (by omega) j hj
 ·rw [zci _ e];refine ha i (by omega) _ ?_
  have:=h.lt j' hj';have:=h.cm;omega
theorem zcK.sz {n m c K:Nat}{a s:Nat->Nat->Rat}{ld:List Nat}{p:Rat}(h:zcK n m c a s ld p)(hn:n<=64)(ha:∀i,i<n->∀j,j<m->LI K (a i j)){i j:Nat}(hi:i<n)(hj:j<m):LI (67+65*K) (s i j):=by
 have h1:=h.len
 by_cases hl:i<ld.length
 ·exact(h.top_sz hn ha hl hj).up (by omega)
 ·have e:=h.back i hi j hj
  rw [if_pos (by omega)] at e
  have e2:s i j=p*a i j - zaF ld.length (λl=>a i (ld.getD l 0)*s l j):=by grind
  rw [e2]
  have b1:=(h.lead_sz hn ha).mul (ha i hi j hj)
  have b2:LI (K+(1+64*(K+1))+1) (zaF ld.length (λl=>a i (ld.getD l 0)*s l j)):=LI.sum (by omega) λl hl=>(ha i hi _ (by have:=h.lt l hl;have:=h.cm;omega)).mul (h.top_sz hn ha hl hj)
  exact((b1.up (K':=K+(1+64*(K+1))+1) (by omega)).sub b2).up (by omega)
theorem zcK.lead_sz' {n m c K:Nat}{a s:Nat->Nat->Rat}{ld:List Nat}{p:Rat}(h:zcK n m c a s ld p)(hn:n<=64)(ha:∀i,i<n->∀j,j<m->LI K (a i j)):LI (67+65*K) p:=(h.lead_sz hn ha).up (by omega)
inductive zie (n : Nat) (a0 : Nat → Nat → Rat) : (Nat → Nat → Rat) → Prop
 |refl:zie n a0 a0
 |sw {a r q}:zie n a0 a->r<q->q<n->zie n a0 (swp r q a)
theorem zie.li {n m K:Nat}{a0 a:Nat->Nat->Rat}(h:zie n a0 a)(h0:∀i,i<n->∀j,j<m->LI K (a0 i j)):∀i,i<n->∀j,j<m->LI K (a i j):=by
 induction h with
 |refl=>exact h0
 |sw h1 h2 h3 ih=>
   intro i hi j hj
   unfold swp
   split
   ·exact ih _ h3 j hj
   ·split
    ·exact(ih _ (by omega) j hj).neg
    ·exact ih i hi j hj
theorem zie.rows {n:Nat}{a0 a:Nat->Nat->Rat}(h:zie n a0 a):(∀i,i<n->∃i',i'<n/\∃e:Rat,e*e=1/\∀j,a i j=e*a0 i' j)/\(∀i,i<n->∃i',i'<n/\∃e:Rat,e*e=1/\∀j,a0 i j=e*a i' j):=by
 induction h with
 |refl=>exact⟨λi hi=>⟨i,hi,1,by decide+kernel,λj=>(Rat.one_mul _).symm⟩,λi hi=>⟨i,hi,1,by decide+kernel,λj=>(Rat.one_mul _).symm⟩⟩
 | @sw a r q h1 h2 h3 ih=>
   constructor
   ·intro i hi
    by_cases e1:i=r
    ·obtain⟨i',k1,e,k2,k3⟩:=ih.1 q h3
     exact⟨i',k1,e,k2,λj=>by unfold swp;rw [if_pos e1];exact k3 j⟩
    ·by_cases e2:i=q
     ·obtain⟨i',k1,e,k2,k3⟩:=ih.1 r (by omega)
      exact⟨i',k1,-e,by grind,λj=>by unfold swp;rw [if_neg e1,if_pos e2,k3 j,Rat.neg_mul]⟩
     ·obtain⟨i',k1,e,k2,k3⟩:=ih.1 i hi
      exact⟨i',k1,e,k2,λj=>by unfold swp;rw [if_neg e1,if_neg e2];exact k3 j⟩
   ·intro i hi
    obtain⟨i',k1,e,k2,k3⟩:=ih.2 i hi
    by_cases e1:i'=q
    ·exact⟨r,by omega,e,k2,λj=>by unfold swp;rw [if_pos rfl,k3 j,e1]⟩
    ·by_cases e2:i'=r
     ·exact⟨q,h3,-e,by grind,λj=>by unfold swp;rw [if_neg (by omega),if_pos rfl,k3 j,e2];grind⟩
     ·exact⟨i',k1,e,k2,λj=>by unfold swp;rw [if_neg e2,if_neg e1];exact k3 j⟩
structure ESt where
 S:List (List Rat)
 ld:List Nat
 p:Rat
def swpL (r q:Nat)(S:List (List Rat)):List (List Rat):=(S.set r (S.getD q [])).set q (zaH (-1) (S.getD r []))
def zdb (p:Rat)(row by_:List Rat)(c:Nat):List Rat:=zaH p⁻¹ (zho (zaH (by_.getD c 0) row) (-row.getD c 0) by_)
def zgX (r c:Nat)(p:Rat)(S:List (List Rat)):List (List Rat):=S.mapIdx λi row=>if i=r then row else zdb p row (S.getD r []) c
def zbb (c:Nat)(e:ESt):Nat:=(e.S.drop e.ld.length).findIdx λrow=> !decide (row.getD c 0=0)
def zfl (c:Nat)(e:ESt):List (List Rat):=if zbb c e=0 then e.S else swpL e.ld.length (e.ld.length+zbb c e) e.S
def zfj (c:Nat)(e:ESt):ESt:=
 if zbb c e<e.S.length - e.ld.length then⟨zgX e.ld.length c e.p (zfl c e),e.ld++[c],atM (zfl c e) e.ld.length c⟩ else e
theorem zfe {S:List (List Rat)}{r i:Nat}(v:List Rat)(h:i≠r):(S.set r v).getD i []=S.getD i []:=by
 rw [List.getD_eq_getElem?_getD,List.getElem?_set_ne (Ne.symm h),<-List.getD_eq_getElem?_getD]
theorem zht {S:List (List Rat)}{r:Nat}(v:List Rat)(h:r<S.length):(S.set r v).getD r []=v:=by
 rw [List.getD_eq_getElem?_getD,List.getElem?_set_self h];rfl
theorem zeo {r:Rat}{xs:List Rat}(j:Nat):(zaH r xs).getD j 0=r*xs.getD j 0:=by
 unfold zaH
 rw [List.getD_eq_getElem?_getD,List.getD_eq_getElem?_getD,List.getElem?_map]
 cases xs[j]? with
 |none=>exact(Rat.mul_zero r).symm
 |some x=>rfl
theorem addTL_at {r:Rat}{xs ys:List Rat}{j:Nat}(hx:j<xs.length)(hy:j<ys.length):(zho xs r ys).getD j 0=xs.getD j 0+r*ys.getD j 0:=by
 unfold zho
 rw [List.getD_eq_getElem?_getD,List.getD_eq_getElem?_getD,List.getD_eq_getElem?_getD,List.getElem?_zipWith,List.getElem?_eq_getElem hx,List.getElem?_eq_getElem hy]
 rfl
theorem zpB {S:List (List Rat)}{n m r q:Nat}(h:zbe S n m)(hr:r<n)(hq:q<n):zbe (swpL r q S) n m:=by
 refine⟨by unfold swpL;rw [List.length_set,List.length_set];exact h.rows,λL hL=>?_⟩
 unfold swpL at hL
 rcases List.mem_or_eq_of_mem_set hL with hL|rfl
 ·rcases List.mem_or_eq_of_mem_set hL with hL|rfl
  ·exact h.cols L hL
  ·exact h.row hq
 ·unfold zaH;rw [List.length_map];exact h.row hr
theorem swpL_at {S:List (List Rat)}{r q:Nat}(hr:r<S.length)(hq:q<S.length)(hne:r≠q):atM (swpL r q S)=swp r q (atM S):=by
 funext i j
 unfold atM swpL swp
 by_cases e1:i=r
 ·subst e1
  rw [if_pos rfl,zfe _ hne,zht _ hr]
 ·rw [if_neg e1]
  by_cases e2:i=q
  ·subst e2
   rw [if_pos rfl,zht _ (by rw [List.length_set];exact hq),zeo,Rat.neg_mul,Rat.one_mul]
  ·rw [if_neg e2,zfe _ e2,zfe _ e1]
theorem zii {p:Rat}{row by_:List Rat}{c m:Nat}(h:row.length=m)(k:by_.length=m):(zdb p row by_ c).length=m:=by
 unfold zdb zaH zho
 rw [List.length_map,List.length_zipWith,List.length_map,h,k,Nat.min_self]
theorem zox {S:List (List Rat)}{n m r c:Nat}{p:Rat}(h:zbe S n m)(hr:r<n):zbe (zgX r c p S) n m:=by
 refine⟨by unfold zgX;rw [List.length_mapIdx];exact h.rows,λL hL=>?_⟩
 unfold zgX at hL
 obtain⟨i,hi,rfl⟩:=List.mem_mapIdx.1 hL
 split
 ·exact h.cols _ (List.getElem_mem _)
 ·exact zii (h.cols _ (List.getElem_mem _)) (h.row hr)
theorem zlc {S:List (List Rat)}{r c i:Nat}{p:Rat}(hi:i<S.length):(zgX r c p S).getD i []=if i=r then S.getD i [] else zdb p (S.getD i []) (S.getD r []) c:=by
 unfold zgX
 rw [List.getD_eq_getElem?_getD,List.getElem?_mapIdx,List.getElem?_eq_getElem hi]
 show(if i=r then _ else _)=_
 rw [show S.getD i []=S[i] by rw [List.getD_eq_getElem?_getD,List.getElem?_eq_getElem hi];rfl]
theorem clrL_at {S:List (List Rat)}{n m r c i j:Nat}{p:Rat}(h:zbe S n m)(hr:r<n)(hi:i<n)(hj:j<m):atM (zgX r c p S) i j=clr r c p (atM S) i j:=by
 unfold atM clr
 rw [zlc (by rw [h.rows];exact hi)]
 by_cases e:i=r
 ·rw [if_pos e,if_pos e,e]
 ·rw [if_neg e,if_neg e]
  unfold zdb
  rw [zeo,addTL_at (by unfold zaH;rw [List.length_map,h.row hi];exact hj) (by rw [h.row hr];exact hj),zeo]
theorem zcK.congr {n m c:Nat}{a s s':Nat->Nat->Rat}{ld:List Nat}{p:Rat}(h:zcK n m c a s ld p)(e:∀i,i<n->∀j,j<m->s' i j=s i j):zcK n m c a s' ld p:=
 have hk:=h.len
 have hm:=h.cm
 { h with
  piv:=λl hl i hi=>by rw [e i hi _ (by have:=h.lt l hl;omega)];exact h.piv l hl i hi
  low:=λi h1 h2 j hj=>by rw [e i h2 j (by omega)];exact h.low i h1 h2 j hj
  fore:=λl hl j hj=>by rw [e l (by omega) j (by have:=h.lt l hl;omega)];exact h.fore l hl j hj
  back:=λi hi j hj=>by
   rw [h.back i hi j hj,e i hi j hj]
   congr 1
   exact zav λl hl=>by rw [e l (by omega) j hj]}
structure EOk (n m c:Nat)(a0:Nat->Nat->Rat)(e:ESt):Prop where
 dims:zbe e.S n m
 inv:∃a,zie n a0 a/\zcK n m c a (atM e.S) e.ld e.p
theorem EOk.start {n m:Nat}{S:List (List Rat)}(h:zbe S n m):EOk n m 0 (atM S) ⟨S,[],1⟩:=⟨h,_,.refl,zcK.start _ _ _⟩
theorem zfR {S:List (List Rat)}{r i:Nat}(h:i<(S.drop r).length):(S.drop r)[i]=S.getD (r+i) []:=by
 rw [List.length_drop] at h
 rw [List.getElem_drop,List.getD_eq_getElem?_getD,List.getElem?_eq_getElem (by omega)];rfl
theorem zkY {c:Nat}{e:ESt}(h:¬ zbb c e<e.S.length - e.ld.length){i:Nat}(h1:e.ld.length<=i)(h2:i<e.S.length):atM e.S i c=0:=by
 have hl:(e.S.drop e.ld.length).length=e.S.length - e.ld.length:=List.length_drop
 have:=List.not_of_lt_findIdx (p:=λrow:List Rat=> !decide (row.getD c 0=0)) (xs:=e.S.drop e.ld.length) (i:=i - e.ld.length) (by show _<zbb c e;omega)
 rw [zfR (by omega),show e.ld.length+(i - e.ld.length)=i by omega] at this
 simpa [atM] using this
theorem zkZ {c:Nat}{e:ESt}(h:zbb c e<e.S.length - e.ld.length):atM e.S (e.ld.length+zbb c e) c≠0:=by
 have hl:(e.S.drop e.ld.length).length=e.S.length - e.ld.length:=List.length_drop
 have:=List.findIdx_getElem (p:=λrow:List Rat=> !decide (row.getD c 0=0)) (xs:=e.S.drop e.ld.length) (w:=by show zbb c e<_;omega)
 rw [zfR (by show zbb c e<_;omega)] at this
 simpa [atM,zbb] using this
theorem EOk.pick {n m c:Nat}{a0:Nat->Nat->Rat}{e:ESt}(h:EOk n m c a0 e)(hb:zbb c e<n - e.ld.length):zbe (zfl c e) n m/\(∃a,zie n a0 a/\zcK n m c a (atM (zfl c e)) e.ld e.p)/\atM (zfl c e) e.ld.length c≠0:=by
 obtain⟨hd,a,hs,hi⟩:=h
 have hb':zbb c e<e.S.length - e.ld.length:=by rw [hd.rows];exact hb
 have hne:=zkZ hb'
 unfold zfl
 by_cases h0:zbb c e=0
 ·rw [if_pos h0];rw [h0,Nat.add_zero] at hne;exact⟨hd,⟨a,hs,hi⟩,hne⟩
 ·rw [if_neg h0]
  have hr:=hd.rows
  have e1:=swpL_at (S:=e.S) (r:=e.ld.length) (q:=e.ld.length+zbb c e) (by omega) (by omega) (by omega)
  refine⟨zpB hd (by omega) (by omega),⟨swp e.ld.length (e.ld.length+zbb c e) a,hs.sw (by omega) (by omega),by rw [e1];exact hi.swap (by omega) (by omega)⟩,?_⟩
  rw [e1]
  unfold swp
  rw [if_pos rfl];exact hne
theorem EOk.next {n m c:Nat}{a0:Nat->Nat->Rat}{e:ESt}(h:EOk n m c a0 e)(hc:c<m):EOk n m (c+1) a0 (zfj c e):=by
 have hr:=h.dims.rows
 unfold zfj
 by_cases hb:zbb c e<e.S.length - e.ld.length
 ·rw [if_pos hb]
  obtain⟨hd,⟨a,hs,hi⟩,hne⟩:=h.pick (by rw [<-hr];exact hb)
  exact⟨zox hd (by omega),a,hs,(hi.clear hc (by omega) hne).congr λi hi' j hj=>clrL_at hd (by omega) hi' hj⟩
 ·rw [if_neg hb]
  obtain⟨hd,a,hs,hi⟩:=h
  exact⟨hd,a,hs,hi.skip hc λi h1 h2=>zkY hb h1 (by omega)⟩
def zeT (c:Nat)(S:List (List Rat)):ESt:=(List.range c).foldl (λe c=>zfj c e) ⟨S,[],1⟩
theorem zio (c:Nat)(S:List (List Rat)):zeT (c+1) S=zfj c (zeT c S):=by
 unfold zeT;rw [List.range_succ,List.foldl_append];rfl
theorem zhP {n m:Nat}{S:List (List Rat)}(h:zbe S n m):∀{c:Nat},c<=m->EOk n m c (atM S) (zeT c S)
 |0,_=>EOk.start h
 |c+1,hc=>by rw [zio];exact(zhP h (by omega)).next (by omega)
def Sp (n m:Nat)(M:Nat->Nat->Rat)(v:Nat->Rat):Prop:=∃y:Nat->Rat,∀j,j<m->v j=zaF n λi=>y i*M i j
theorem Sp.zero {n m:Nat}{M:Nat->Nat->Rat}:Sp n m M λ_=>0:=⟨λ_=>0,λj _=>(zcc λi _=>Rat.zero_mul _).symm⟩
theorem Sp.comb {n m:Nat}{M:Nat->Nat->Rat}{u v:Nat->Rat}(a b:Rat)(h:Sp n m M u)(k:Sp n m M v):Sp n m M λj=>a*u j+b*v j:=by
 obtain⟨y,hy⟩:=h;obtain⟨z,hz⟩:=k
 refine⟨λi=>a*y i+b*z i,λj hj=>?_⟩
 show a*u j+b*v j=_
 rw [hy j hj,hz j hj,zaZ,zaZ,<-zfu]
 exact zav λi _=>by grind
theorem Sp.scale {n m:Nat}{M:Nat->Nat->Rat}{u v:Nat->Rat}(a:Rat)(h:Sp n m M u)(e:∀j,j<m->v j=a*u j):Sp n m M v:=by
 obtain⟨y,hy⟩:=h
 refine⟨λi=>a*y i,λj hj=>?_⟩
 rw [e j hj,hy j hj,zaZ]
 exact zav λi _=>by grind
theorem Sp.congr {n m:Nat}{M:Nat->Nat->Rat}{u v:Nat->Rat}(h:Sp n m M u)(e:∀j,j<m->v j=u j):Sp n m M v:=by
 obtain⟨y,hy⟩:=h;exact⟨y,λj hj=>(e j hj).trans (hy j hj)⟩
theorem zeq {k c:Nat}(hc:c<k)(f:Nat->Rat):zaF k (λi=>(if i=c then 1 else 0)*f i)=f c:=by
 induction k with
 |zero=>cases hc
 |succ k ih=>
   rw [zaP]
   by_cases h:c=k
   ·subst h
    rw [if_pos rfl,Rat.one_mul,zcc λi hi=>by rw [if_neg (by omega),Rat.zero_mul],Rat.zero_add]
   ·rw [if_neg (by omega),Rat.zero_mul,Rat.add_zero,ih (by omega)]
theorem Sp.row {n m:Nat}{M:Nat->Nat->Rat}{i:Nat}(hi:i<n):Sp n m M (M i):=⟨λq=>if q=i then 1 else 0,λj _=>(zeq hi λq=>M q j).symm⟩
theorem Sp.sum {n m:Nat}{M:Nat->Nat->Rat}{u:Nat->Nat->Rat}(f:Nat->Rat){q:Nat}(h:∀l,l<q->Sp n m M (u l)):Sp n m M λj=>zaF q λl=>f l*u l j:=by
 induction q with
 |zero=>exact Sp.zero
 |succ q ih=>
   refine((ih λl hl=>h l (by omega)).comb 1 (f q) (h q (by omega))).congr λj _=>?_
   rw [zaP,Rat.one_mul]
theorem Sp.trans {n m n':Nat}{M M':Nat->Nat->Rat}{v:Nat->Rat}(h:Sp n' m M' v)(k:∀i,i<n'->Sp n m M (M' i)):Sp n m M v:=by
 obtain⟨y,hy⟩:=h
 exact(Sp.sum y k).congr hy
structure RF (n m:Nat)(M:Nat->Nat->Rat)(ld:List Nat)(R:Nat->Nat->Rat):Prop where
 len:ld.length<=n
 up:∀l l',l<l'->l'<ld.length->ld.getD l 0<ld.getD l' 0
 lt:∀l,l<ld.length->ld.getD l 0<m
 piv:∀l,l<ld.length->∀i,i<n->R i (ld.getD l 0)=if i=l then 1 else 0
 zero:∀i,ld.length<=i->i<n->∀j,j<m->R i j=0
 fore:∀l,l<ld.length->∀j,j<ld.getD l 0->R l j=0
 sum:∀i,i<n->∀j,j<m->M i j=zaF ld.length λl=>M i (ld.getD l 0)*R l j
 span:∀l,l<ld.length->Sp n m M (R l)
theorem RF.of_elim {n m:Nat}{a0 M:Nat->Nat->Rat}{e:ESt}(h:EOk n m m a0 e)(ht:∀i,i<n->∃t:Rat,t≠0/\∀j,j<m->a0 i j=t*M i j):RF n m M e.ld λi j=>e.p⁻¹*atM e.S i j:=by
 obtain⟨hd,a,hs,hi⟩:=h
 have hp:=hi.ne
 -- rows of either are multiples of the other's
 have r1:∀i,i<n->∃i',i'<n/\∃t:Rat,∀j,j<m->a i j=t*M i' j:=λi hi'=>by
  obtain⟨i',k1,e,_,k3⟩:=hs.rows.1 i hi'
  obtain⟨t,_,k4⟩:=ht i' k1
  exact⟨i',k1,e*t,λj hj=>by rw [k3 j,k4 j hj];grind⟩
 have r2:∀i,i<n->∃i',i'<n/\∃t:Rat,∀j,j<m->M i j=t*a i' j:=λi hi'=>by
  obtain⟨i',k1,e,_,k3⟩:=hs.rows.2 i hi'
  obtain⟨t,k2,k4⟩:=ht i hi'
  exact⟨i',k1,t⁻¹*e,λj hj=>by have q1:=k3 j;have q2:=k4 j hj;grind⟩
 refine⟨hi.len,hi.up,hi.lt,λl hl i hi'=>?_,λi h1 h2 j hj=>by show e.p⁻¹*atM e.S i j=0;rw [hi.low i h1 h2 j hj,Rat.mul_zero],λl hl j hj=>by show e.p⁻¹*atM e.S l j=0;rw [hi.fore l hl j hj,Rat.mul_zero],λi hi' j hj=>?_,λl hl=>?_⟩
 ·show e.p⁻¹*atM e.S i (e.ld.getD l 0)=_
  rw [hi.piv l hl i hi']
  split<;>grind
 ·obtain⟨i',k1,t,k2⟩:=r2 i hi'
  have e1:=hi.back i' k1 j hj
  have e2:(if e.ld.length<=i' then atM e.S i' j else 0)=0:=by
   split
   ·next h=>exact hi.low i' h k1 j hj
   ·rfl
  rw [e2,Rat.add_zero] at e1
  have e3:zaF e.ld.length (λl=>M i (e.ld.getD l 0)*(e.p⁻¹*atM e.S l j))=t*e.p⁻¹*zaF e.ld.length (λl=>a i' (e.ld.getD l 0)*atM e.S l j):=by
   rw [zaZ]
   exact zav λl hl=>by rw [k2 _ (by have:=hi.lt l hl;omega)];grind
  show M i j=zaF e.ld.length (λl=>M i (e.ld.getD l 0)*(e.p⁻¹*atM e.S l j))
  rw [e3,k2 j hj,<-e1]
  grind
 ·have hk:=hi.len
  have e1:∀j,j<m->atM e.S l j=zaF e.ld.length λq=>zbG e.ld.length (zbI (λi j=>a i (e.ld.getD j 0)) l λi=>if i=q then 1 else 0)*a q j:=λj hj=>by
   rw [hi.col hl hj]
   have:zbG e.ld.length (zbI (λi j=>a i (e.ld.getD j 0)) l λi=>a i j)=zbG e.ld.length (zbI (λi j=>a i (e.ld.getD j 0)) l λi=>zaF e.ld.length λq=>a q j*if i=q then 1 else 0):=zcL λi hi' j' _=>by
    by_cases e:j'=l
    ·rw [e,zch,zch,<-zeq hi' (λq=>a q j)]
     exact zav λq _=>by
      rw [Rat.mul_comm];congr 1
      by_cases h:q=i
      ·rw [if_pos h,if_pos h.symm]
      ·rw [if_neg h,if_neg (Ne.symm h)]
    ·rw [zci _ e,zci _ e]
   rw [this,zgx _ hl (λq=>a q j) (λq i=>if i=q then 1 else 0)]
   exact zav λq _=>Rat.mul_comm _ _
  have e2:∀q,q<e.ld.length->Sp n m M (a q):=λq hq=>by
   obtain⟨i',k1,t,k2⟩:=r1 q (by omega)
   exact(Sp.row k1).scale t k2
  exact(Sp.sum _ e2).scale e.p⁻¹ λj hj=>by rw [<-e1 j hj]
theorem RF.of_span {n m:Nat}{M R:Nat->Nat->Rat}{ld:List Nat}(h:RF n m M ld R){v:Nat->Rat}(hv:Sp n m M v):∀j,j<m->v j=zaF ld.length λl=>v (ld.getD l 0)*R l j:=by
 obtain⟨y,hy⟩:=hv
 intro j hj
 rw [hy j hj]
 have e1:zaF n (λi=>y i*M i j)=zaF n (λi=>zaF ld.length λl=>y i*M i (ld.getD l 0)*R l j):=zav λi hi=>by
  rw [h.sum i hi j hj,zaZ]
  exact zav λl _=>by grind
 rw [e1,zhi]
 refine zav λl hl=>?_
 rw [hy _ (h.lt l hl),Rat.mul_comm,zaZ]
 exact zav λi _=>Rat.mul_comm _ _
theorem RF.begins {n m:Nat}{M R:Nat->Nat->Rat}{ld:List Nat}(h:RF n m M ld R){v:Nat->Rat}(hv:Sp n m M v){c:Nat}(hc:c<m)(h0:∀j,j<c->v j=0)(h1:v c≠0):∃l,l<ld.length/\ld.getD l 0=c:=by
 refine Classical.byContradiction λhn=>h1 ?_
 rw [h.of_span hv c hc]
 refine zcc λl hl=>?_
 rcases Nat.lt_trichotomy (ld.getD l 0) c with a|a|a
 ·rw [h0 _ a,Rat.zero_mul]
 ·exact absurd ⟨l,hl,a⟩ hn
 ·rw [h.fore l hl c a,Rat.mul_zero]
theorem zjN:∀{xs ys:List Nat},xs.Pairwise (·<·)->ys.Pairwise (·<·)->(∀x,x ∈ xs↔x ∈ ys)->xs=ys
 |[],[],_,_,_=>rfl
 |[],y::ys,_,_,h=>by have:=(h y).2 List.mem_cons_self;cases this
 |x::xs,[],_,_,h=>by have:=(h x).1 List.mem_cons_self;cases this
 |x::xs,y::ys,h1,h2,h=>by
   rw [List.pairwise_cons] at h1 h2
   have e:x=y:=by
    rcases List.mem_cons.1 ((h x).1 List.mem_cons_self) with a|a
    ·exact a
    ·rcases List.mem_cons.1 ((h y).2 List.mem_cons_self) with b|b
     ·exact b.symm
     ·have:=h1.1 y b;have:=h2.1 x a;omega
   subst e
   congr 1
   refine zjN h1.2 h2.2 λz=>⟨λhz=>?_,λhz=>?_⟩
   ·rcases List.mem_cons.1 ((h z).1 (List.mem_cons_of_mem _ hz)) with a|a
    ·have:=h1.1 z hz;omega
    ·exact a
   ·rcases List.mem_cons.1 ((h z).2 (List.mem_cons_of_mem _ hz)) with a|a
    ·have:=h2.1 z hz;omega
    ·exact a
theorem zcE {xs:List Nat}{l:Nat}(h:l<xs.length):xs.getD l 0 ∈ xs:=by
 rw [List.getD_eq_getElem?_getD,List.getElem?_eq_getElem h];exact List.getElem_mem h
theorem zdJ {xs:List Nat}{x:Nat}(h:x ∈ xs):∃l,l<xs.length/\xs.getD l 0=x:=by
 obtain⟨l,hl,e⟩:=List.mem_iff_getElem.1 h
 exact⟨l,hl,by rw [List.getD_eq_getElem?_getD,List.getElem?_eq_getElem hl];exact e⟩
theorem RF.rising {n m:Nat}{M R:Nat->Nat->Rat}{ld:List Nat}(h:RF n m M ld R):ld.Pairwise (·<·):=by
 rw [List.pairwise_iff_getElem]
 intro i j hi hj hij
 have:=h.up i j hij hj
 rw [List.getD_eq_getElem?_getD,List.getD_eq_getElem?_getD,List.getElem?_eq_getElem hi,List.getElem?_eq_getElem hj] at this
 exact this
theorem RF.one {n m n':Nat}{M R M' R':Nat->Nat->Rat}{ld ld':List Nat}(h:RF n m M ld R)(k:RF n' m M' ld' R')(h1:∀i,i<n'->Sp n m M (M' i))(h2:∀i,i<n->Sp n' m M' (M i)):ld=ld'/\∀l,l<ld.length->∀j,j<m->R l j=R' l j:=by
 have s1:∀l,l<ld'.length->Sp n m M (R' l):=λl hl=>(k.span l hl).trans h1
 have s2:∀l,l<ld.length->Sp n' m M' (R l):=λl hl=>(h.span l hl).trans h2
 have e:ld=ld':=by
  refine zjN h.rising k.rising λx=>⟨λhx=>?_,λhx=>?_⟩
  ·obtain⟨l,hl,rfl⟩:=zdJ hx
   obtain⟨q,hq,e⟩:=k.begins (s2 l hl) (h.lt l hl) (h.fore l hl) (by rw [h.piv l hl l (by have:=h.len;omega),if_pos rfl];decide+kernel)
   rw [<-e];exact zcE hq
  ·obtain⟨l,hl,rfl⟩:=zdJ hx
   obtain⟨q,hq,e⟩:=h.begins (s1 l hl) (k.lt l hl) (k.fore l hl) (by rw [k.piv l hl l (by have:=k.len;omega),if_pos rfl];decide+kernel)
   rw [<-e];exact zcE hq
 subst e
 refine⟨rfl,λl hl j hj=>?_⟩
 have hk:=h.len
 rw [k.of_span (s2 l hl) j hj]
 have:zaF ld.length (λq=>R l (ld.getD q 0)*R' q j)=zaF ld.length (λq=>(if q=l then 1 else 0)*R' q j):=zav λq hq=>by
  rw [h.piv q hq l (by omega)]
  by_cases e:q=l
  ·rw [if_pos e,if_pos e.symm]
  ·rw [if_neg e,if_neg (Ne.symm e)]
 rw [this,zeq hl]
def kerF (ld:List Nat)(R:Nat->Nat->Rat)(c:Nat):Nat->Rat:=λj=>(if j=c then 1 else 0) - zaF ld.length λq=>(if j=ld.getD q 0 then 1 else 0)*R q c
theorem zjB {ld:List Nat}{R:Nat->Nat->Rat}{c j:Nat}(h:j ∉ ld):kerF ld R c j=if j=c then 1 else 0:=by
 unfold kerF
 rw [zcc λq hq=>by rw [if_neg (λe:j=ld.getD q 0=>h (by rw [e];exact zcE hq)),Rat.zero_mul]]
 grind
theorem RF.inj {n m:Nat}{M R:Nat->Nat->Rat}{ld:List Nat}(h:RF n m M ld R){l q:Nat}(hl:l<ld.length)(hq:q<ld.length)(e:ld.getD l 0=ld.getD q 0):l=q:=by
 rcases Nat.lt_trichotomy l q with a|a|a
 ·have:=h.up l q a hq;omega
 ·exact a
 ·have:=h.up q l a hl;omega
theorem RF.ker_lead {n m:Nat}{M R:Nat->Nat->Rat}{ld:List Nat}(h:RF n m M ld R){c l:Nat}(hc:c ∉ ld)(hl:l<ld.length):kerF ld R c (ld.getD l 0)= -R l c:=by
 unfold kerF
 rw [if_neg (λe:ld.getD l 0=c=>hc (by rw [<-e];exact zcE hl))]
 have:zaF ld.length (λq=>(if ld.getD l 0=ld.getD q 0 then 1 else 0)*R q c)=zaF ld.length (λq=>(if q=l then 1 else 0)*R q c):=zav λq hq=>by
  by_cases e:q=l
  ·rw [if_pos e,if_pos (by rw [e])]
  ·rw [if_neg e,if_neg λk=>e (h.inj hl hq k).symm]
 rw [this,zeq hl (λq=>R q c)]
 grind
theorem sumN_sub (k:Nat)(f g:Nat->Rat):zaF k (λi=>f i - g i)=zaF k f - zaF k g:=by
 have:=zfu k f (λi=> -g i)
 rw [zlZ] at this
 rw [Rat.sub_eq_add_neg,<-this]
 exact zav λi _=>Rat.sub_eq_add_neg _ _
theorem RF.ker {n m:Nat}{M R:Nat->Nat->Rat}{ld:List Nat}(h:RF n m M ld R){c:Nat}(hcm:c<m){i:Nat}(hi:i<n):zaF m (λj=>M i j*kerF ld R c j)=0:=by
 have hk:=h.len
 have e1:zaF m (λj=>M i j*kerF ld R c j)=zaF m (λj=>(if j=c then 1 else 0)*M i j) - zaF m (λj=>zaF ld.length λq=>(if j=ld.getD q 0 then 1 else 0)*(M i j*R q c)):=by
  rw [<-sumN_sub]
  refine zav λj _=>?_
  unfold kerF
  have:zaF ld.length (λq=>(if j=ld.getD q 0 then 1 else 0)*(M i j*R q c))=M i j*zaF ld.length (λq=>(if j=ld.getD q 0 then 1 else 0)*R q c):=by
   rw [zaZ];exact zav λq _=>by grind
  rw [this];grind
 rw [e1,zeq hcm,zhi]
 have e2:zaF ld.length (λq=>zaF m λj=>(if j=ld.getD q 0 then 1 else 0)*(M i j*R q c))=zaF ld.length (λq=>M i (ld.getD q 0)*R q c):=zav λq hq=>zeq (h.lt q hq) λj=>M i j*R q c
 rw [e2,<-h.sum i hi c hcm]
 grind
theorem all_in:∀{m:Nat} {ld:List Nat},(∀c,c<m->c ∈ ld)->m<=ld.length
 |0,_,_=>Nat.zero_le _
 |m+1,ld,h=>by
   have h1:=h m (by omega)
   have h2:=all_in (m:=m) (ld:=ld.erase m) λc hc=>(List.mem_erase_of_ne (by omega)).2 (h c (by omega))
   rw [List.length_erase_of_mem h1] at h2
   have:=List.length_pos_of_mem h1
   omega
theorem zll {ld:List Nat}{m:Nat}(h:ld.length<m):∃c,c<m/\c ∉ ld:=by
 refine Classical.byContradiction λhn=>?_
 have:=all_in (m:=m) (ld:=ld) λc hc=>Classical.byContradiction λh=>hn ⟨c,hc,h⟩
 omega
theorem RF.some (n m:Nat)(G:Nat->Nat->Rat):∃ld R,RF n m G ld R:=by
 have h:=zhP (zhk n m G) (Nat.le_refl m)
 refine⟨_,_,RF.of_elim h λi hi=>⟨1,by decide+kernel,λj hj=>by rw [tabN_at hi hj,Rat.one_mul]⟩⟩
theorem ker_some {k k':Nat}(h:k<k')(G:Nat->Nat->Rat):∃v:Nat->Rat,(∃r,r<k'/\v r≠0)/\∀l,l<k->zaF k' (λr=>G l r*v r)=0:=by
 obtain⟨ld,R,hr⟩:=RF.some k k' G
 obtain⟨c,hc,hn⟩:=zll (ld:=ld) (m:=k') (by have:=hr.len;omega)
 refine⟨kerF ld R c,⟨c,hc,?_⟩,λl hl=>hr.ker hc hl⟩
 rw [zjB hn,if_pos rfl];decide+kernel
theorem RF.full {n m:Nat}{M R:Nat->Nat->Rat}{ld:List Nat}(h:RF n m M ld R)(hi:∀u:Nat->Rat,(∀j,j<m->zaF n (λi=>u i*M i j)=0)->∀i,i<n->u i=0):ld.length=n:=by
 refine Nat.le_antisymm h.len (Nat.le_of_not_lt λhlt=>?_)
 obtain⟨v,⟨r,hr,hv⟩,h0⟩:=ker_some hlt λl i=>M i (ld.getD l 0)
 refine hv (hi v (λj hj=>?_) r hr)
 have:zaF n (λi=>v i*M i j)=zaF n (λi=>zaF ld.length λl=>R l j*(M i (ld.getD l 0)*v i)):=zav λi hi=>by
  rw [h.sum i hi j hj,zaZ]
  exact zav λl _=>by grind
 rw [this,zhi]
 exact zcc λl hl=>by rw [<-zaZ,h0 l hl,Rat.mul_zero]
