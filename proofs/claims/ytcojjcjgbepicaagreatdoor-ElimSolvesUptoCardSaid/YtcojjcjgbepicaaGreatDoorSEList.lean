/- What this claim leans on. -/
import Derived.Test.YtcojjcjgbepicaaGreatDoorSMeet3
namespace Go.Proofs.YtcojjcjgbepicaaGreatDoor
open Go Go.RowKit
set_option maxHeartbeats 16000000
set_option linter.unusedVariables false
def LI (K:Nat)(x:Rat):Prop:=∃z:Int,x=(z:Rat)/\Sz K z.natAbs
theorem LI.up {K K':Nat}{x:Rat}(h:LI K x)(hk:K<=K'):LI K' x:=by
 obtain⟨z,e,hz⟩:=h;exact⟨z,e,hz.up hk⟩
theorem LI.one:LI 1 1:=⟨1,by decide+kernel,by show 1<18446744073709551616^1;rw [Nat.pow_one];decide⟩
theorem LI.zero (K:Nat):LI K 0:=⟨0,by decide+kernel,Nat.pow_pos (by decide)⟩
theorem LI.mul {K K':Nat}{x y:Rat}(h:LI K x)(k:LI K' y):LI (K+K') (x*y):=by
 obtain⟨z,rfl,hz⟩:=h;obtain⟨t,rfl,ht⟩:=k
 exact⟨z*t,(Rat.intCast_mul z t).symm,by rw [Int.natAbs_mul];exact hz.mul ht⟩
theorem LI.neg {K:Nat}{x:Rat}(h:LI K x):LI K (-x):=by
 obtain⟨z,rfl,hz⟩:=h;exact⟨-z,(Rat.intCast_neg z).symm,by rw [Int.natAbs_neg];exact hz⟩
theorem LI.add {K:Nat}{x y:Rat}(h:LI K x)(k:LI K y):LI (K+1) (x+y):=by
 obtain⟨z,rfl,hz⟩:=h;obtain⟨t,rfl,ht⟩:=k
 refine⟨z+t,(Rat.intCast_add z t).symm,?_⟩
 have:=Int.natAbs_add_le z t
 unfold Sz at*
 rw [Nat.pow_succ]
 omega
theorem LI.sub {K:Nat}{x y:Rat}(h:LI K x)(k:LI K y):LI (K+1) (x - y):=by
 rw [Rat.sub_eq_add_neg];exact h.add k.neg
theorem LI.sum {K k:Nat}{f:Nat->Rat}(hk:k<=18446744073709551616)(h:∀i,i<k->LI K (f i)):LI (K+1) (zaP k f):=by
 have:∀q,q<=k->∃z:Int,zaP q f=(z:Rat)/\z.natAbs<=q*(18446744073709551616^K - 1):=by
  intro q
  induction q with
  |zero=>intro _;exact⟨0,by rw [zhp];decide+kernel,by omega⟩
  |succ q ih=>
    intro hq
    obtain⟨z,e,hz⟩:=ih (by omega)
    obtain⟨t,e2,ht⟩:=h q (by omega)
    refine⟨z+t,by rw [zaQ,e,e2,Rat.intCast_add],?_⟩
    have h1:=Int.natAbs_add_le z t
    unfold Sz at ht
    rw [Nat.succ_mul]
    omega
 obtain⟨z,e,hz⟩:=this k (Nat.le_refl _)
 refine⟨z,e,?_⟩
 unfold Sz
 rw [Nat.pow_succ,Nat.mul_comm]
 have h0:0<18446744073709551616^K:=Nat.pow_pos (by decide)
 refine Nat.lt_of_le_of_lt hz (Nat.lt_of_le_of_lt (Nat.mul_le_mul_right _ hk) ?_)
 exact Nat.mul_lt_mul_of_pos_left (by omega) (by decide)
theorem LI.sg_ {K c:Nat}{x:Rat}(h:LI K x):LI K (sg c*x):=by
 unfold sg
 split
 ·rw [Rat.one_mul];exact h
 ·rw [Rat.neg_mul,Rat.one_mul];exact h.neg
theorem LI.det_ {K:Nat}:∀{n:Nat} {M:Nat->Nat->Rat},n<=64->(∀i,i<n->∀j,j<n->LI K (M i j))->LI (1+n*(K+1)) (zbH n M)
 |0,_,_,_=>LI.one.up (by omega)
 |n+1,M,hn,h=>by
   rw [zcs]
   refine(LI.sum (K:=K+(1+n*(K+1))) (by omega) λc hc=>?_).up (by rw [Nat.succ_mul];omega)
   exact(LI.sg_ (h 0 (by omega) c hc)).mul (LI.det_ (by omega) λi hi j hj=>h (i+1) (by omega) _ (skp_lt hj))
theorem zcJ.lead_sz {n m c K:Nat}{a s:Nat->Nat->Rat}{ld:List Nat}{p:Rat}(h:zcJ n m c a s ld p)(hn:n<=64)(ha:∀i,i<n->∀j,j<m->LI K (a i j)):LI (1+64*(K+1)) p:=by
 have h1:=h.len
 rw [h.det]
 refine(LI.det_ (K:=K) (by omega) λi hi j hj=>ha i (by omega) _ ?_).up (Nat.add_le_add_left (Nat.mul_le_mul_right _ (by omega)) _)
 have:=h.lt j hj;have:=h.cm;omega
theorem zcJ.top_sz {n m c K:Nat}{a s:Nat->Nat->Rat}{ld:List Nat}{p:Rat}(h:zcJ n m c a s ld p)(hn:n<=64)(ha:∀i,i<n->∀j,j<m->LI K (a i j)){l j:Nat}(hl:l<ld.length)(hj:j<m):LI (1+64*(K+1)) (s l j):=by
 have h1:=h.len
 rw [h.col hl hj]
 refine(LI.det_ (K:=K) (by omega) λi hi j' hj'=>?_).up (Nat.add_le_add_left (Nat.mul_le_mul_right _ (by omega)) _)
 by_cases e:j'=l
 ·rw [e,zcf];exact ha i (by omega) j hj
 ·rw [zcg _ e];refine ha i (by omega) _ ?_
  have:=h.lt j' hj';have:=h.cm;omega
theorem zcJ.sz {n m c K:Nat}{a s:Nat->Nat->Rat}{ld:List Nat}{p:Rat}(h:zcJ n m c a s ld p)(hn:n<=64)(ha:∀i,i<n->∀j,j<m->LI K (a i j)){i j:Nat}(hi:i<n)(hj:j<m):LI (67+65*K) (s i j):=by
 have h1:=h.len
 by_cases hl:i<ld.length
 ·exact(h.top_sz hn ha hl hj).up (by omega)
 ·have e:=h.back i hi j hj
  rw [if_pos (by omega)] at e
  have e2:s i j=p*a i j - zaP ld.length (λl=>a i (ld.getD l 0)*s l j):=by grind
  rw [e2]
  have b1:=(h.lead_sz hn ha).mul (ha i hi j hj)
  have b2:LI (K+(1+64*(K+1))+1) (zaP ld.length (λl=>a i (ld.getD l 0)*s l j)):=LI.sum (by omega) λl hl=>(ha i hi _ (by have:=h.lt l hl;have:=h.cm;omega)).mul (h.top_sz hn ha hl hj)
  exact((b1.up (K':=K+(1+64*(K+1))+1) (by omega)).sub b2).up (by omega)
theorem zcJ.lead_sz' {n m c K:Nat}{a s:Nat->Nat->Rat}{ld:List Nat}{p:Rat}(h:zcJ n m c a s ld p)(hn:n<=64)(ha:∀i,i<n->∀j,j<m->LI K (a i j)):LI (67+65*K) p:=(h.lead_sz hn ha).up (by omega)
inductive zii (n : Nat) (a0 : Nat → Nat → Rat) : (Nat → Nat → Rat) → Prop
 |refl:zii n a0 a0
 |sw {a r q}:zii n a0 a->r<q->q<n->zii n a0 (swp r q a)
theorem zii.li {n m K:Nat}{a0 a:Nat->Nat->Rat}(h:zii n a0 a)(h0:∀i,i<n->∀j,j<m->LI K (a0 i j)):∀i,i<n->∀j,j<m->LI K (a i j):=by
 induction h with
 |refl=>exact h0
 |sw h1 h2 h3 ih=>
   intro i hi j hj
   unfold swp
   split
   ·exact ih _ h3 j hj
   ·split
    ·exact(ih _ (by omega) j hj).neg
    ·exact ih i hi j hj
theorem zii.rows {n:Nat}{a0 a:Nat->Nat->Rat}(h:zii n a0 a):(∀i,i<n->∃i',i'<n/\∃e:Rat,e*e=1/\∀j,a i j=e*a0 i' j)/\(∀i,i<n->∃i',i'<n/\∃e:Rat,e*e=1/\∀j,a0 i j=e*a i' j):=by
 induction h with
 |refl=>exact⟨λi hi=>⟨i,hi,1,by decide+kernel,λj=>(Rat.one_mul _).symm⟩,λi hi=>⟨i,hi,1,by decide+kernel,λj=>(Rat.one_mul _).symm⟩⟩
 | @sw a r q h1 h2 h3 ih=>
   constructor
   ·intro i hi
    by_cases e1:i=r
    ·obtain⟨i',k1,e,k2,k3⟩:=ih.1 q h3
     exact⟨i',k1,e,k2,λj=>by unfold swp;rw [if_pos e1];exact k3 j⟩
    ·by_cases e2:i=q
     ·obtain⟨i',k1,e,k2,k3⟩:=ih.1 r (by omega)
      exact⟨i',k1,-e,by grind,λj=>by unfold swp;rw [if_neg e1,if_pos e2,k3 j,Rat.neg_mul]⟩
     ·obtain⟨i',k1,e,k2,k3⟩:=ih.1 i hi
      exact⟨i',k1,e,k2,λj=>by unfold swp;rw [if_neg e1,if_neg e2];exact k3 j⟩
   ·intro i hi
    obtain⟨i',k1,e,k2,k3⟩:=ih.2 i hi
    by_cases e1:i'=q
    ·exact⟨r,by omega,e,k2,λj=>by unfold swp;rw [if_pos rfl,k3 j,e1]⟩
    ·by_cases e2:i'=r
     ·exact⟨q,h3,-e,by grind,λj=>by unfold swp;rw [if_neg (by omega),if_pos rfl,k3 j,e2];grind⟩
     ·exact⟨i',k1,e,k2,λj=>by unfold swp;rw [if_neg e2,if_neg e1];exact k3 j⟩
structure ESt where
 S:List (List Rat)
 ld:List Nat
 p:Rat
def swpL (r q:Nat)(S:List (List Rat)):List (List Rat):=(S.set r (S.getD q [])).set q (zaH (-1) (S.getD r []))
def zdc (p:Rat)(row by_:List Rat)(c:Nat):List Rat:=zaH p⁻¹ (zht (zaH (by_.getD c 0) row) (-row.getD c 0) by_)
def zhb (r c:Nat)(p:Rat)(S:List (List Rat)):List (List Rat):=S.mapIdx λi row=>if i=r then row else zdc p row (S.getD r []) c
def zbd (c:Nat)(e:ESt):Nat:=(e.S.drop e.ld.length).findIdx λrow=> !decide (row.getD c 0=0)
def zfp (c:Nat)(e:ESt):List (List Rat):=if zbd c e=0 then e.S else swpL e.ld.length (e.ld.length+zbd c e) e.S
def zfn (c:Nat)(e:ESt):ESt:=
 if zbd c e<e.S.length - e.ld.length then⟨zhb e.ld.length c e.p (zfp c e),e.ld++[c],atM (zfp c e) e.ld.length c⟩ else e
theorem zfi {S:List (List Rat)}{r i:Nat}(v:List Rat)(h:i≠r):(S.set r v).getD i []=S.getD i []:=by
 rw [List.getD_eq_getElem?_getD,List.getElem?_set_ne (Ne.symm h),<-List.getD_eq_getElem?_getD]
theorem zhy {S:List (List Rat)}{r:Nat}(v:List Rat)(h:r<S.length):(S.set r v).getD r []=v:=by
 rw [List.getD_eq_getElem?_getD,List.getElem?_set_self h];rfl
theorem zeu {r:Rat}{xs:List Rat}(j:Nat):(zaH r xs).getD j 0=r*xs.getD j 0:=by
 unfold zaH
 rw [List.getD_eq_getElem?_getD,List.getD_eq_getElem?_getD,List.getElem?_map]
 cases xs[j]? with
 |none=>exact(Rat.mul_zero r).symm
 |some x=>rfl
theorem addTL_at {r:Rat}{xs ys:List Rat}{j:Nat}(hx:j<xs.length)(hy:j<ys.length):(zht xs r ys).getD j 0=xs.getD j 0+r*ys.getD j 0:=by
 unfold zht
 rw [List.getD_eq_getElem?_getD,List.getD_eq_getElem?_getD,List.getD_eq_getElem?_getD,List.getElem?_zipWith,List.getElem?_eq_getElem hx,List.getElem?_eq_getElem hy]
 rfl
theorem zpD {S:List (List Rat)}{n m r q:Nat}(h:zbh S n m)(hr:r<n)(hq:q<n):zbh (swpL r q S) n m:=by
 refine⟨by unfold swpL;rw [List.length_set,List.length_set];exact h.rows,λL hL=>?_⟩
 unfold swpL at hL
 rcases List.mem_or_eq_of_mem_set hL with hL|rfl
 ·rcases List.mem_or_eq_of_mem_set hL with hL|rfl
  ·exact h.cols L hL
  ·exact h.row hq
 ·unfold zaH;rw [List.length_map];exact h.row hr
theorem swpL_at {S:List (List Rat)}{r q:Nat}(hr:r<S.length)(hq:q<S.length)(hne:r≠q):atM (swpL r q S)=swp r q (atM S):=by
 funext i j
 unfold atM swpL swp
 by_cases e1:i=r
 ·subst e1
  rw [if_pos rfl,zfi _ hne,zhy _ hr]
 ·rw [if_neg e1]
  by_cases e2:i=q
  ·subst e2
   rw [if_pos rfl,zhy _ (by rw [List.length_set];exact hq),zeu,Rat.neg_mul,Rat.one_mul]
  ·rw [if_neg e2,zfi _ e2,zfi _ e1]
theorem zim {p:Rat}{row by_:List Rat}{c m:Nat}(h:row.length=m)(k:by_.length=m):(zdc p row by_ c).length=m:=by
 unfold zdc zaH zht
 rw [List.length_map,List.length_zipWith,List.length_map,h,k,Nat.min_self]
theorem zoC {S:List (List Rat)}{n m r c:Nat}{p:Rat}(h:zbh S n m)(hr:r<n):zbh (zhb r c p S) n m:=by
 refine⟨by unfold zhb;rw [List.length_mapIdx];exact h.rows,λL hL=>?_⟩
 unfold zhb at hL
 obtain⟨i,hi,rfl⟩:=List.mem_mapIdx.1 hL
 split
 ·exact h.cols _ (List.getElem_mem _)
 ·exact zim (h.cols _ (List.getElem_mem _)) (h.row hr)
theorem zlu {S:List (List Rat)}{r c i:Nat}{p:Rat}(hi:i<S.length):(zhb r c p S).getD i []=if i=r then S.getD i [] else zdc p (S.getD i []) (S.getD r []) c:=by
 unfold zhb
 rw [List.getD_eq_getElem?_getD,List.getElem?_mapIdx,List.getElem?_eq_getElem hi]
 show(if i=r then _ else _)=_
 rw [show S.getD i []=S[i] by rw [List.getD_eq_getElem?_getD,List.getElem?_eq_getElem hi];rfl]
theorem clrL_at {S:List (List Rat)}{n m r c i j:Nat}{p:Rat}(h:zbh S n m)(hr:r<n)(hi:i<n)(hj:j<m):atM (zhb r c p S) i j=clr r c p (atM S) i j:=by
 unfold atM clr
 rw [zlu (by rw [h.rows];exact hi)]
 by_cases e:i=r
 ·rw [if_pos e,if_pos e,e]
 ·rw [if_neg e,if_neg e]
  unfold zdc
  rw [zeu,addTL_at (by unfold zaH;rw [List.length_map,h.row hi];exact hj) (by rw [h.row hr];exact hj),zeu]
theorem zcJ.congr {n m c:Nat}{a s s':Nat->Nat->Rat}{ld:List Nat}{p:Rat}(h:zcJ n m c a s ld p)(e:∀i,i<n->∀j,j<m->s' i j=s i j):zcJ n m c a s' ld p:=
 have hk:=h.len
 have hm:=h.cm
 { h with
  piv:=λl hl i hi=>by rw [e i hi _ (by have:=h.lt l hl;omega)];exact h.piv l hl i hi
  low:=λi h1 h2 j hj=>by rw [e i h2 j (by omega)];exact h.low i h1 h2 j hj
  fore:=λl hl j hj=>by rw [e l (by omega) j (by have:=h.lt l hl;omega)];exact h.fore l hl j hj
  back:=λi hi j hj=>by
   rw [h.back i hi j hj,e i hi j hj]
   congr 1
   exact zau λl hl=>by rw [e l (by omega) j hj]}
structure EOk (n m c:Nat)(a0:Nat->Nat->Rat)(e:ESt):Prop where
 dims:zbh e.S n m
 inv:∃a,zii n a0 a/\zcJ n m c a (atM e.S) e.ld e.p
theorem EOk.start {n m:Nat}{S:List (List Rat)}(h:zbh S n m):EOk n m 0 (atM S) ⟨S,[],1⟩:=⟨h,_,.refl,zcJ.start _ _ _⟩
theorem zfU {S:List (List Rat)}{r i:Nat}(h:i<(S.drop r).length):(S.drop r)[i]=S.getD (r+i) []:=by
 rw [List.length_drop] at h
 rw [List.getElem_drop,List.getD_eq_getElem?_getD,List.getElem?_eq_getElem (by omega)];rfl
theorem zlq {c:Nat}{e:ESt}(h:¬ zbd c e<e.S.length - e.ld.length){i:Nat}(h1:e.ld.length<=i)(h2:i<e.S.length):atM e.S i c=0:=by
 have hl:(e.S.drop e.ld.length).length=e.S.length - e.ld.length:=List.length_drop
 have:=List.not_of_lt_findIdx (p:=λrow:List Rat=> !decide (row.getD c 0=0)) (xs:=e.S.drop e.ld.length) (i:=i - e.ld.length) (by show _<zbd c e;omega)
 rw [zfU (by omega),show e.ld.length+(i - e.ld.length)=i by omega] at this
 simpa [atM] using this
theorem zlr {c:Nat}{e:ESt}(h:zbd c e<e.S.length - e.ld.length):atM e.S (e.ld.length+zbd c e) c≠0:=by
 have hl:(e.S.drop e.ld.length).length=e.S.length - e.ld.length:=List.length_drop
 have:=List.findIdx_getElem (p:=λrow:List Rat=> !decide (row.getD c 0=0)) (xs:=e.S.drop e.ld.length) (w:=by show zbd c e<_;omega)
 rw [zfU (by show zbd c e<_;omega)] at this
 simpa [atM,zbd] using this
theorem EOk.pick {n m c:Nat}{a0:Nat->Nat->Rat}{e:ESt}(h:EOk n m c a0 e)(hb:zbd c e<n - e.ld.length):zbh (zfp c e) n m/\(∃a,zii n a0 a/\zcJ n m c a (atM (zfp c e)) e.ld e.p)/\atM (zfp c e) e.ld.length c≠0:=by
 obtain⟨hd,a,hs,hi⟩:=h
 have hb':zbd c e<e.S.length - e.ld.length:=by rw [hd.rows];exact hb
 have hne:=zlr hb'
 unfold zfp
 by_cases h0:zbd c e=0
 ·rw [if_pos h0];rw [h0,Nat.add_zero] at hne;exact⟨hd,⟨a,hs,hi⟩,hne⟩
 ·rw [if_neg h0]
  have hr:=hd.rows
  have e1:=swpL_at (S:=e.S) (r:=e.ld.length) (q:=e.ld.length+zbd c e) (by omega) (by omega) (by omega)
  refine⟨zpD hd (by omega) (by omega),⟨swp e.ld.length (e.ld.length+zbd c e) a,hs.sw (by omega) (by omega),by rw [e1];exact hi.swap (by omega) (by omega)⟩,?_⟩
  rw [e1]
  unfold swp
  rw [if_pos rfl];exact hne
theorem EOk.next {n m c:Nat}{a0:Nat->Nat->Rat}{e:ESt}(h:EOk n m c a0 e)(hc:c<m):EOk n m (c+1) a0 (zfn c e):=by
 have hr:=h.dims.rows
 unfold zfn
 by_cases hb:zbd c e<e.S.length - e.ld.length
 ·rw [if_pos hb]
  obtain⟨hd,⟨a,hs,hi⟩,hne⟩:=h.pick (by rw [<-hr];exact hb)
  exact⟨zoC hd (by omega),a,hs,(hi.clear hc (by omega) hne).congr λi hi' j hj=>clrL_at hd (by omega) hi' hj⟩
 ·rw [if_neg hb]
  obtain⟨hd,a,hs,hi⟩:=h
  exact⟨hd,a,hs,hi.skip hc λi h1 h2=>zlq hb h1 (by omega)⟩
def zeW (c:Nat)(S:List (List Rat)):ESt:=(List.range c).foldl (λe c=>zfn c e) ⟨S,[],1⟩
theorem zit (c:Nat)(S:List (List Rat)):zeW (c+1) S=zfn c (zeW c S):=by
 unfold zeW;rw [List.range_succ,List.foldl_append];rfl
theorem zhU {n m:Nat}{S:List (List Rat)}(h:zbh S n m):∀{c:Nat},c<=m->EOk n m c (atM S) (zeW c S)
 |0,_=>EOk.start h
 |c+1,hc=>by rw [zit];exact(zhU h (by omega)).next (by omega)
