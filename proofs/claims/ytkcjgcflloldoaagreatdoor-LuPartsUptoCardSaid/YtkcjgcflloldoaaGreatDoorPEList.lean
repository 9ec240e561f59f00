/- What this claim leans on. -/
import Derived.Test.YtkcjgcflloldoaaGreatDoorPEDet
set_option linter.unusedVariables false
set_option linter.unusedSimpArgs false
namespace Go.Proofs.YtkcjgcflloldoaaGreatDoor
open Go Go.RowKit Go.Proofs.Tryz
set_option maxHeartbeats 16000000
variable {Ls S:List (List Rat)}{ld:List Nat}{xs:List Rat}{vs:List Value}{K K' c g i j k m n n':Nat}{M M' R a a0 s:Nat->Nat->Rat}{u:Nat->Rat}{p x y:Rat}{v:Value}{w w':World}{A:ze}
def LI (K:Nat)(x:Rat):Prop:=∃z:Int,x=(z:Rat)/\Sz K z.natAbs
theorem LI.up (h:LI K x)(hk:K<=K'):LI K' x:=by
 obtain⟨z,e,hz⟩:=h;exact⟨z,e,hz.up hk⟩
theorem LI.one:LI 1 1:=⟨1,by decide+kernel,by show 1<18446744073709551616^1;rw [Nat.pow_one];decide⟩
theorem LI.zero (K:Nat):LI K 0:=⟨0,by decide+kernel,XB zf⟩
theorem LI.mul (h:LI K x)(k:LI K' y):LI (K+K') (x*y):=by
 obtain⟨z,rfl,hz⟩:=h;obtain⟨t,rfl,ht⟩:=k;exact⟨z*t,(yC z t).symm,by rw [xN];exact hz.mul ht⟩
theorem LI.neg (h:LI K x):LI K (-x):=by
 obtain⟨z,rfl,hz⟩:=h;exact⟨-z,(Rat.intCast_neg z).symm,by rw [Int.natAbs_neg];exact hz⟩
theorem LI.add (h:LI K x)(k:LI K y):LI (K+1) (x+y):=by
 obtain⟨z,rfl,hz⟩:=h;obtain⟨t,rfl,ht⟩:=k;refine⟨z+t,(Rat.intCast_add z t).symm,?_⟩;have:=Int.natAbs_add_le z t;unfold Sz at*;rw [qO];omega
theorem LI.sub (h:LI K x)(k:LI K y):LI (K+1) (x - y):=by
 rw [Rat.sub_eq_add_neg];exact h.add k.neg
theorem LI.sum {f:Nat->Rat}(hk:k<=18446744073709551616)(h:∀i,i<k->LI K (f i)):LI (K+1) (zv k f):=by
 have:∀q,q<=k->∃z:Int,zv q f=(z:Rat)/\z.natAbs<=q*(18446744073709551616^K - 1):=by
  intro q
  induction q with
  |zero=>intro _;exact⟨0,by rw [gX];decide+kernel,za⟩
  |succ q ih=>
    intro hq;obtain⟨z,e,hz⟩:=ih za;obtain⟨t,e2,ht⟩:=h q za;refine⟨z+t,by rw [xz,e,e2,Rat.intCast_add],?_⟩;have h1:=Int.natAbs_add_le z t;unfold Sz at ht;rw [Nat.succ_mul];omega
 obtain⟨z,e,hz⟩:=this k (qX _);refine⟨z,e,?_⟩;unfold Sz;rw [qO,qB];have h0:0<18446744073709551616^K:=XB zf;refine QO hz (QO (qE _ hk) ?_);exact Nat.mul_lt_mul_of_pos_left za zf
theorem LI.sg_ (h:LI K x):LI K (sg c*x):=by
 unfold sg
 split
 ·rw [XD];exact h
 ·rw [Rat.neg_mul,XD];exact h.neg
theorem LI.det_ {K:Nat}:∀{n:Nat} {M:Nat->Nat->Rat},n<=64->(∀i,i<n->∀j,j<n->LI K (M i j))->LI (1+n*(K+1)) (zD n M)
 |0,_,_,_=>LI.one.up za
 |n+1,M,hn,h=>by
   rw [vK];refine(LI.sum (K:=K+(1+n*(K+1))) za λc hc=>?_).up (by rw [Nat.succ_mul];omega);exact(LI.sg_ (h 0 za c hc)).mul (LI.det_ za λi hi j hj=>h (i+1) za _ (gu hj))
theorem wj.lead_sz (h:wj n m c a s ld p)(hn:n<=64)(ha:∀i,i<n->∀j,j<m->LI K (a i j)):LI (1+64*(K+1)) p:=by
 have h1:=h.len;rw [h.det];refine(LI.det_ (K:=K) za λi hi j hj=>ha i za _ ?_).up (yJ (qE _ za) _);have:=h.lt j hj;have:=h.cm;omega
theorem wj.top_sz (h:wj n m c a s ld p)(hn:n<=64)(ha:∀i,i<n->∀j,j<m->LI K (a i j)){l j:Nat}(hl:l<ld.length)(hj:j<m):LI (1+64*(K+1)) (s l j):=by
 have h1:=h.len;rw [h.col hl hj];refine(LI.det_ (K:=K) za λi hi j' d=>?_).up (yJ (qE _ za) _);by_cases e:j'=l
 ·rw [e,vJ];exact ha i za j hj
 ·rw [vS _ e];refine ha i za _ ?_;have:=h.lt j' d;have:=h.cm;omega
theorem wj.sz (h:wj n m c a s ld p)(hn:n<=64)(ha:∀i,i<n->∀j,j<m->LI K (a i j)){i j:Nat}(hi:i<n)(hj:j<m):LI (67+65*K) (s i j):=by
 have h1:=h.len;by_cases hl:i<ld.length
 ·exact(h.top_sz hn ha hl hj).up za
 ·have e:=h.back i hi j hj;rw [if_pos za] at e;have e2:s i j=p*a i j - zv ld.length (λl=>a i (ld.getD l 0)*s l j):=by grind
  rw [e2];have b1:=(h.lead_sz hn ha).mul (ha i hi j hj);have b2:LI (K+(1+64*(K+1))+1) (zv ld.length (λl=>a i (ld.getD l 0)*s l j)):=LI.sum za λl hl=>(ha i hi _ (by have:=h.lt l hl;have:=h.cm;omega)).mul (h.top_sz hn ha hl hj);exact((b1.up (K':=K+(1+64*(K+1))+1) za).sub b2).up za
inductive vB (n : Nat) (a0 : Nat → Nat → Rat) : (Nat → Nat → Rat) → Prop
 |refl:vB n a0 a0
 |sw {a r q}:vB n a0 a->r<q->q<n->vB n a0 (wO r q a)
theorem vB.li (h:vB n a0 a)(h0:∀i,i<n->∀j,j<m->LI K (a0 i j)):∀i,i<n->∀j,j<m->LI K (a i j):=by
 induction h with
 |refl=>exact h0
 |sw h1 h2 h3 ih=>
   intro i hi j hj;unfold wO
   split
   ·exact ih _ h3 j hj
   ·split
    ·exact(ih _ za j hj).neg
    ·exact ih i hi j hj
theorem vB.rows (h:vB n a0 a):(∀i,i<n->∃i',i'<n/\∃e:Rat,e*e=1/\∀j,a i j=e*a0 i' j)/\(∀i,i<n->∃i',i'<n/\∃e:Rat,e*e=1/\∀j,a0 i j=e*a i' j):=by
 induction h with
 |refl=>exact⟨λi hi=>⟨i,hi,1,by decide+kernel,λj=>(XD _).symm⟩,λi hi=>⟨i,hi,1,by decide+kernel,λj=>(XD _).symm⟩⟩
 | @sw a r q h1 h2 h3 ih=>
   constructor
   ·intro i hi;by_cases e1:i=r
    ·obtain⟨i',k1,e,k2,k3⟩:=ih.1 q h3;exact⟨i',k1,e,k2,λj=>by unfold wO;rw [if_pos e1];exact k3 j⟩
    ·by_cases e2:i=q
     ·obtain⟨i',k1,e,k2,k3⟩:=ih.1 r za;exact⟨i',k1,-e,by grind,λj=>by unfold wO;rw [if_neg e1,if_pos e2,k3 j,Rat.neg_mul]⟩
     ·obtain⟨i',k1,e,k2,k3⟩:=ih.1 i hi;exact⟨i',k1,e,k2,λj=>by unfold wO;rw [if_neg e1,if_neg e2];exact k3 j⟩
   ·intro i hi;obtain⟨i',k1,e,k2,k3⟩:=ih.2 i hi;by_cases e1:i'=q
    ·exact⟨r,za,e,k2,λj=>by unfold wO;rw [if_pos rfl,k3 j,e1]⟩
    ·by_cases e2:i'=r
     ·exact⟨q,h3,-e,by grind,λj=>by unfold wO;rw [if_neg za,if_pos rfl,k3 j,e2];grind⟩
     ·exact⟨i',k1,e,k2,λj=>by unfold wO;rw [if_neg e2,if_neg e1];exact k3 j⟩
structure sn where
 S:List (List Rat)
 ld:List Nat
 p:Rat
def sC (r q:Nat)(S:List (List Rat)):List (List Rat):=(S.set r (S.getD q [])).set q (zT (-1) (S.getD r []))
def bE (p:Rat)(row by_:List Rat)(c:Nat):List Rat:=zT p⁻¹ (uN (zT (by_.getD c 0) row) (-row.getD c 0) by_)
def tz (r c:Nat)(p:Rat)(S:List (List Rat)):List (List Rat):=S.mapIdx λi row=>if i=r then row else bE p row (S.getD r []) c
def td (c:Nat)(e:sn):Nat:=(e.S.drop e.ld.length).findIdx λrow=> !decide (row.getD c 0=0)
def fK (c:Nat)(e:sn):List (List Rat):=if td c e=0 then e.S else sC e.ld.length (e.ld.length+td c e) e.S
def sd (c:Nat)(e:sn):sn:=
 if td c e<e.S.length - e.ld.length then⟨tz e.ld.length c e.p (fK c e),e.ld++[c],zn (fK c e) e.ld.length c⟩ else e
theorem aE {r:Nat}(v:List Rat)(h:i≠r):(S.set r v).getD i []=S.getD i []:=by
 rw [qQ,XJ (Ne.symm h),<-qQ]
theorem Z7 {r:Nat}(v:List Rat)(h:r<S.length):(S.set r v).getD r []=v:=by
 rw [qQ,XY h];rfl
theorem nw {r:Rat}(j:Nat):(zT r xs).getD j 0=r*xs.getD j 0:=by
 unfold zT;rw [qQ,qQ,qW];cases xs[j]? with
 |none=>exact(XQ r).symm
 |some x=>rfl
theorem Xl {r:Rat}{ys:List Rat}(hx:j<xs.length)(hy:j<ys.length):(uN xs r ys).getD j 0=xs.getD j 0+r*ys.getD j 0:=by
 unfold uN;rw [qQ,qQ,qQ,List.getElem?_zipWith,qY hx,qY hy];rfl
theorem NY {r q:Nat}(h:zQ S n m)(hr:r<n)(hq:q<n):zQ (sC r q S) n m:=by
 refine⟨by unfold sC;rw [QV,QV];exact h.rows,λL hL=>?_⟩;unfold sC at hL;rcases xL hL with hL|rfl
 ·rcases xL hL with hL|rfl
  ·exact h.cols L hL
  ·exact h.row hq
 ·unfold zT;rw [QP];exact h.row hr
theorem lN {S:List (List Rat)}{r q:Nat}(hr:r<S.length)(hq:q<S.length)(a:r≠q):zn (sC r q S)=wO r q (zn S):=by
 funext i j
 unfold zn sC wO;by_cases e1:i=r
 ·subst e1;rw [if_pos rfl,aE _ a,Z7 _ hr]
 ·rw [if_neg e1];by_cases e2:i=q
  ·subst e2;rw [if_pos rfl,Z7 _ (by rw [QV];exact hq),nw,Rat.neg_mul,XD]
  ·rw [if_neg e2,aE _ e2,aE _ e1]
theorem PS {row by_:List Rat}(h:row.length=m)(k:by_.length=m):(bE p row by_ c).length=m:=by
 unfold bE zT uN;rw [QP,jX,QP,h,k,Nat.min_self]
theorem OI {r:Nat}(h:zQ S n m)(hr:r<n):zQ (tz r c p S) n m:=by
 refine⟨by unfold tz;rw [List.length_mapIdx];exact h.rows,λL hL=>?_⟩;unfold tz at hL;obtain⟨i,hi,rfl⟩:=List.mem_mapIdx.1 hL
 split
 ·exact h.cols _ (xM _)
 ·exact PS (h.cols _ (xM _)) (h.row hr)
theorem r9 {r:Nat}(hi:i<S.length):(tz r c p S).getD i []=if i=r then S.getD i [] else bE p (S.getD i []) (S.getD r []) c:=by
 unfold tz;rw [qQ,List.getElem?_mapIdx,qY hi];show(if i=r then _ else _)=_;rw [show S.getD i []=S[i] by rw [qQ,qY hi];rfl]
theorem nV {r:Nat}(h:zQ S n m)(hr:r<n)(hi:i<n)(hj:j<m):zn (tz r c p S) i j=rZ r c p (zn S) i j:=by
 unfold zn rZ;rw [r9 (by rw [h.rows];exact hi)];by_cases e:i=r
 ·rw [if_pos e,if_pos e,e]
 ·rw [if_neg e,if_neg e];unfold bE;rw [nw,Xl (by unfold zT;rw [QP,h.row hi];exact hj) (by rw [h.row hr];exact hj),nw]
theorem wj.congr {s':Nat->Nat->Rat}(h:wj n m c a s ld p)(e:∀i,i<n->∀j,j<m->s' i j=s i j):wj n m c a s' ld p:=
 have hk:=h.len
 have hm:=h.cm
 { h with
  piv:=λl hl i hi=>by rw [e i hi _ (by have:=h.lt l hl;omega)];exact h.piv l hl i hi
  low:=λi h1 h2 j hj=>by rw [e i h2 j za];exact h.low i h1 h2 j hj
  fore:=λl hl j hj=>by rw [e l za j (by have:=h.lt l hl;omega)];exact h.fore l hl j hj
  back:=λi hi j hj=>by
   rw [h.back i hi j hj,e i hi j hj];congr 1;exact yj λl hl=>by rw [e l za j hj]}
structure rv (n m c:Nat)(a0:Nat->Nat->Rat)(e:sn):Prop where
 dims:zQ e.S n m
 inv:∃a,vB n a0 a/\wj n m c a (zn e.S) e.ld e.p
theorem rv.start (h:zQ S n m):rv n m 0 (zn S) ⟨S,[],1⟩:=⟨h,_,.refl,wj.start _ _ _⟩
theorem bQ {r:Nat}(h:i<(S.drop r).length):(S.drop r)[i]=S.getD (r+i) []:=by
 rw [xK] at h;rw [List.getElem_drop,qQ,qY za];rfl
theorem Qo {e:sn}(h:¬ td c e<e.S.length - e.ld.length){i:Nat}(h1:e.ld.length<=i)(h2:i<e.S.length):zn e.S i c=0:=by
 have hl:(e.S.drop e.ld.length).length=e.S.length - e.ld.length:=xK;have:=List.not_of_lt_findIdx (p:=λrow:List Rat=> !decide (row.getD c 0=0)) (xs:=e.S.drop e.ld.length) (i:=i - e.ld.length) (by show _<td c e;omega);rw [bQ za,show e.ld.length+(i - e.ld.length)=i by omega] at this;simpa [zn] using this
theorem Qp {e:sn}(h:td c e<e.S.length - e.ld.length):zn e.S (e.ld.length+td c e) c≠0:=by
 have hl:(e.S.drop e.ld.length).length=e.S.length - e.ld.length:=xK;have:=List.findIdx_getElem (p:=λrow:List Rat=> !decide (row.getD c 0=0)) (xs:=e.S.drop e.ld.length) (w:=by show td c e<_;omega);rw [bQ (by show td c e<_;omega)] at this;simpa [zn,td] using this
theorem rv.pick {e:sn}(h:rv n m c a0 e)(hb:td c e<n - e.ld.length):zQ (fK c e) n m/\(∃a,vB n a0 a/\wj n m c a (zn (fK c e)) e.ld e.p)/\zn (fK c e) e.ld.length c≠0:=by
 obtain⟨hd,a,hs,hi⟩:=h;have g:td c e<e.S.length - e.ld.length:=by rw [hd.rows];exact hb
 have d:=Qp g;unfold fK;by_cases h0:td c e=0
 ·rw [if_pos h0];rw [h0,XX] at d;exact⟨hd,⟨a,hs,hi⟩,d⟩
 ·rw [if_neg h0];have hr:=hd.rows;have e1:=lN (S:=e.S) (r:=e.ld.length) (q:=e.ld.length+td c e) za za za;refine⟨NY hd za za,⟨wO e.ld.length (e.ld.length+td c e) a,hs.sw za za,by rw [e1];exact hi.swap za za⟩,?_⟩;rw [e1];unfold wO;rw [if_pos rfl];exact d
theorem rv.next {e:sn}(h:rv n m c a0 e)(hc:c<m):rv n m (c+1) a0 (sd c e):=by
 have hr:=h.dims.rows;unfold sd;by_cases hb:td c e<e.S.length - e.ld.length
 ·rw [if_pos hb];obtain⟨hd,⟨a,hs,hi⟩,g⟩:=h.pick (by rw [<-hr];exact hb);exact⟨OI hd za,a,hs,(hi.clear hc za g).congr λi d j hj=>nV hd za d hj⟩
 ·rw [if_neg hb];obtain⟨hd,a,hs,hi⟩:=h;exact⟨hd,a,hs,hi.skip hc λi h1 h2=>Qo hb h1 za⟩
def tZ (c:Nat)(S:List (List Rat)):sn:=(List.range c).foldl (λe c=>sd c e) ⟨S,[],1⟩
theorem PY (c:Nat)(S:List (List Rat)):tZ (c+1) S=sd c (tZ c S):=by
 unfold tZ;rw [YK,YJ];rfl
theorem So {n m:Nat}{S:List (List Rat)}(h:zQ S n m):∀{c:Nat},c<=m->rv n m c (zn S) (tZ c S)
 |0,_=>rv.start h
 |c+1,hc=>by rw [PY];exact(So h za).next za
def Sp (n m:Nat)(M:Nat->Nat->Rat)(v:Nat->Rat):Prop:=∃y:Nat->Rat,∀j,j<m->v j=zv n λi=>y i*M i j
theorem Sp.zero:Sp n m M λ_=>0:=⟨λ_=>0,λj _=>(u3 λi _=>yX _).symm⟩
theorem Sp.comb {v:Nat->Rat}(a b:Rat)(h:Sp n m M u)(k:Sp n m M v):Sp n m M λj=>a*u j+b*v j:=by
 obtain⟨y,hy⟩:=h;obtain⟨z,hz⟩:=k;refine⟨λi=>a*y i+b*z i,λj hj=>?_⟩;show a*u j+b*v j=_;rw [hy j hj,hz j hj,vL,vL,<-sF];exact yj λi _=>by grind
theorem Sp.scale {v:Nat->Rat}(a:Rat)(h:Sp n m M u)(e:∀j,j<m->v j=a*u j):Sp n m M v:=by
 obtain⟨y,hy⟩:=h;refine⟨λi=>a*y i,λj hj=>?_⟩;rw [e j hj,hy j hj,vL];exact yj λi _=>by grind
theorem Sp.congr {v:Nat->Rat}(h:Sp n m M u)(e:∀j,j<m->v j=u j):Sp n m M v:=by
 obtain⟨y,hy⟩:=h;exact⟨y,λj hj=>(e j hj).trans (hy j hj)⟩
theorem iN (hc:c<k)(f:Nat->Rat):zv k (λi=>(if i=c then 1 else 0)*f i)=f c:=by
 induction k with
 |zero=>cases hc
 |succ k ih=>
   rw [xz];by_cases h:c=k
   ·subst h;rw [if_pos rfl,XD,u3 λi hi=>by rw [if_neg za,yX],YY]
   ·rw [if_neg za,yX,xE,ih za]
theorem Sp.row {i:Nat}(hi:i<n):Sp n m M (M i):=⟨λq=>if q=i then 1 else 0,λj _=>(iN hi λq=>M q j).symm⟩
theorem Sp.sum {u:Nat->Nat->Rat}(f:Nat->Rat){q:Nat}(h:∀l,l<q->Sp n m M (u l)):Sp n m M λj=>zv q λl=>f l*u l j:=by
 induction q with
 |zero=>exact Sp.zero
 |succ q ih=>
   refine((ih λl hl=>h l za).comb 1 (f q) (h q za)).congr λj _=>?_;rw [xz,XD]
theorem Sp.trans {v:Nat->Rat}(h:Sp n' m M' v)(k:∀i,i<n'->Sp n m M (M' i)):Sp n m M v:=by
 obtain⟨y,hy⟩:=h;exact(Sp.sum y k).congr hy
structure RF (n m:Nat)(M:Nat->Nat->Rat)(ld:List Nat)(R:Nat->Nat->Rat):Prop where
 len:ld.length<=n
 up:∀l l',l<l'->l'<ld.length->ld.getD l 0<ld.getD l' 0
 lt:∀l,l<ld.length->ld.getD l 0<m
 piv:∀l,l<ld.length->∀i,i<n->R i (ld.getD l 0)=if i=l then 1 else 0
 zero:∀i,ld.length<=i->i<n->∀j,j<m->R i j=0
 fore:∀l,l<ld.length->∀j,j<ld.getD l 0->R l j=0
 sum:∀i,i<n->∀j,j<m->M i j=zv ld.length λl=>M i (ld.getD l 0)*R l j
 span:∀l,l<ld.length->Sp n m M (R l)
theorem RF.of_elim {e:sn}(h:rv n m m a0 e)(ht:∀i,i<n->∃t:Rat,t≠0/\∀j,j<m->a0 i j=t*M i j):RF n m M e.ld λi j=>e.p⁻¹*zn e.S i j:=by
 obtain⟨hd,a,hs,hi⟩:=h;have hp:=hi.ne
 -- rows of either are multiples of the other's
 have r1:∀i,i<n->∃i',i'<n/\∃t:Rat,∀j,j<m->a i j=t*M i' j:=λi c=>by
  obtain⟨i',k1,e,_,k3⟩:=hs.rows.1 i c;obtain⟨t,_,k4⟩:=ht i' k1;exact⟨i',k1,e*t,λj hj=>by rw [k3 j,k4 j hj];grind⟩
 have r2:∀i,i<n->∃i',i'<n/\∃t:Rat,∀j,j<m->M i j=t*a i' j:=λi c=>by
  obtain⟨i',k1,e,_,k3⟩:=hs.rows.2 i c;obtain⟨t,k2,k4⟩:=ht i c;exact⟨i',k1,t⁻¹*e,λj hj=>by have q1:=k3 j;have q2:=k4 j hj;grind⟩
 refine⟨hi.len,hi.up,hi.lt,λl hl i c=>?_,λi h1 h2 j hj=>by show e.p⁻¹*zn e.S i j=0;rw [hi.low i h1 h2 j hj,XQ],λl hl j hj=>by show e.p⁻¹*zn e.S l j=0;rw [hi.fore l hl j hj,XQ],λi c j hj=>?_,λl hl=>?_⟩
 ·show e.p⁻¹*zn e.S i (e.ld.getD l 0)=_;rw [hi.piv l hl i c]
  split<;>grind
 ·obtain⟨i',k1,t,k2⟩:=r2 i c;have e1:=hi.back i' k1 j hj;have e2:(if e.ld.length<=i' then zn e.S i' j else 0)=0:=by
   split
   ·next h=>exact hi.low i' h k1 j hj
   ·rfl
  rw [e2,xE] at e1;have e3:zv e.ld.length (λl=>M i (e.ld.getD l 0)*(e.p⁻¹*zn e.S l j))=t*e.p⁻¹*zv e.ld.length (λl=>a i' (e.ld.getD l 0)*zn e.S l j):=by
   rw [vL];exact yj λl hl=>by rw [k2 _ (by have:=hi.lt l hl;omega)];grind
  show M i j=zv e.ld.length (λl=>M i (e.ld.getD l 0)*(e.p⁻¹*zn e.S l j));rw [e3,k2 j hj,<-e1]
  grind
 ·have hk:=hi.len;have e1:∀j,j<m->zn e.S l j=zv e.ld.length λq=>zD e.ld.length (zP (λi j=>a i (e.ld.getD j 0)) l λi=>if i=q then 1 else 0)*a q j:=λj hj=>by
   rw [hi.col hl hj];have:zD e.ld.length (zP (λi j=>a i (e.ld.getD j 0)) l λi=>a i j)=zD e.ld.length (zP (λi j=>a i (e.ld.getD j 0)) l λi=>zv e.ld.length λq=>a q j*if i=q then 1 else 0):=uz λi c j' _=>by
    by_cases e:j'=l
    ·rw [e,vJ,vJ,<-iN c (λq=>a q j)];exact yj λq _=>by
      rw [YW];congr 1;by_cases h:q=i
      ·rw [if_pos h,if_pos h.symm]
      ·rw [if_neg h,if_neg (Ne.symm h)]
    ·rw [vS _ e,vS _ e]
   rw [this,fm _ hl (λq=>a q j) (λq i=>if i=q then 1 else 0)];exact yj λq _=>YW _ _
  have e2:∀q,q<e.ld.length->Sp n m M (a q):=λq hq=>by
   obtain⟨i',k1,t,k2⟩:=r1 q za;exact(Sp.row k1).scale t k2
  exact(Sp.sum _ e2).scale e.p⁻¹ λj hj=>by rw [<-e1 j hj]
theorem RF.of_span (h:RF n m M ld R){v:Nat->Rat}(hv:Sp n m M v):∀j,j<m->v j=zv ld.length λl=>v (ld.getD l 0)*R l j:=by
 obtain⟨y,hy⟩:=hv;intro j hj;rw [hy j hj];have e1:zv n (λi=>y i*M i j)=zv n (λi=>zv ld.length λl=>y i*M i (ld.getD l 0)*R l j):=yj λi hi=>by
  rw [h.sum i hi j hj,vL];exact yj λl _=>by grind
 rw [e1,Y2];refine yj λl hl=>?_;rw [hy _ (h.lt l hl),YW,vL];exact yj λi _=>YW _ _
theorem RF.begins (h:RF n m M ld R){v:Nat->Rat}(hv:Sp n m M v){c:Nat}(hc:c<m)(h0:∀j,j<c->v j=0)(h1:v c≠0):∃l,l<ld.length/\ld.getD l 0=c:=by
 refine Classical.byContradiction λhn=>h1 ?_;rw [h.of_span hv c hc];refine u3 λl hl=>?_;rcases XV (ld.getD l 0) c with a|a|a
 ·rw [h0 _ a,yX]
 ·exact absurd ⟨l,hl,a⟩ hn
 ·rw [h.fore l hl c a,XQ]
theorem UB:∀{xs ys:List Nat},xs.Pairwise (·<·)->ys.Pairwise (·<·)->(∀x,x ∈ xs↔x ∈ ys)->xs=ys
 |[],[],_,_,_=>rfl
 |[],y::ys,_,_,h=>by have:=(h y).2 XK;cases this
 |x::xs,[],_,_,h=>by have:=(h x).1 XK;cases this
 |x::xs,y::ys,h1,h2,h=>by
   rw [List.pairwise_cons] at h1 h2;have e:x=y:=by
    rcases List.mem_cons.1 ((h x).1 XK) with a|a
    ·exact a
    ·rcases List.mem_cons.1 ((h y).2 XK) with b|b
     ·exact b.symm
     ·have:=h1.1 y b;have:=h2.1 x a;omega
   subst e;congr 1;refine UB h1.2 h2.2 λz=>⟨λhz=>?_,λhz=>?_⟩
   ·rcases List.mem_cons.1 ((h z).1 (XW _ hz)) with a|a
    ·have:=h1.1 z hz;omega
    ·exact a
   ·rcases List.mem_cons.1 ((h z).2 (XW _ hz)) with a|a
    ·have:=h2.1 z hz;omega
    ·exact a
theorem jl {xs:List Nat}{l:Nat}(h:l<xs.length):xs.getD l 0 ∈ xs:=by
 rw [qQ,qY h];exact xM h
theorem Xd {xs:List Nat}{x:Nat}(h:x ∈ xs):∃l,l<xs.length/\xs.getD l 0=x:=by
 obtain⟨l,hl,e⟩:=List.mem_iff_getElem.1 h;exact⟨l,hl,by rw [qQ,qY hl];exact e⟩
theorem RF.rising (h:RF n m M ld R):ld.Pairwise (·<·):=by
 rw [List.pairwise_iff_getElem];intro i j hi hj a;have:=h.up i j a hj;rw [qQ,qQ,qY hi,qY hj] at this;exact this
theorem RF.one {R':Nat->Nat->Rat}{a:List Nat}(h:RF n m M ld R)(k:RF n' m M' a R')(h1:∀i,i<n'->Sp n m M (M' i))(h2:∀i,i<n->Sp n' m M' (M i)):ld=a/\∀l,l<ld.length->∀j,j<m->R l j=R' l j:=by
 have s1:∀l,l<a.length->Sp n m M (R' l):=λl hl=>(k.span l hl).trans h1;have s2:∀l,l<ld.length->Sp n' m M' (R l):=λl hl=>(h.span l hl).trans h2;have e:ld=a:=by
  refine UB h.rising k.rising λx=>⟨λhx=>?_,λhx=>?_⟩
  ·obtain⟨l,hl,rfl⟩:=Xd hx;obtain⟨q,hq,e⟩:=k.begins (s2 l hl) (h.lt l hl) (h.fore l hl) (by rw [h.piv l hl l (by have:=h.len;omega),if_pos rfl];decide+kernel);rw [<-e];exact jl hq
  ·obtain⟨l,hl,rfl⟩:=Xd hx;obtain⟨q,hq,e⟩:=h.begins (s1 l hl) (k.lt l hl) (k.fore l hl) (by rw [k.piv l hl l (by have:=k.len;omega),if_pos rfl];decide+kernel);rw [<-e];exact jl hq
 subst e;refine⟨rfl,λl hl j hj=>?_⟩;have hk:=h.len;rw [k.of_span (s2 l hl) j hj];have:zv ld.length (λq=>R l (ld.getD q 0)*R' q j)=zv ld.length (λq=>(if q=l then 1 else 0)*R' q j):=yj λq hq=>by
  rw [h.piv q hq l za];by_cases e:q=l
  ·rw [if_pos e,if_pos e.symm]
  ·rw [if_neg e,if_neg (Ne.symm e)]
 rw [this,iN hl]
theorem RF.inj (h:RF n m M ld R){l q:Nat}(hl:l<ld.length)(hq:q<ld.length)(e:ld.getD l 0=ld.getD q 0):l=q:=by
 rcases XV l q with a|a|a
 ·have:=h.up l q a hq;omega
 ·exact a
 ·have:=h.up q l a hl;omega
theorem oC (k:Nat)(f g:Nat->Rat):zv k (λi=>f i - g i)=zv k f - zv k g:=by
 have:=sF k f (λi=> -g i);rw [Xv] at this;rw [Rat.sub_eq_add_neg,<-this];exact yj λi _=>Rat.sub_eq_add_neg _ _
theorem RF.some (n m:Nat)(G:Nat->Nat->Rat):∃ld R,RF n m G ld R:=by
 have h:=So (gZ n m G) (qX m);refine⟨_,_,RF.of_elim h λi hi=>⟨1,by decide+kernel,λj hj=>by rw [fC hi hj,XD]⟩⟩
def xc (u:Value):Prop:=∃A n c,u=.slice A n c
def wC (w:World)(v:Value):Prop:=∀g,v.ownBlock=some g->∃(cur:Array Value) (e:TypeId),w.heap[g]?=some (.cells cur e (0,0))/\∀u ∈ cur.toList,xc u
theorem wC.nil (w:World)(c:Nat):wC w (.slice none 0 c):=λg h=>by simp [Value.ownBlock] at h
theorem wC.block (h:wC w v)(hg:∀g,v.ownBlock=some g->w'.heap[g]?=w.heap[g]?):wC w' v:=λg e=>by
 obtain⟨a,t,h1,h2⟩:=h g e;exact⟨a,t,(hg g e).trans h1,h2⟩
theorem wC.below (h:wC w v)(hb:Below w.heap.size w w'):wC w' v:=λg e=>by
 obtain⟨a,t,h1,h2⟩:=h g e;exact⟨a,t,(hb.block g (Array.getElem?_eq_some_iff.1 h1).1).trans h1,h2⟩
theorem Vj {z:Array Value}{u:Value}(hz:0<z.size)(hu:u ∈(Builtin.zeroCells z k).toList):u ∈ z.toList:=by
 unfold Builtin.zeroCells at hu;rw [YZ,Array.mem_map] at hu;obtain⟨i,_,rfl⟩:=hu;have a:i%z.size<z.size:=QA _ hz;rw [getElem!_pos z (i%z.size) a,YZ];exact Array.getElem_mem a
section
variable {P:Program}(w:World)
theorem Vg (s:Nat)(t ty e:TypeId)(i:TypeInfo)(z:Value)(size bytes:Nat)(ht:P.underlying t=some (.slice e))(hi:P.info? e=some i)(hz:i.zero=some z)
  (I:i.size=size) (Q:i.bytes=bytes) (T:z.cells.size=size) (hsz:0<size)
  (v:Value) (n:Nat) (xs:List Value) (o:w.ownsRow s e size v n xs)
  (a:Addr) (m c:Nat) (d:List Value) (hl:d.length=m*size) (B:∀j u,d[j]?=some u->w.cell? (a.add j)=some u) (h1:∀u ∈ d,u.oneCell'=true)
  (K:n+m<=maxLen) (C:(n+m)*bytes<=140737488355328) (F:s<=w.heap.size)
  (hv:wC w v) (S:∀u ∈ z.cells.toList,xc u) (O:∀u ∈ d,xc u):
  ∃ v' w',(Builtin.append_ #[t,t] ty #[v,.slice (some a) m c]).run P w = .ok v' w' ∧ w'.ownsRow s e size v' (n + m) (xs ++ d) ∧ w.grownBy w' v.ownBlock ∧
   (v'.ownBlock=v.ownBlock\/v'.ownBlock=some w.heap.size)/\wC w' v':=by
 subst I;subst Q;have hsmall:n+m<=9223372036854775807:=by simp only [maxLen] at K;omega
 have D:(xs++d).length=(n+m)*i.size:=by rw [qT,o.1,hl,QN]
 have grown : ∀ (old : Nat),old < n + m → (∀ u ∈ xs,xc u) → ∀ (row : Option Nat),
   (w.drew.alloc (.cells (xs.toArray ++ d.toArray ++ Builtin.zeroCells z.cells (grownCap w (n + m) old e - (n + m))) e)).ownsRow s e i.size
     (.slice (some ⟨w.heap.size,0,none⟩) (n+m) (grownCap w (n+m) old e)) (n+m) (xs++d)/\
   w.grownBy (w.drew.alloc (.cells (xs.toArray++d.toArray++Builtin.zeroCells z.cells (grownCap w (n+m) old e - (n+m))) e)) row/\
   wC (w.drew.alloc (.cells (xs.toArray++d.toArray++Builtin.zeroCells z.cells (grownCap w (n+m) old e - (n+m))) e)) (.slice (some ⟨w.heap.size,0,none⟩) (n+m) (grownCap w (n+m) old e)):=by
  intro old ho J row;have R:=grownCap_ge w (n+m) old e;have G:grownCap w (n+m) old e<=maxLen:=grownCap_le_maxLen w (n+m) old e K;refine⟨⟨D,.inr ⟨w.heap.size,_,_,rfl,F,heap_alloc_new w.drew _,R,G,?_,?_⟩⟩,⟨rfl,rfl,rfl,zG,λk hk _=>heap_alloc_old w.drew _ hk⟩,?_⟩
  ·simp only [Array.size_append,XR,size_zeroCells,T,o.1,hl,<-QN];congr 1;omega
  ·simp only [YD,xV];rw [<-xV,<-D];exact jJ
  ·intro g hg;simp [Value.ownBlock] at hg;subst hg;refine⟨_,_,heap_alloc_new w.drew _,λu hu=>?_⟩;simp only [YD,yG] at hu;rcases hu with(hu|hu)|hu
   ·exact J u hu
   ·exact O u hu
   ·exact S u (Vj za hu)
 rcases o.2 with⟨rfl,rfl⟩|⟨g,cap,cur,rfl,hbg,hg,hnc,G,hcs,htake⟩
 ·have hx:xs=[]:=QX (by simpa using o.1);subst hx;by_cases hm:m=0
  ·subst hm;have hn:d=[]:=QX (by simpa using hl);subst hn;refine⟨.slice none 0 0,w,?_,xJ w s e i.size,⟨rfl,rfl,rfl,qX _,λ_ _ _=>rfl⟩,Or.inl rfl,wC.nil _ _⟩;simp [Builtin.append_,run_underlying ht,sizeOf,typeInfo,hi,Builtin.lenOf,Builtin.firstCells,loadCells,loadCellsFrom]
  ·have hr:=run_append_nil (P:=P) w t ty e i z ht hi hz a m c d hl B za za (by have hb:=C;simp only [xR] at hb;omega);have A:=grown 0 za (λu hu=>by cases hu) (Value.ownBlock (.slice none 0 0));simp only [xR,yQ,Array.empty_append] at A⊢;exact⟨_,_,hr,A.1,A.2.1,Or.inr rfl,A.2.2⟩
 ·obtain⟨y,e2,E,H⟩:=hv g rfl;have L:y=cur:=by
   rw [hg] at E;injection E with E;injection E with E;exact E.symm
  subst L;by_cases hroom:n+m<=cap
  ·have M:n*i.size+d.length<=y.size:=by rw [hl,hcs,<-QN];exact qE _ hroom
   have hr:=run_append_room (P:=P) w t ty e i ht hi g n cap y hg a m c d hl B h1 hroom M;refine⟨_,_,hr,⟨D,.inr ⟨g,cap,_,rfl,hbg,setRow_heap w g y _ e _ hg,hroom,G,?_,?_⟩⟩,⟨rfl,rfl,rfl,zG,λk _ hk=>setRow_other w g k _ (λe=>hk (by simp [Value.ownBlock,e]))⟩,Or.inl rfl,?_⟩
   ·simp only [XR,qT,qL,xK,XE];omega
   ·rw [htake,<-D];exact jJ
   ·intro g' N;simp [Value.ownBlock] at N;subst N;refine⟨_,_,setRow_heap w g y _ e _ hg,λu hu=>?_⟩;rw [yG,yG] at hu;rcases hu with(hu|hu)|hu
    ·exact H u (XZ hu)
    ·exact O u hu
    ·exact H u (XA hu)
  ·have holds:∀j u,xs[j]?=some u->w.cell? ((⟨g,0,none⟩:Addr).add j)=some u:=o.cells (g:=g) rfl;have hr:=run_append_grow (P:=P) w t ty e i z ht hi hz ⟨g,0,none⟩ n cap xs o.1 holds a m c d hl B za za (growslice_fits za C);have J:∀u ∈ xs,xc u:=λu hu=>H u (XZ (by rw [htake];exact hu));have A:=grown cap za J (Value.ownBlock (.slice (some ⟨g,0,none⟩) n cap));exact⟨_,_,hr,A.1,A.2.1,Or.inr rfl,A.2.2⟩
theorem bU {D:Array Oper}{rest:List Oper}{o:Oper}{a:Act}{Q:Exit->Act->World->Prop}(G:o.guard=none)(s x:Operand)(t:TypeId)
  (ho:o.op=.call {callee:=.builtin .append,args:=#[s,x],argTypes:=#[t,t]})
  (g:Nat) (e:TypeId) (i:TypeInfo) (z:Value) (size bytes:Nat) (ht:P.underlying t=some (.slice e)) (hi:P.info? e=some i) (hz:i.zero=some z)
  (B:i.size=size) (F:i.bytes=bytes) (J:z.cells.size=size) (hsz:0<size)
  (v:Value) (n:Nat) (xs:List Value) (hs:a.eval s=v) (C:w.ownsRow g e size v n xs)
  (ad:Addr) (m c:Nat) (d:List Value) (hx:a.eval x=.slice (some ad) m c) (hl:d.length=m*size) (A:∀j u,d[j]?=some u->w.cell? (ad.add j)=some u) (h1:∀u ∈ d,u.oneCell'=true)
  (E:n+m<=maxLen) (k:(n+m)*bytes<=140737488355328) (y:g<=w.heap.size)
  (hv:wC w v) (I:∀u ∈ z.cells.toList,xc u) (H:∀u ∈ d,xc u)
  (h:∀v' w',w'.ownsRow g e size v' (n+m) (xs++d)->w.grownBy w' v.ownBlock->(v'.ownBlock=v.ownBlock\/v'.ownBlock=some w.heap.size)->wC w' v'->wpList P D Q rest (a.put o.dst v') w'):
  wpList P D Q (o::rest) a w:=by
 refine wpList_plain G λK hK=>?_;obtain⟨v',w',hr,h2,h3,h4,h5⟩:=Vg (P:=P) w g t o.type e i z size bytes ht hi hz B F J hsz v n xs C ad m c d hl A h1 E k y hv I H;unfold Oper.wp execOp;simp only [ho,resolve,invoke,builtin,Sem.run_bind,Sem.run_pure,Result.andThen_ok,YQ,yV,List.map_nil,hs,hx,hr];exact hK _ _ (h v' w' h2 h3 h4 h5)
end
theorem wC.blk (h:wC w v)(hg:v.ownBlock=some g):∃(t:TypeId) (cs:Array Value),zh w g t cs/\∀u ∈ cs.toList,xc u:=by
 obtain⟨a,e,h1,h2⟩:=h g hg;exact⟨e,a,h1,h2⟩
theorem oK {t:TypeId}{cs:Array Value}(h:z7 w A n c xs)(hk:zh w g t cs)(hs:∀u ∈ cs.toList,xc u)(ho:yl g w w'):z7 w' A n c xs:=by
 refine⟨h.len,h.fits,h.most,λi x hi=>?_⟩;obtain⟨ad,b,B,m,d,F,u,v,e,h1,h2,h3,h4,h5⟩:=h.num i x hi;have a:ad.block≠g:=λhg=>by
  have hb:(ad.add (i*3)).block=g:=by rw [yw];exact hg
  generalize ad.add (i*3)=q at hb h2;obtain⟨bk,off,pr⟩:=q;simp only at hb;subst hb;unfold zh at hk;cases pr with
  |none=>
    rw [show w.cell? ⟨bk,off,none⟩=cs[off]? from cell_of_row w bk off _ t (0,0) hk,<-QR] at h2;obtain⟨A9,n9,c9,e9⟩:=hs _ (QY h2);cases e9
  |some q=>simp [World.cell?,hk] at h2
 have o:yb cs:=λq hq k z e9=>by
  obtain⟨A9,n9,c9,e8⟩:=hs q hq;rw [e8] at e9;cases e9
 have hc:∀j,w'.cell? (ad.add j)=w.cell? (ad.add j):=λj=>ho.2 _ (by rw [yw];exact h1) (by rw [yw];exact a);exact⟨ad,b,B,m,d,F,u,v,e,qJ h1 ho.1,(hc _).trans h2,(hc _).trans h3,(hc _).trans h4,yt.offg h5 hk o ho⟩
theorem UM (h:z7 w A n c xs)(hg:w.grownBy w' v.ownBlock)(hn:wC w v):z7 w' A n c xs:=by
 cases hv:v.ownBlock with
 |none=>rw [hv] at hg;exact h.keep (sU hg)
 |some g=>
   rw [hv] at hg;obtain⟨t,cs,hk,hc⟩:=hn.blk hv;exact oK h hk hc (yl.of_grown hg)
structure sZ (w:World)(base:Nat)(v:Value)(Ls:List (List Rat))(vs:List Value):Prop where
 own:w.ownsRow base 58 1 v Ls.length vs
 sl:wC w v
 num:∀(i:Nat) (L:List Rat),Ls[i]?=some L->∃(B:ze) (d:Nat),vs[i]?=some (Value.slice B L.length d)/\z7 w B L.length d L
theorem sZ.nil (w:World)(a:Nat):sZ w a (.slice none 0 0) [] []:=⟨xJ _ _ _ _,wC.nil _ _,λi L hi=>by simp at hi⟩
theorem sZ.len {a:Nat}(h:sZ w a v Ls vs):vs.length=Ls.length:=by have:=h.own.1;omega
theorem sZ.shape {a n:Nat}(h:sZ w a v Ls vs)(hn:Ls.length=n):∃A c,v=.slice A n c/\fD w A n Ls:=by
 subst hn;obtain⟨A,c,e,h1,h2,h3⟩:=zL.of_grown_own h.own;refine⟨A,c,e,rfl,λi L hi=>?_⟩;obtain⟨B,d,hv,hw⟩:=h.num i L hi;have hlt:=(List.getElem?_eq_some_iff.1 hi).1;obtain⟨ad,ea,hb,hc⟩:=h3.2 za;exact⟨ad,B,d,ea,hb,hc i _ hv,hw⟩
theorem sZ.below {a:Nat}(h:sZ w a v Ls vs)(hb:Below w.heap.size w w'):sZ w' a v Ls vs:=by
 refine⟨⟨h.own.1,?_⟩,h.sl.below hb,λi L hi=>?_⟩
 ·rcases h.own.2 with h1|⟨g,cap,cur,e1,e2,e3,e4⟩
  ·exact .inl h1
  ·exact .inr ⟨g,cap,cur,e1,e2,(hb.block g (zh.lt (t:=58) (cs:=cur) e3)).trans e3,e4⟩
 ·obtain⟨B,d,hv,hw⟩:=h.num i L hi;exact⟨B,d,hv,hw.keep hb⟩
theorem sZ.grow {a n:Nat}{v':Value}{L:List Rat}{B:ze}{d:Nat}(h:sZ w a v Ls vs)(hx:z7 w B L.length d L)
  (ho:w'.ownsRow a 58 1 v' n (vs++[.slice B L.length d])) (hn:n=Ls.length+1) (hg:w.grownBy w' v.ownBlock) (hs:wC w' v'):sZ w' a v' (Ls++[L]) (vs++[.slice B L.length d]):=by
 have hl:=h.len;refine⟨by rw [qT,yI,<-hn];exact ho,hs,λi M hi=>?_⟩;by_cases hlt:i<Ls.length
 ·rw [QH hlt] at hi;obtain⟨C,e,hv,hw⟩:=h.num i M hi;exact⟨C,e,by rw [QH za];exact hv,UM hw hg h.sl⟩
 ·rw [QJ za] at hi;have c:i=Ls.length:=by
   have:=(List.getElem?_eq_some_iff.1 hi).1;simp at this;omega
  subst c;obtain rfl:L=M:=by
   rw [XG] at hi;injection hi
  exact⟨B,d,by rw [QJ za,hl,XG];rfl,UM hx hg h.sl⟩
theorem bA:(prog.info? 58).map (λi=>(i.zero,i.size,i.bytes))=some (some (.slice none 0 0),1,24):=zU
theorem fD.get (h:fD w A n Ls){i m:Nat}(hi:i<n)(hm:(Ls.getD i []).length=m):∃(ad:Addr) (B:ze) (d:Nat),A=some ad/\w.cell? (ad.add i)=some (.slice B m d)/\z7 w B m d (Ls.getD i []):=by
 have hl:=h.len;obtain⟨ad,B,d,e,_,h1,h2⟩:=h.num i _ (vi (d:=[]) za);rw [hm] at h1 h2;exact⟨ad,B,d,e,h1,h2⟩
abbrev rl:=Nat->ze×Nat×Nat×List (Int×Int)
