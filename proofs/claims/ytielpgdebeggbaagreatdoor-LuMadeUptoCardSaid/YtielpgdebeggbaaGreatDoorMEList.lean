/- What this claim leans on. -/
import Derived.Test.YtielpgdebeggbaaGreatDoorMEDet
set_option linter.unusedVariables false
set_option linter.unusedSimpArgs false
namespace Go.Proofs.YtielpgdebeggbaaGreatDoor
open Go Go.RowKit
set_option maxHeartbeats 16000000
variable {S:List (List Rat)}{ld:List Nat}{xs:List Rat}{K K' c i j k m n n':Nat}{M M' R a a0 s:Nat->Nat->Rat}{u v:Nat->Rat}{p x y:Rat}
def LI (K:Nat)(x:Rat):Prop:=∃z:Int,x=(z:Rat)/\Sz K z.natAbs
theorem LI.up (h:LI K x)(hk:K<=K'):LI K' x:=by
 obtain⟨z,e,hz⟩:=h;exact⟨z,e,hz.up hk⟩
theorem LI.one:LI 1 1:=⟨1,by decide+kernel,by show 1<18446744073709551616^1;rw [Nat.pow_one];decide⟩
theorem LI.zero (K:Nat):LI K 0:=⟨0,by decide+kernel,yZ zf⟩
theorem LI.mul (h:LI K x)(k:LI K' y):LI (K+K') (x*y):=by
 obtain⟨z,rfl,hz⟩:=h;obtain⟨t,rfl,ht⟩:=k;exact⟨z*t,(yP z t).symm,by rw [xS];exact hz.mul ht⟩
theorem LI.neg (h:LI K x):LI K (-x):=by
 obtain⟨z,rfl,hz⟩:=h;exact⟨-z,(Rat.intCast_neg z).symm,by rw [Int.natAbs_neg];exact hz⟩
theorem LI.add (h:LI K x)(k:LI K y):LI (K+1) (x+y):=by
 obtain⟨z,rfl,hz⟩:=h;obtain⟨t,rfl,ht⟩:=k;refine⟨z+t,(Rat.intCast_add z t).symm,?_⟩;have:=Int.natAbs_add_le z t;unfold Sz at*;rw [QD];omega
theorem LI.sub (h:LI K x)(k:LI K y):LI (K+1) (x - y):=by
 rw [Rat.sub_eq_add_neg];exact h.add k.neg
theorem LI.sum {f:Nat->Rat}(hk:k<=18446744073709551616)(h:∀i,i<k->LI K (f i)):LI (K+1) (zt k f):=by
 have:∀q,q<=k->∃z:Int,zt q f=(z:Rat)/\z.natAbs<=q*(18446744073709551616^K - 1):=by
  intro q
  induction q with
  |zero=>intro _;exact⟨0,by rw [eF];decide+kernel,za⟩
  |succ q ih=>
    intro hq;obtain⟨z,e,hz⟩:=ih za;obtain⟨t,e2,ht⟩:=h q za;refine⟨z+t,by rw [x4,e,e2,Rat.intCast_add],?_⟩;have h1:=Int.natAbs_add_le z t;unfold Sz at ht;rw [Nat.succ_mul];omega
 obtain⟨z,e,hz⟩:=this k (qX _);refine⟨z,e,?_⟩;unfold Sz;rw [QD,QK];have h0:0<18446744073709551616^K:=yZ zf;refine QI hz (QI (qS _ hk) ?_);exact Nat.mul_lt_mul_of_pos_left za zf
theorem LI.sg_ (h:LI K x):LI K (sg c*x):=by
 unfold sg
 split
 ·rw [XJ];exact h
 ·rw [Rat.neg_mul,XJ];exact h.neg
theorem LI.det_ {K:Nat}:∀{n:Nat} {M:Nat->Nat->Rat},n<=64->(∀i,i<n->∀j,j<n->LI K (M i j))->LI (1+n*(K+1)) (zB n M)
 |0,_,_,_=>LI.one.up za
 |n+1,M,hn,h=>by
   rw [vA];refine(LI.sum (K:=K+(1+n*(K+1))) za λc hc=>?_).up (by rw [Nat.succ_mul];omega);exact(LI.sg_ (h 0 za c hc)).mul (LI.det_ za λi hi j hj=>h (i+1) za _ (oh hj))
theorem xt.lead_sz (h:xt n m c a s ld p)(hn:n<=64)(ha:∀i,i<n->∀j,j<m->LI K (a i j)):LI (1+64*(K+1)) p:=by
 have h1:=h.len;rw [h.det];refine(LI.det_ (K:=K) za λi hi j hj=>ha i za _ ?_).up (XU (qS _ za) _);have:=h.lt j hj;have:=h.cm;omega
theorem xt.top_sz (h:xt n m c a s ld p)(hn:n<=64)(ha:∀i,i<n->∀j,j<m->LI K (a i j)){l j:Nat}(hl:l<ld.length)(hj:j<m):LI (1+64*(K+1)) (s l j):=by
 have h1:=h.len;rw [h.col hl hj];refine(LI.det_ (K:=K) za λi hi j' d=>?_).up (XU (qS _ za) _);by_cases e:j'=l
 ·rw [e,vu];exact ha i za j hj
 ·rw [vz _ e];refine ha i za _ ?_;have:=h.lt j' d;have:=h.cm;omega
theorem xt.sz (h:xt n m c a s ld p)(hn:n<=64)(ha:∀i,i<n->∀j,j<m->LI K (a i j)){i j:Nat}(hi:i<n)(hj:j<m):LI (67+65*K) (s i j):=by
 have h1:=h.len;by_cases hl:i<ld.length
 ·exact(h.top_sz hn ha hl hj).up za
 ·have e:=h.back i hi j hj;rw [if_pos za] at e;have e2:s i j=p*a i j - zt ld.length (λl=>a i (ld.getD l 0)*s l j):=by grind
  rw [e2];have b1:=(h.lead_sz hn ha).mul (ha i hi j hj);have b2:LI (K+(1+64*(K+1))+1) (zt ld.length (λl=>a i (ld.getD l 0)*s l j)):=LI.sum za λl hl=>(ha i hi _ (by have:=h.lt l hl;have:=h.cm;omega)).mul (h.top_sz hn ha hl hj);exact((b1.up (K':=K+(1+64*(K+1))+1) za).sub b2).up za
theorem xt.lead_sz' (h:xt n m c a s ld p)(hn:n<=64)(ha:∀i,i<n->∀j,j<m->LI K (a i j)):LI (67+65*K) p:=(h.lead_sz hn ha).up za
inductive rh (n : Nat) (a0 : Nat → Nat → Rat) : (Nat → Nat → Rat) → Prop
 |refl:rh n a0 a0
 |sw {a r q}:rh n a0 a->r<q->q<n->rh n a0 (wF r q a)
theorem rh.li (h:rh n a0 a)(h0:∀i,i<n->∀j,j<m->LI K (a0 i j)):∀i,i<n->∀j,j<m->LI K (a i j):=by
 induction h with
 |refl=>exact h0
 |sw h1 h2 h3 ih=>
   intro i hi j hj;unfold wF
   split
   ·exact ih _ h3 j hj
   ·split
    ·exact(ih _ za j hj).neg
    ·exact ih i hi j hj
theorem rh.rows (h:rh n a0 a):(∀i,i<n->∃i',i'<n/\∃e:Rat,e*e=1/\∀j,a i j=e*a0 i' j)/\(∀i,i<n->∃i',i'<n/\∃e:Rat,e*e=1/\∀j,a0 i j=e*a i' j):=by
 induction h with
 |refl=>exact⟨λi hi=>⟨i,hi,1,by decide+kernel,λj=>(XJ _).symm⟩,λi hi=>⟨i,hi,1,by decide+kernel,λj=>(XJ _).symm⟩⟩
 | @sw a r q h1 h2 h3 ih=>
   constructor
   ·intro i hi;by_cases e1:i=r
    ·obtain⟨i',k1,e,k2,k3⟩:=ih.1 q h3;exact⟨i',k1,e,k2,λj=>by unfold wF;rw [if_pos e1];exact k3 j⟩
    ·by_cases e2:i=q
     ·obtain⟨i',k1,e,k2,k3⟩:=ih.1 r za;exact⟨i',k1,-e,by grind,λj=>by unfold wF;rw [if_neg e1,if_pos e2,k3 j,Rat.neg_mul]⟩
     ·obtain⟨i',k1,e,k2,k3⟩:=ih.1 i hi;exact⟨i',k1,e,k2,λj=>by unfold wF;rw [if_neg e1,if_neg e2];exact k3 j⟩
   ·intro i hi;obtain⟨i',k1,e,k2,k3⟩:=ih.2 i hi;by_cases e1:i'=q
    ·exact⟨r,za,e,k2,λj=>by unfold wF;rw [if_pos rfl,k3 j,e1]⟩
    ·by_cases e2:i'=r
     ·exact⟨q,h3,-e,by grind,λj=>by unfold wF;rw [if_neg za,if_pos rfl,k3 j,e2];grind⟩
     ·exact⟨i',k1,e,k2,λj=>by unfold wF;rw [if_neg e2,if_neg e1];exact k3 j⟩
structure wL where
 S:List (List Rat)
 ld:List Nat
 p:Rat
def ut (r q:Nat)(S:List (List Rat)):List (List Rat):=(S.set r (S.getD q [])).set q (zL (-1) (S.getD r []))
def sB (p:Rat)(row by_:List Rat)(c:Nat):List Rat:=zL p⁻¹ (vV (zL (by_.getD c 0) row) (-row.getD c 0) by_)
def sF (r c:Nat)(p:Rat)(S:List (List Rat)):List (List Rat):=S.mapIdx λi row=>if i=r then row else sB p row (S.getD r []) c
def wG (c:Nat)(e:wL):Nat:=(e.S.drop e.ld.length).findIdx λrow=> !decide (row.getD c 0=0)
def oZ (c:Nat)(e:wL):List (List Rat):=if wG c e=0 then e.S else ut e.ld.length (e.ld.length+wG c e) e.S
def oY (c:Nat)(e:wL):wL:=
 if wG c e<e.S.length - e.ld.length then⟨sF e.ld.length c e.p (oZ c e),e.ld++[c],zl (oZ c e) e.ld.length c⟩ else e
theorem dY {r:Nat}(v:List Rat)(h:i≠r):(S.set r v).getD i []=S.getD i []:=by
 rw [qQ,XY (Ne.symm h),<-qQ]
theorem Zu {r:Nat}(v:List Rat)(h:r<S.length):(S.set r v).getD r []=v:=by
 rw [qQ,XQ h];rfl
theorem sU {r:Rat}(j:Nat):(zL r xs).getD j 0=r*xs.getD j 0:=by
 unfold zL;rw [qQ,qQ,qW];cases xs[j]? with
 |none=>exact(xL r).symm
 |some x=>rfl
theorem Z2 {r:Rat}{ys:List Rat}(hx:j<xs.length)(hy:j<ys.length):(vV xs r ys).getD j 0=xs.getD j 0+r*ys.getD j 0:=by
 unfold vV;rw [qQ,qQ,qQ,List.getElem?_zipWith,qY hx,qY hy];rfl
theorem P7 {r q:Nat}(h:zM S n m)(hr:r<n)(hq:q<n):zM (ut r q S) n m:=by
 refine⟨by unfold ut;rw [QY,QY];exact h.rows,λL hL=>?_⟩;unfold ut at hL;rcases xJ hL with hL|rfl
 ·rcases xJ hL with hL|rfl
  ·exact h.cols L hL
  ·exact h.row hq
 ·unfold zL;rw [QH];exact h.row hr
theorem lu {S:List (List Rat)}{r q:Nat}(hr:r<S.length)(hq:q<S.length)(a:r≠q):zl (ut r q S)=wF r q (zl S):=by
 funext i j
 unfold zl ut wF;by_cases e1:i=r
 ·subst e1;rw [if_pos rfl,dY _ a,Zu _ hr]
 ·rw [if_neg e1];by_cases e2:i=q
  ·subst e2;rw [if_pos rfl,Zu _ (by rw [QY];exact hq),sU,Rat.neg_mul,XJ]
  ·rw [if_neg e2,dY _ e2,dY _ e1]
theorem WI {row by_:List Rat}(h:row.length=m)(k:by_.length=m):(sB p row by_ c).length=m:=by
 unfold sB zL vV;rw [QH,jY,QH,h,k,Nat.min_self]
theorem Pm {r:Nat}(h:zM S n m)(hr:r<n):zM (sF r c p S) n m:=by
 refine⟨by unfold sF;rw [List.length_mapIdx];exact h.rows,λL hL=>?_⟩;unfold sF at hL;obtain⟨i,hi,rfl⟩:=List.mem_mapIdx.1 hL
 split
 ·exact h.cols _ (xU _)
 ·exact WI (h.cols _ (xU _)) (h.row hr)
theorem UC {r:Nat}(hi:i<S.length):(sF r c p S).getD i []=if i=r then S.getD i [] else sB p (S.getD i []) (S.getD r []) c:=by
 unfold sF;rw [qQ,List.getElem?_mapIdx,qY hi];show(if i=r then _ else _)=_;rw [show S.getD i []=S[i] by rw [qQ,qY hi];rfl]
theorem nT {r:Nat}(h:zM S n m)(hr:r<n)(hi:i<n)(hj:j<m):zl (sF r c p S) i j=r6 r c p (zl S) i j:=by
 unfold zl r6;rw [UC (by rw [h.rows];exact hi)];by_cases e:i=r
 ·rw [if_pos e,if_pos e,e]
 ·rw [if_neg e,if_neg e];unfold sB;rw [sU,Z2 (by unfold zL;rw [QH,h.row hi];exact hj) (by rw [h.row hr];exact hj),sU]
theorem xt.congr {s':Nat->Nat->Rat}(h:xt n m c a s ld p)(e:∀i,i<n->∀j,j<m->s' i j=s i j):xt n m c a s' ld p:=
 have hk:=h.len
 have hm:=h.cm
 { h with
  piv:=λl hl i hi=>by rw [e i hi _ (by have:=h.lt l hl;omega)];exact h.piv l hl i hi
  low:=λi h1 h2 j hj=>by rw [e i h2 j za];exact h.low i h1 h2 j hj
  fore:=λl hl j hj=>by rw [e l za j (by have:=h.lt l hl;omega)];exact h.fore l hl j hj
  back:=λi hi j hj=>by
   rw [h.back i hi j hj,e i hi j hj];congr 1;exact zU λl hl=>by rw [e l za j hj]}
structure wQ (n m c:Nat)(a0:Nat->Nat->Rat)(e:wL):Prop where
 dims:zM e.S n m
 inv:∃a,rh n a0 a/\xt n m c a (zl e.S) e.ld e.p
theorem wQ.start (h:zM S n m):wQ n m 0 (zl S) ⟨S,[],1⟩:=⟨h,_,.refl,xt.start _ _ _⟩
theorem dQ {r:Nat}(h:i<(S.drop r).length):(S.drop r)[i]=S.getD (r+i) []:=by
 rw [QE] at h;rw [List.getElem_drop,qQ,qY za];rfl
theorem S9 {e:wL}(h:¬ wG c e<e.S.length - e.ld.length){i:Nat}(h1:e.ld.length<=i)(h2:i<e.S.length):zl e.S i c=0:=by
 have hl:(e.S.drop e.ld.length).length=e.S.length - e.ld.length:=QE;have:=List.not_of_lt_findIdx (p:=λrow:List Rat=> !decide (row.getD c 0=0)) (xs:=e.S.drop e.ld.length) (i:=i - e.ld.length) (by show _<wG c e;omega);rw [dQ za,show e.ld.length+(i - e.ld.length)=i by omega] at this;simpa [zl] using this
theorem Ra {e:wL}(h:wG c e<e.S.length - e.ld.length):zl e.S (e.ld.length+wG c e) c≠0:=by
 have hl:(e.S.drop e.ld.length).length=e.S.length - e.ld.length:=QE;have:=List.findIdx_getElem (p:=λrow:List Rat=> !decide (row.getD c 0=0)) (xs:=e.S.drop e.ld.length) (w:=by show wG c e<_;omega);rw [dQ (by show wG c e<_;omega)] at this;simpa [zl,wG] using this
theorem wQ.pick {e:wL}(h:wQ n m c a0 e)(hb:wG c e<n - e.ld.length):zM (oZ c e) n m/\(∃a,rh n a0 a/\xt n m c a (zl (oZ c e)) e.ld e.p)/\zl (oZ c e) e.ld.length c≠0:=by
 obtain⟨hd,a,hs,hi⟩:=h;have g:wG c e<e.S.length - e.ld.length:=by rw [hd.rows];exact hb
 have d:=Ra g;unfold oZ;by_cases h0:wG c e=0
 ·rw [if_pos h0];rw [h0,XH] at d;exact⟨hd,⟨a,hs,hi⟩,d⟩
 ·rw [if_neg h0];have hr:=hd.rows;have e1:=lu (S:=e.S) (r:=e.ld.length) (q:=e.ld.length+wG c e) za za za;refine⟨P7 hd za za,⟨wF e.ld.length (e.ld.length+wG c e) a,hs.sw za za,by rw [e1];exact hi.swap za za⟩,?_⟩;rw [e1];unfold wF;rw [if_pos rfl];exact d
theorem wQ.next {e:wL}(h:wQ n m c a0 e)(hc:c<m):wQ n m (c+1) a0 (oY c e):=by
 have hr:=h.dims.rows;unfold oY;by_cases hb:wG c e<e.S.length - e.ld.length
 ·rw [if_pos hb];obtain⟨hd,⟨a,hs,hi⟩,g⟩:=h.pick (by rw [<-hr];exact hb);exact⟨Pm hd za,a,hs,(hi.clear hc za g).congr λi d j hj=>nT hd za d hj⟩
 ·rw [if_neg hb];obtain⟨hd,a,hs,hi⟩:=h;exact⟨hd,a,hs,hi.skip hc λi h1 h2=>S9 hb h1 za⟩
def oX (c:Nat)(S:List (List Rat)):wL:=(List.range c).foldl (λe c=>oY c e) ⟨S,[],1⟩
theorem WM (c:Nat)(S:List (List Rat)):oX (c+1) S=oY c (oX c S):=by
 unfold oX;rw [XE,yH];rfl
theorem aA {n m:Nat}{S:List (List Rat)}(h:zM S n m):∀{c:Nat},c<=m->wQ n m c (zl S) (oX c S)
 |0,_=>wQ.start h
 |c+1,hc=>by rw [WM];exact(aA h za).next za
def Sp (n m:Nat)(M:Nat->Nat->Rat)(v:Nat->Rat):Prop:=∃y:Nat->Rat,∀j,j<m->v j=zt n λi=>y i*M i j
theorem Sp.zero:Sp n m M λ_=>0:=⟨λ_=>0,λj _=>(vS λi _=>XL _).symm⟩
theorem Sp.comb (a b:Rat)(h:Sp n m M u)(k:Sp n m M v):Sp n m M λj=>a*u j+b*v j:=by
 obtain⟨y,hy⟩:=h;obtain⟨z,hz⟩:=k;refine⟨λi=>a*y i+b*z i,λj hj=>?_⟩;show a*u j+b*v j=_;rw [hy j hj,hz j hj,wJ,wJ,<-sx];exact zU λi _=>by grind
theorem Sp.scale (a:Rat)(h:Sp n m M u)(e:∀j,j<m->v j=a*u j):Sp n m M v:=by
 obtain⟨y,hy⟩:=h;refine⟨λi=>a*y i,λj hj=>?_⟩;rw [e j hj,hy j hj,wJ];exact zU λi _=>by grind
theorem Sp.congr (h:Sp n m M u)(e:∀j,j<m->v j=u j):Sp n m M v:=by
 obtain⟨y,hy⟩:=h;exact⟨y,λj hj=>(e j hj).trans (hy j hj)⟩
theorem sY (hc:c<k)(f:Nat->Rat):zt k (λi=>(if i=c then 1 else 0)*f i)=f c:=by
 induction k with
 |zero=>cases hc
 |succ k ih=>
   rw [x4];by_cases h:c=k
   ·subst h;rw [if_pos rfl,XJ,vS λi hi=>by rw [if_neg za,XL],YQ]
   ·rw [if_neg za,XL,xY,ih za]
theorem Sp.row {m:Nat}{i:Nat}(hi:i<n):Sp n m M (M i):=⟨λq=>if q=i then 1 else 0,λj _=>(sY hi λq=>M q j).symm⟩
theorem Sp.sum {u:Nat->Nat->Rat}(f:Nat->Rat){q:Nat}(h:∀l,l<q->Sp n m M (u l)):Sp n m M λj=>zt q λl=>f l*u l j:=by
 induction q with
 |zero=>exact Sp.zero
 |succ q ih=>
   refine((ih λl hl=>h l za).comb 1 (f q) (h q za)).congr λj _=>?_;rw [x4,XJ]
theorem Sp.trans (h:Sp n' m M' v)(k:∀i,i<n'->Sp n m M (M' i)):Sp n m M v:=by
 obtain⟨y,hy⟩:=h;exact(Sp.sum y k).congr hy
structure RF (n m:Nat)(M:Nat->Nat->Rat)(ld:List Nat)(R:Nat->Nat->Rat):Prop where
 len:ld.length<=n
 up:∀l l',l<l'->l'<ld.length->ld.getD l 0<ld.getD l' 0
 lt:∀l,l<ld.length->ld.getD l 0<m
 piv:∀l,l<ld.length->∀i,i<n->R i (ld.getD l 0)=if i=l then 1 else 0
 zero:∀i,ld.length<=i->i<n->∀j,j<m->R i j=0
 fore:∀l,l<ld.length->∀j,j<ld.getD l 0->R l j=0
 sum:∀i,i<n->∀j,j<m->M i j=zt ld.length λl=>M i (ld.getD l 0)*R l j
 span:∀l,l<ld.length->Sp n m M (R l)
theorem RF.of_elim {e:wL}(h:wQ n m m a0 e)(ht:∀i,i<n->∃t:Rat,t≠0/\∀j,j<m->a0 i j=t*M i j):RF n m M e.ld λi j=>e.p⁻¹*zl e.S i j:=by
 obtain⟨hd,a,hs,hi⟩:=h;have hp:=hi.ne
 -- rows of either are multiples of the other's
 have r1:∀i,i<n->∃i',i'<n/\∃t:Rat,∀j,j<m->a i j=t*M i' j:=λi d=>by
  obtain⟨i',k1,e,_,k3⟩:=hs.rows.1 i d;obtain⟨t,_,k4⟩:=ht i' k1;exact⟨i',k1,e*t,λj hj=>by rw [k3 j,k4 j hj];grind⟩
 have r2:∀i,i<n->∃i',i'<n/\∃t:Rat,∀j,j<m->M i j=t*a i' j:=λi d=>by
  obtain⟨i',k1,e,_,k3⟩:=hs.rows.2 i d;obtain⟨t,k2,k4⟩:=ht i d;exact⟨i',k1,t⁻¹*e,λj hj=>by have q1:=k3 j;have q2:=k4 j hj;grind⟩
 refine⟨hi.len,hi.up,hi.lt,λl hl i d=>?_,λi h1 h2 j hj=>by show e.p⁻¹*zl e.S i j=0;rw [hi.low i h1 h2 j hj,xL],λl hl j hj=>by show e.p⁻¹*zl e.S l j=0;rw [hi.fore l hl j hj,xL],λi d j hj=>?_,λl hl=>?_⟩
 ·show e.p⁻¹*zl e.S i (e.ld.getD l 0)=_;rw [hi.piv l hl i d]
  split<;>grind
 ·obtain⟨i',k1,t,k2⟩:=r2 i d;have e1:=hi.back i' k1 j hj;have e2:(if e.ld.length<=i' then zl e.S i' j else 0)=0:=by
   split
   ·next h=>exact hi.low i' h k1 j hj
   ·rfl
  rw [e2,xY] at e1;have e3:zt e.ld.length (λl=>M i (e.ld.getD l 0)*(e.p⁻¹*zl e.S l j))=t*e.p⁻¹*zt e.ld.length (λl=>a i' (e.ld.getD l 0)*zl e.S l j):=by
   rw [wJ];exact zU λl hl=>by rw [k2 _ (by have:=hi.lt l hl;omega)];grind
  show M i j=zt e.ld.length (λl=>M i (e.ld.getD l 0)*(e.p⁻¹*zl e.S l j));rw [e3,k2 j hj,<-e1]
  grind
 ·have hk:=hi.len;have e1:∀j,j<m->zl e.S l j=zt e.ld.length λq=>zB e.ld.length (zP (λi j=>a i (e.ld.getD j 0)) l λi=>if i=q then 1 else 0)*a q j:=λj hj=>by
   rw [hi.col hl hj];have:zB e.ld.length (zP (λi j=>a i (e.ld.getD j 0)) l λi=>a i j)=zB e.ld.length (zP (λi j=>a i (e.ld.getD j 0)) l λi=>zt e.ld.length λq=>a q j*if i=q then 1 else 0):=vQ λi d j' _=>by
    by_cases e:j'=l
    ·rw [e,vu,vu,<-sY d (λq=>a q j)];exact zU λq _=>by
      rw [YH];congr 1;by_cases h:q=i
      ·rw [if_pos h,if_pos h.symm]
      ·rw [if_neg h,if_neg (Ne.symm h)]
    ·rw [vz _ e,vz _ e]
   rw [this,jP _ hl (λq=>a q j) (λq i=>if i=q then 1 else 0)];exact zU λq _=>YH _ _
  have e2:∀q,q<e.ld.length->Sp n m M (a q):=λq hq=>by
   obtain⟨i',k1,t,k2⟩:=r1 q za;exact(Sp.row k1).scale t k2
  exact(Sp.sum _ e2).scale e.p⁻¹ λj hj=>by rw [<-e1 j hj]
theorem RF.of_span (h:RF n m M ld R){v:Nat->Rat}(hv:Sp n m M v):∀j,j<m->v j=zt ld.length λl=>v (ld.getD l 0)*R l j:=by
 obtain⟨y,hy⟩:=hv;intro j hj;rw [hy j hj];have e1:zt n (λi=>y i*M i j)=zt n (λi=>zt ld.length λl=>y i*M i (ld.getD l 0)*R l j):=zU λi hi=>by
  rw [h.sum i hi j hj,wJ];exact zU λl _=>by grind
 rw [e1,iO];refine zU λl hl=>?_;rw [hy _ (h.lt l hl),YH,wJ];exact zU λi _=>YH _ _
theorem RF.begins (h:RF n m M ld R){v:Nat->Rat}(hv:Sp n m M v){c:Nat}(hc:c<m)(h0:∀j,j<c->v j=0)(h1:v c≠0):∃l,l<ld.length/\ld.getD l 0=c:=by
 refine Classical.byContradiction λhn=>h1 ?_;rw [h.of_span hv c hc];refine vS λl hl=>?_;rcases XV (ld.getD l 0) c with a|a|a
 ·rw [h0 _ a,XL]
 ·exact absurd ⟨l,hl,a⟩ hn
 ·rw [h.fore l hl c a,xL]
theorem VE:∀{xs ys:List Nat},xs.Pairwise (·<·)->ys.Pairwise (·<·)->(∀x,x ∈ xs↔x ∈ ys)->xs=ys
 |[],[],_,_,_=>rfl
 |[],y::ys,_,_,h=>by have:=(h y).2 xT;cases this
 |x::xs,[],_,_,h=>by have:=(h x).1 xT;cases this
 |x::xs,y::ys,h1,h2,h=>by
   rw [List.pairwise_cons] at h1 h2;have e:x=y:=by
    rcases List.mem_cons.1 ((h x).1 xT) with a|a
    ·exact a
    ·rcases List.mem_cons.1 ((h y).2 xT) with b|b
     ·exact b.symm
     ·have:=h1.1 y b;have:=h2.1 x a;omega
   subst e;congr 1;refine VE h1.2 h2.2 λz=>⟨λhz=>?_,λhz=>?_⟩
   ·rcases List.mem_cons.1 ((h z).1 (XC _ hz)) with a|a
    ·have:=h1.1 z hz;omega
    ·exact a
   ·rcases List.mem_cons.1 ((h z).2 (XC _ hz)) with a|a
    ·have:=h2.1 z hz;omega
    ·exact a
theorem tW {xs:List Nat}{l:Nat}(h:l<xs.length):xs.getD l 0 ∈ xs:=by
 rw [qQ,qY h];exact xU h
theorem jS {xs:List Nat}{x:Nat}(h:x ∈ xs):∃l,l<xs.length/\xs.getD l 0=x:=by
 obtain⟨l,hl,e⟩:=List.mem_iff_getElem.1 h;exact⟨l,hl,by rw [qQ,qY hl];exact e⟩
theorem RF.rising (h:RF n m M ld R):ld.Pairwise (·<·):=by
 rw [List.pairwise_iff_getElem];intro i j hi hj a;have:=h.up i j a hj;rw [qQ,qQ,qY hi,qY hj] at this;exact this
theorem RF.one {R':Nat->Nat->Rat}{a:List Nat}(h:RF n m M ld R)(k:RF n' m M' a R')(h1:∀i,i<n'->Sp n m M (M' i))(h2:∀i,i<n->Sp n' m M' (M i)):ld=a/\∀l,l<ld.length->∀j,j<m->R l j=R' l j:=by
 have s1:∀l,l<a.length->Sp n m M (R' l):=λl hl=>(k.span l hl).trans h1;have s2:∀l,l<ld.length->Sp n' m M' (R l):=λl hl=>(h.span l hl).trans h2;have e:ld=a:=by
  refine VE h.rising k.rising λx=>⟨λhx=>?_,λhx=>?_⟩
  ·obtain⟨l,hl,rfl⟩:=jS hx;obtain⟨q,hq,e⟩:=k.begins (s2 l hl) (h.lt l hl) (h.fore l hl) (by rw [h.piv l hl l (by have:=h.len;omega),if_pos rfl];decide+kernel);rw [<-e];exact tW hq
  ·obtain⟨l,hl,rfl⟩:=jS hx;obtain⟨q,hq,e⟩:=h.begins (s1 l hl) (k.lt l hl) (k.fore l hl) (by rw [k.piv l hl l (by have:=k.len;omega),if_pos rfl];decide+kernel);rw [<-e];exact tW hq
 subst e;refine⟨rfl,λl hl j hj=>?_⟩;have hk:=h.len;rw [k.of_span (s2 l hl) j hj];have:zt ld.length (λq=>R l (ld.getD q 0)*R' q j)=zt ld.length (λq=>(if q=l then 1 else 0)*R' q j):=zU λq hq=>by
  rw [h.piv q hq l za];by_cases e:q=l
  ·rw [if_pos e,if_pos e.symm]
  ·rw [if_neg e,if_neg (Ne.symm e)]
 rw [this,sY hl]
def sk (ld:List Nat)(R:Nat->Nat->Rat)(c:Nat):Nat->Rat:=λj=>(if j=c then 1 else 0) - zt ld.length λq=>(if j=ld.getD q 0 then 1 else 0)*R q c
theorem PJ (h:j ∉ ld):sk ld R c j=if j=c then 1 else 0:=by
 unfold sk;rw [vS λq hq=>by rw [if_neg (λe:j=ld.getD q 0=>h (by rw [e];exact tW hq)),XL]]
 grind
theorem RF.inj (h:RF n m M ld R){l q:Nat}(hl:l<ld.length)(hq:q<ld.length)(e:ld.getD l 0=ld.getD q 0):l=q:=by
 rcases XV l q with a|a|a
 ·have:=h.up l q a hq;omega
 ·exact a
 ·have:=h.up q l a hl;omega
theorem UH (k:Nat)(f g:Nat->Rat):zt k (λi=>f i - g i)=zt k f - zt k g:=by
 have:=sx k f (λi=> -g i);rw [Ya] at this;rw [Rat.sub_eq_add_neg,<-this];exact zU λi _=>Rat.sub_eq_add_neg _ _
theorem RF.ker (h:RF n m M ld R){c:Nat}(a:c<m){i:Nat}(hi:i<n):zt m (λj=>M i j*sk ld R c j)=0:=by
 have hk:=h.len;have e1:zt m (λj=>M i j*sk ld R c j)=zt m (λj=>(if j=c then 1 else 0)*M i j) - zt m (λj=>zt ld.length λq=>(if j=ld.getD q 0 then 1 else 0)*(M i j*R q c)):=by
  rw [<-UH];refine zU λj _=>?_;unfold sk;have:zt ld.length (λq=>(if j=ld.getD q 0 then 1 else 0)*(M i j*R q c))=M i j*zt ld.length (λq=>(if j=ld.getD q 0 then 1 else 0)*R q c):=by
   rw [wJ];exact zU λq _=>by grind
  rw [this];grind
 rw [e1,sY a,iO];have e2:zt ld.length (λq=>zt m λj=>(if j=ld.getD q 0 then 1 else 0)*(M i j*R q c))=zt ld.length (λq=>M i (ld.getD q 0)*R q c):=zU λq hq=>sY (h.lt q hq) λj=>M i j*R q c;rw [e2,<-h.sum i hi c a]
 grind
theorem rN:∀{m:Nat} {ld:List Nat},(∀c,c<m->c ∈ ld)->m<=ld.length
 |0,_,_=>qM _
 |m+1,ld,h=>by
   have h1:=h m za;have h2:=rN (m:=m) (ld:=ld.erase m) λc hc=>(List.mem_erase_of_ne za).2 (h c za);rw [List.length_erase_of_mem h1] at h2;have:=List.length_pos_of_mem h1;omega
theorem SS (h:ld.length<m):∃c,c<m/\c ∉ ld:=by
 refine Classical.byContradiction λhn=>?_;have:=rN (m:=m) (ld:=ld) λc hc=>Classical.byContradiction λh=>hn ⟨c,hc,h⟩;omega
theorem RF.some (n m:Nat)(G:Nat->Nat->Rat):∃ld R,RF n m G ld R:=by
 have h:=aA (iP n m G) (qX m);refine⟨_,_,RF.of_elim h λi hi=>⟨1,by decide+kernel,λj hj=>by rw [gH hi hj,XJ]⟩⟩
