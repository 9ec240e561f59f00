/- What this claim leans on. -/
import Derived.Test.YtghpdeciaaagnaaGreatDoorQEDet
namespace Go.Proofs.YtghpdeciaaagnaaGreatDoor
open Go Go.RowKit
set_option maxHeartbeats 16000000
set_option linter.unusedVariables false
structure zcy (n m c:Nat)(a s:Nat->Nat->Rat)(ld:List Nat)(p:Rat):Prop where
 len:ld.length<=n
 cm:c<=m
 up:∀l l',l<l'->l'<ld.length->ld.getD l 0<ld.getD l' 0
 lt:∀l,l<ld.length->ld.getD l 0<c
 ne:p≠0
 piv:∀l,l<ld.length->∀i,i<n->s i (ld.getD l 0)=if i=l then p else 0
 low:∀i,ld.length<=i->i<n->∀j,j<c->s i j=0
 fore:∀l,l<ld.length->∀j,j<ld.getD l 0->s l j=0
 back:∀i,i<n->∀j,j<m->p*a i j=zav ld.length (λl=>a i (ld.getD l 0)*s l j)+if ld.length<=i then s i j else 0
 det:p=zaJ ld.length λi j=>a i (ld.getD j 0)
theorem zcy.start (n m:Nat)(a:Nat->Nat->Rat):zcy n m 0 a a [] 1 where
 len:=Nat.zero_le _
 cm:=Nat.zero_le _
 up:=λl l' _ h=>by cases h
 lt:=λl h=>by cases h
 ne:=by decide+kernel
 piv:=λl h=>by cases h
 low:=λi _ _ j h=>by cases h
 fore:=λl h=>by cases h
 back:=λi _ j _=>by
  show 1*a i j=zav 0 _+if 0<=i then a i j else 0
  rw [if_pos (Nat.zero_le _),zeX];grind
 det:=rfl
theorem zcy.skip {n m c:Nat}{a s:Nat->Nat->Rat}{ld:List Nat}{p:Rat}(h:zcy n m c a s ld p)(hc:c<m)(h0:∀i,ld.length<=i->i<n->s i c=0):zcy n m (c+1) a s ld p:=
 { h with
  cm:=hc
  lt:=λl hl=>Nat.lt_succ_of_lt (h.lt l hl)
  low:=λi h1 h2 j hj=>by
   rcases Nat.lt_or_ge j c with e|e
   ·exact h.low i h1 h2 j e
   ·rw [show j=c by omega];exact h0 i h1 h2}
def swp (r q:Nat)(s:Nat->Nat->Rat):Nat->Nat->Rat:=λi j=>if i=r then s q j else if i=q then -s r j else s i j
theorem zjS (k:Nat)(f:Nat->Rat):zav k (λi=> -f i)= -zav k f:=by
 have:=zaZ k (-1) f;rw [show(-1:Rat)*zav k f= -zav k f by grind] at this;rw [this];exact zal λi _=>by grind
theorem zcy.swap {n m c:Nat}{a s:Nat->Nat->Rat}{ld:List Nat}{p:Rat}(h:zcy n m c a s ld p){q:Nat}(h1:ld.length<q)(h2:q<n):zcy n m c (swp ld.length q a) (swp ld.length q s) ld p where
 len:=h.len
 cm:=h.cm
 up:=h.up
 lt:=h.lt
 ne:=h.ne
 piv:=λl hl i hi=>by
  unfold swp;by_cases e1:i=ld.length
  ·rw [if_pos e1,if_neg om9,h.piv l hl q h2,if_neg om9]
  ·rw [if_neg e1];by_cases e2:i=q
   ·rw [if_pos e2,if_neg om9,h.piv l hl ld.length om9,if_neg om9,Rat.neg_zero]
   ·rw [if_neg e2,h.piv l hl i hi]
 low:=λi hi b j hj=>by
  unfold swp
  split
  ·exact h.low q om9 h2 j hj
  ·split
   ·rw [h.low ld.length (Nat.le_refl _) om9 j hj,Rat.neg_zero]
   ·exact h.low i hi b j hj
 fore:=λl hl j hj=>by
  unfold swp;rw [if_neg om9,if_neg om9];exact h.fore l hl j hj
 back:=λi hi j hj=>by
  have hs:∀i,zav ld.length (λl=>swp ld.length q a i (ld.getD l 0)*swp ld.length q s l j)=zav ld.length (λl=>swp ld.length q a i (ld.getD l 0)*s l j):=λi=>zal λl hl=>by
   rw [show swp ld.length q s l j=s l j by unfold swp;rw [if_neg om9,if_neg om9]]
  rw [hs];by_cases e1:i=ld.length
  ·subst e1;have:=h.back q h2 j hj;rw [if_pos om9] at this⊢;simp only [swp,if_true];exact this
  ·by_cases e2:i=q
   ·subst e2;have:=h.back ld.length om9 j hj;rw [if_pos om9] at this⊢;simp only [swp,if_neg e1,if_true];have e:zav ld.length (λl=> -a ld.length (ld.getD l 0)*s l j)= -zav ld.length (λl=>a ld.length (ld.getD l 0)*s l j):=by
     rw [<-zjS];exact zal λl _=>by grind
    rw [e]
    grind
   ·have:=h.back i hi j hj;simp only [swp,if_neg e1,if_neg e2];exact this
 det:=by
  rw [h.det];exact zbd λi hi j _=>by unfold swp;rw [if_neg om9,if_neg om9]
def clr (k c:Nat)(p:Rat)(s:Nat->Nat->Rat):Nat->Nat->Rat:=λi j=>if i=k then s k j else p⁻¹*(s k c*s i j+ -s i c*s k j)
theorem zcq {ld:List Nat}{c l:Nat}(h:l<ld.length):(ld++[c]).getD l 0=ld.getD l 0:=by
 rw [List.getD_eq_getElem?_getD,List.getD_eq_getElem?_getD,List.getElem?_append_left h]
theorem zcI (ld:List Nat)(c:Nat):(ld++[c]).getD ld.length 0=c:=by
 rw [List.getD_eq_getElem?_getD,List.getElem?_append_right (Nat.le_refl _),Nat.sub_self];rfl
theorem zdJ (ld:List Nat)(c:Nat):(ld++[c]).length=ld.length+1:=si9
theorem zcy.col {n m c:Nat}{a s:Nat->Nat->Rat}{ld:List Nat}{p:Rat}(h:zcy n m c a s ld p){l j:Nat}(hl:l<ld.length)(hj:j<m):s l j=zaJ ld.length (zaP (λi j=>a i (ld.getD j 0)) l λi=>a i j):=by
 have e1:=zeh (n:=ld.length) (λi j=>a i (ld.getD j 0)) hl p (λi=>a i j);have e2:zaJ ld.length (zaP (λi j=>a i (ld.getD j 0)) l λi=>p*a i j)=zaJ ld.length (zaP (λi j=>a i (ld.getD j 0)) l λi=>zav ld.length λq=>s q j*a i (ld.getD q 0)):=zbd λi hi j' _=>by
  by_cases e:j'=l
  ·subst e;rw [zbw,zbw,h.back i (by have:=h.len;omega) j hj,if_neg om9,Rat.add_zero];exact zal λq _=>Rat.mul_comm _ _
  ·rw [zbC _ e,zbC _ e]
 rw [e2,zeR _ hl (λq=>s q j) (λq i=>a i (ld.getD q 0))] at e1;have e3:∀q,q<ld.length->s q j*zaJ ld.length (zaP (λi j=>a i (ld.getD j 0)) l λi=>a i (ld.getD q 0))=(s l j*p)*if q=l then 1 else 0:=λq hq=>by
  by_cases e:q=l
  ·subst e;rw [if_pos rfl,zec (λi j=>a i (ld.getD j 0)) q,<-h.det,Rat.mul_one]
  ·rw [if_neg e,zei (M:=λi j=>a i (ld.getD j 0)) hl hq (Ne.symm e),Rat.mul_zero,Rat.mul_zero]
 rw [zal e3] at e1;have e4:zav ld.length (λq=>(s l j*p)*if q=l then 1 else 0)=s l j*p:=by
  clear e1 e2 e3;have:∀k,l<k->zav k (λq=>(s l j*p)*if q=l then 1 else 0)=s l j*p:=by
   intro k
   induction k with
   |zero=>intro h;cases h
   |succ k ih=>
     intro hk;rw [zaD];by_cases e:k=l
     ·subst e;rw [if_pos rfl,zbq λi hi=>by rw [if_neg om9,Rat.mul_zero],Rat.zero_add,Rat.mul_one]
     ·rw [if_neg e,Rat.mul_zero,Rat.add_zero,ih om9]
  exact this _ hl
 rw [e4] at e1;have:=h.ne
 grind
theorem zcy.lead {n m c:Nat}{a s:Nat->Nat->Rat}{ld:List Nat}{p:Rat}(h:zcy n m c a s ld p)(hc:c<m)(hk:ld.length<n):s ld.length c=zaJ (ld.length+1) λi j=>a i ((ld++[c]).getD j 0):=by
 have hB:∀(f:Nat->Nat->Rat),(f=λi j=>a i ((ld++[c]).getD j 0))->s ld.length c=zaJ (ld.length+1) f:=by
  intro f hf;have b:ld.length<ld.length+1:=Nat.lt_succ_self _;have e1:=zeh (n:=ld.length+1) f b p (λi=>f i ld.length);rw [zec f] at e1;have ff:∀i l,l<ld.length->f i l=a i (ld.getD l 0):=λi l hl=>by rw [hf];show a i _=_;rw [zcq hl]
  have fc:∀i,f i ld.length=a i c:=λi=>by rw [hf];show a i _=_;rw [zcI]
  have e2:zaJ (ld.length+1) (zaP f ld.length λi=>p*f i ld.length)=zaJ (ld.length+1) (zaP f ld.length λi=>1*(zav ld.length λq=>s q c*f i q)+s ld.length c*if i=ld.length then 1 else 0):=zbd λi hi j' _=>by
   by_cases e:j'=ld.length
   ·subst e;rw [zbw,zbw,fc,h.back i om9 c hc,Rat.one_mul];congr 1
    ·exact zal λq hq=>by rw [ff i q hq,Rat.mul_comm]
    ·by_cases e:i=ld.length
     ·rw [if_pos om9,if_pos e,e,Rat.mul_one]
     ·rw [if_neg om9,if_neg e,Rat.mul_zero]
   ·rw [zbC _ e,zbC _ e]
  rw [e2,zdE f b 1 (s ld.length c) (λi=>zav ld.length λq=>s q c*f i q) (λi=>if i=ld.length then 1 else 0),zeR f b (λq=>s q c) (λq i=>f i q)] at e1;rw [zbq λq hq=>by rw [zei b om9 om9,Rat.mul_zero]] at e1;rw [zfN ld.length (M:=zaP f ld.length λi=>if i=ld.length then 1 else 0) (λi hi=>by rw [zbw,if_neg om9]),zbw,if_pos rfl] at e1;have e3:zaJ ld.length (zaP f ld.length λi=>if i=ld.length then 1 else 0)=p:=by
   rw [h.det];exact zbd λi hi j hj=>by rw [zbC _ om9,ff i j hj]
  rw [e3] at e1;have:=h.ne
  grind
 exact hB _ rfl
theorem zcy.clear {n m c:Nat}{a s:Nat->Nat->Rat}{ld:List Nat}{p:Rat}(h:zcy n m c a s ld p)(hc:c<m)(hk:ld.length<n)(h0:s ld.length c≠0):zcy n m (c+1) a (clr ld.length c p s) (ld++[c]) (s ld.length c) where
 len:=by rw [zdJ];omega
 cm:=hc
 up:=λl l' h1 h2=>by
  rw [zdJ] at h2;rw [zcq om9];by_cases e:l'=ld.length
  ·subst e;rw [zcI];exact h.lt l h1
  ·rw [zcq om9];exact h.up l l' h1 om9
 lt:=λl hl=>by
  rw [zdJ] at hl;by_cases e:l=ld.length
  ·subst e;rw [zcI];omega
  ·rw [zcq om9];exact Nat.lt_succ_of_lt (h.lt l om9)
 ne:=h0
 piv:=λl hl i hi=>by
  have f:=h.ne;rw [zdJ] at hl;unfold clr;by_cases e:l=ld.length
  ·subst e;rw [zcI];by_cases e2:i=ld.length
   ·rw [if_pos e2,if_pos e2]
   ·rw [if_neg e2,if_neg e2];grind
  ·have b:l<ld.length:=om9;rw [zcq b];have e3:=h.piv l b ld.length hk;rw [if_neg om9] at e3;by_cases e2:i=ld.length
   ·rw [if_pos e2,if_neg om9,e3]
   ·rw [if_neg e2,e3,h.piv l b i hi];by_cases e4:i=l
    ·rw [if_pos e4,if_pos e4];grind
    ·rw [if_neg e4,if_neg e4];grind
 low:=λi hi d j hj=>by
  rw [zdJ] at hi;unfold clr;rw [if_neg om9];by_cases e:j=c
  ·subst e;grind
  ·rw [h.low i om9 d j om9,h.low ld.length (Nat.le_refl _) hk j om9];grind
 fore:=λl hl j hj=>by
  rw [zdJ] at hl;unfold clr;by_cases e:l=ld.length
  ·subst e;rw [zcI] at hj;rw [if_pos rfl];exact h.low _ (Nat.le_refl _) hk j hj
  ·have b:l<ld.length:=om9;rw [zcq b] at hj;have:=h.lt l b;rw [if_neg e,h.fore l b j hj,h.low ld.length (Nat.le_refl _) hk j om9];grind
 back:=λi hi j hj=>by
  have f:=h.ne;have e1:=h.back i hi j hj;have e2:=h.back i hi c hc;rw [zdJ,zaD,zcI];have e3:zav ld.length (λl=>a i ((ld++[c]).getD l 0)*clr ld.length c p s l j)=p⁻¹*(s ld.length c*zav ld.length (λl=>a i (ld.getD l 0)*s l j)+ -(s ld.length j)*zav ld.length (λl=>a i (ld.getD l 0)*s l c)):=by
   rw [zaZ,zaZ,<-zcj,zaZ];refine zal λl hl=>?_;rw [zcq hl];unfold clr;rw [if_neg om9]
   grind
  have e4:clr ld.length c p s ld.length j=s ld.length j:=if_pos rfl;rw [e3,e4];generalize zav ld.length (λl=>a i (ld.getD l 0)*s l j)=x at*;generalize zav ld.length (λl=>a i (ld.getD l 0)*s l c)=y at*;by_cases e5:ld.length+1<=i
  ·rw [if_pos e5];rw [if_pos om9] at e1 e2;unfold clr;rw [if_neg om9];generalize a i j=u at*;generalize a i c=v at*;generalize s i j=z at*;generalize s i c=t at*;generalize s ld.length j=r at*;generalize s ld.length c=q at*
   grind
  ·rw [if_neg e5];by_cases e6:i=ld.length
   ·subst e6;rw [if_pos (Nat.le_refl _)] at e1 e2
    grind
   ·rw [if_neg om9] at e1 e2
    grind
 det:=by
  rw [zdJ];exact h.lead hc hk
def LI (K:Nat)(x:Rat):Prop:=∃z:Int,x=(z:Rat)/\Sz K z.natAbs
theorem LI.up {K K':Nat}{x:Rat}(h:LI K x)(hk:K<=K'):LI K' x:=by
 obtain⟨z,e,hz⟩:=h;exact⟨z,e,hz.up hk⟩
theorem LI.one:LI 1 1:=⟨1,by decide+kernel,by show 1<18446744073709551616^1;rw [Nat.pow_one];decide⟩
theorem LI.zero (K:Nat):LI K 0:=⟨0,by decide+kernel,Nat.pow_pos de9⟩
theorem LI.mul {K K':Nat}{x y:Rat}(h:LI K x)(k:LI K' y):LI (K+K') (x*y):=by
 obtain⟨z,rfl,hz⟩:=h;obtain⟨t,rfl,ht⟩:=k;exact⟨z*t,(Rat.intCast_mul z t).symm,by rw [Int.natAbs_mul];exact hz.mul ht⟩
theorem LI.neg {K:Nat}{x:Rat}(h:LI K x):LI K (-x):=by
 obtain⟨z,rfl,hz⟩:=h;exact⟨-z,(Rat.intCast_neg z).symm,by rw [Int.natAbs_neg];exact hz⟩
theorem LI.add {K:Nat}{x y:Rat}(h:LI K x)(k:LI K y):LI (K+1) (x+y):=by
 obtain⟨z,rfl,hz⟩:=h;obtain⟨t,rfl,ht⟩:=k;refine⟨z+t,(Rat.intCast_add z t).symm,?_⟩;have:=Int.natAbs_add_le z t;unfold Sz at*;rw [Nat.pow_succ];omega
theorem LI.sub {K:Nat}{x y:Rat}(h:LI K x)(k:LI K y):LI (K+1) (x - y):=by
 rw [Rat.sub_eq_add_neg];exact h.add k.neg
theorem LI.sum {K k:Nat}{f:Nat->Rat}(hk:k<=18446744073709551616)(h:∀i,i<k->LI K (f i)):LI (K+1) (zav k f):=by
 have:∀q,q<=k->∃z:Int,zav q f=(z:Rat)/\z.natAbs<=q*(18446744073709551616^K - 1):=by
  intro q
  induction q with
  |zero=>intro _;exact⟨0,by rw [zeX];decide+kernel,om9⟩
  |succ q ih=>
    intro hq;obtain⟨z,e,hz⟩:=ih om9;obtain⟨t,e2,ht⟩:=h q om9;refine⟨z+t,by rw [zaD,e,e2,Rat.intCast_add],?_⟩;have h1:=Int.natAbs_add_le z t;unfold Sz at ht;rw [Nat.succ_mul];omega
 obtain⟨z,e,hz⟩:=this k (Nat.le_refl _);refine⟨z,e,?_⟩;unfold Sz;rw [Nat.pow_succ,Nat.mul_comm];have h0:0<18446744073709551616^K:=Nat.pow_pos de9;refine Nat.lt_of_le_of_lt hz (Nat.lt_of_le_of_lt (Nat.mul_le_mul_right _ hk) ?_);exact Nat.mul_lt_mul_of_pos_left om9 de9
theorem LI.sg_ {K c:Nat}{x:Rat}(h:LI K x):LI K (sg c*x):=by
 unfold sg
 split
 ·rw [Rat.one_mul];exact h
 ·rw [Rat.neg_mul,Rat.one_mul];exact h.neg
theorem LI.det_ {K:Nat}:∀{n:Nat} {M:Nat->Nat->Rat},n<=64->(∀i,i<n->∀j,j<n->LI K (M i j))->LI (1+n*(K+1)) (zaJ n M)
 |0,_,_,_=>LI.one.up om9
 |n+1,M,hn,h=>by
   rw [zbb];refine(LI.sum (K:=K+(1+n*(K+1))) om9 λc hc=>?_).up (by rw [Nat.succ_mul];omega);exact(LI.sg_ (h 0 om9 c hc)).mul (LI.det_ om9 λi hi j hj=>h (i+1) om9 _ (skp_lt hj))
theorem zcy.lead_sz {n m c K:Nat}{a s:Nat->Nat->Rat}{ld:List Nat}{p:Rat}(h:zcy n m c a s ld p)(hn:n<=64)(ha:∀i,i<n->∀j,j<m->LI K (a i j)):LI (1+64*(K+1)) p:=by
 have h1:=h.len;rw [h.det];refine(LI.det_ (K:=K) om9 λi hi j hj=>ha i om9 _ ?_).up (Nat.add_le_add_left (Nat.mul_le_mul_right _ om9) _);have:=h.lt j hj;have:=h.cm;omega
theorem zcy.top_sz {n m c K:Nat}{a s:Nat->Nat->Rat}{ld:List Nat}{p:Rat}(h:zcy n m c a s ld p)(hn:n<=64)(ha:∀i,i<n->∀j,j<m->LI K (a i j)){l j:Nat}(hl:l<ld.length)(hj:j<m):LI (1+64*(K+1)) (s l j):=by
 have h1:=h.len;rw [h.col hl hj];refine(LI.det_ (K:=K) om9 λi hi j' b=>?_).up (Nat.add_le_add_left (Nat.mul_le_mul_right _ om9) _);by_cases e:j'=l
 ·rw [e,zbw];exact ha i om9 j hj
 ·rw [zbC _ e];refine ha i om9 _ ?_;have:=h.lt j' b;have:=h.cm;omega
theorem zcy.sz {n m c K:Nat}{a s:Nat->Nat->Rat}{ld:List Nat}{p:Rat}(h:zcy n m c a s ld p)(hn:n<=64)(ha:∀i,i<n->∀j,j<m->LI K (a i j)){i j:Nat}(hi:i<n)(hj:j<m):LI (67+65*K) (s i j):=by
 have h1:=h.len;by_cases hl:i<ld.length
 ·exact(h.top_sz hn ha hl hj).up om9
 ·have e:=h.back i hi j hj;rw [if_pos om9] at e;have e2:s i j=p*a i j - zav ld.length (λl=>a i (ld.getD l 0)*s l j):=by grind
  rw [e2];have b1:=(h.lead_sz hn ha).mul (ha i hi j hj);have b2:LI (K+(1+64*(K+1))+1) (zav ld.length (λl=>a i (ld.getD l 0)*s l j)):=LI.sum om9 λl hl=>(ha i hi _ (by have:=h.lt l hl;have:=h.cm;omega)).mul (h.top_sz hn ha hl hj);exact((b1.up (K':=K+(1+64*(K+1))+1) om9).sub b2).up om9
inductive SRel (n : Nat) (a0 : Nat → Nat → Rat) : (Nat → Nat → Rat) → Prop
 |refl:SRel n a0 a0
 |sw {a r q}:SRel n a0 a->r<q->q<n->SRel n a0 (swp r q a)
theorem SRel.li {n m K:Nat}{a0 a:Nat->Nat->Rat}(h:SRel n a0 a)(h0:∀i,i<n->∀j,j<m->LI K (a0 i j)):∀i,i<n->∀j,j<m->LI K (a i j):=by
 induction h with
 |refl=>exact h0
 |sw h1 h2 h3 ih=>
   intro i hi j hj;unfold swp
   split
   ·exact ih _ h3 j hj
   ·split
    ·exact(ih _ om9 j hj).neg
    ·exact ih i hi j hj
theorem SRel.rows {n:Nat}{a0 a:Nat->Nat->Rat}(h:SRel n a0 a):(∀i,i<n->∃i',i'<n/\∃e:Rat,e*e=1/\∀j,a i j=e*a0 i' j)/\(∀i,i<n->∃i',i'<n/\∃e:Rat,e*e=1/\∀j,a0 i j=e*a i' j):=by
 induction h with
 |refl=>exact⟨λi hi=>⟨i,hi,1,by decide+kernel,λj=>(Rat.one_mul _).symm⟩,λi hi=>⟨i,hi,1,by decide+kernel,λj=>(Rat.one_mul _).symm⟩⟩
 | @sw a r q h1 h2 h3 ih=>
   constructor
   ·intro i hi;by_cases e1:i=r
    ·obtain⟨i',k1,e,k2,k3⟩:=ih.1 q h3;exact⟨i',k1,e,k2,λj=>by unfold swp;rw [if_pos e1];exact k3 j⟩
    ·by_cases e2:i=q
     ·obtain⟨i',k1,e,k2,k3⟩:=ih.1 r om9;exact⟨i',k1,-e,by grind,λj=>by unfold swp;rw [if_neg e1,if_pos e2,k3 j,Rat.neg_mul]⟩
     ·obtain⟨i',k1,e,k2,k3⟩:=ih.1 i hi;exact⟨i',k1,e,k2,λj=>by unfold swp;rw [if_neg e1,if_neg e2];exact k3 j⟩
   ·intro i hi;obtain⟨i',k1,e,k2,k3⟩:=ih.2 i hi;by_cases e1:i'=q
    ·exact⟨r,om9,e,k2,λj=>by unfold swp;rw [if_pos rfl,k3 j,e1]⟩
    ·by_cases e2:i'=r
     ·exact⟨q,h3,-e,by grind,λj=>by unfold swp;rw [if_neg om9,if_pos rfl,k3 j,e2];grind⟩
     ·exact⟨i',k1,e,k2,λj=>by unfold swp;rw [if_neg e2,if_neg e1];exact k3 j⟩
structure ESt where
 S:List (List Rat)
 ld:List Nat
 p:Rat
def swpL (r q:Nat)(S:List (List Rat)):List (List Rat):=(S.set r (S.getD q [])).set q (zau (-1) (S.getD r []))
def zjc (p:Rat)(row by_:List Rat)(c:Nat):List Rat:=zau p⁻¹ (zdn (zau (by_.getD c 0) row) (-row.getD c 0) by_)
def clrL (r c:Nat)(p:Rat)(S:List (List Rat)):List (List Rat):=S.mapIdx λi row=>if i=r then row else zjc p row (S.getD r []) c
def zcN (c:Nat)(e:ESt):Nat:=(e.S.drop e.ld.length).findIdx λrow=> !decide (row.getD c 0=0)
def zkK (c:Nat)(e:ESt):List (List Rat):=if zcN c e=0 then e.S else swpL e.ld.length (e.ld.length+zcN c e) e.S
def nextE (c:Nat)(e:ESt):ESt:=
 if zcN c e<e.S.length - e.ld.length then⟨clrL e.ld.length c e.p (zkK c e),e.ld++[c],atM (zkK c e) e.ld.length c⟩ else e
theorem zey {S:List (List Rat)}{r i:Nat}(v:List Rat)(h:i≠r):(S.set r v).getD i []=S.getD i []:=by
 rw [List.getD_eq_getElem?_getD,List.getElem?_set_ne (Ne.symm h),<-List.getD_eq_getElem?_getD]
theorem zfP {S:List (List Rat)}{r:Nat}(v:List Rat)(h:r<S.length):(S.set r v).getD r []=v:=by
 rw [List.getD_eq_getElem?_getD,List.getElem?_set_self h];rfl
theorem zct {r:Rat}{xs:List Rat}(j:Nat):(zau r xs).getD j 0=r*xs.getD j 0:=by
 unfold zau;rw [List.getD_eq_getElem?_getD,List.getD_eq_getElem?_getD,List.getElem?_map];cases xs[j]? with
 |none=>exact(Rat.mul_zero r).symm
 |some x=>rfl
theorem ziZ {r:Rat}{xs ys:List Rat}{j:Nat}(hx:j<xs.length)(hy:j<ys.length):(zdn xs r ys).getD j 0=xs.getD j 0+r*ys.getD j 0:=by
 unfold zdn;rw [List.getD_eq_getElem?_getD,List.getD_eq_getElem?_getD,List.getD_eq_getElem?_getD,List.getElem?_zipWith,List.getElem?_eq_getElem hx,List.getElem?_eq_getElem hy];rfl
theorem zrp {S:List (List Rat)}{n m r q:Nat}(h:zaY S n m)(hr:r<n)(hq:q<n):zaY (swpL r q S) n m:=by
 refine⟨by unfold swpL;rw [List.length_set,List.length_set];exact h.rows,λL hL=>?_⟩;unfold swpL at hL;rcases List.mem_or_eq_of_mem_set hL with hL|rfl
 ·rcases List.mem_or_eq_of_mem_set hL with hL|rfl
  ·exact h.cols L hL
  ·exact h.row hq
 ·unfold zau;rw [List.length_map];exact h.row hr
theorem swpL_at {S:List (List Rat)}{r q:Nat}(hr:r<S.length)(hq:q<S.length)(a:r≠q):atM (swpL r q S)=swp r q (atM S):=by
 funext i j
 unfold atM swpL swp;by_cases e1:i=r
 ·subst e1;rw [if_pos rfl,zey _ a,zfP _ hr]
 ·rw [if_neg e1];by_cases e2:i=q
  ·subst e2;rw [if_pos rfl,zfP _ (by rw [List.length_set];exact hq),zct,Rat.neg_mul,Rat.one_mul]
  ·rw [if_neg e2,zey _ e2,zey _ e1]
theorem znV {p:Rat}{row by_:List Rat}{c m:Nat}(h:row.length=m)(k:by_.length=m):(zjc p row by_ c).length=m:=by
 unfold zjc zau zdn;rw [List.length_map,List.length_zipWith,List.length_map,h,k,Nat.min_self]
theorem zqg {S:List (List Rat)}{n m r c:Nat}{p:Rat}(h:zaY S n m)(hr:r<n):zaY (clrL r c p S) n m:=by
 refine⟨by unfold clrL;rw [List.length_mapIdx];exact h.rows,λL hL=>?_⟩;unfold clrL at hL;obtain⟨i,hi,rfl⟩:=List.mem_mapIdx.1 hL
 split
 ·exact h.cols _ (List.getElem_mem _)
 ·exact znV (h.cols _ (List.getElem_mem _)) (h.row hr)
theorem clrL_row {S:List (List Rat)}{r c i:Nat}{p:Rat}(hi:i<S.length):(clrL r c p S).getD i []=if i=r then S.getD i [] else zjc p (S.getD i []) (S.getD r []) c:=by
 unfold clrL;rw [List.getD_eq_getElem?_getD,List.getElem?_mapIdx,List.getElem?_eq_getElem hi];show(if i=r then _ else _)=_;rw [show S.getD i []=S[i] by rw [List.getD_eq_getElem?_getD,List.getElem?_eq_getElem hi];rfl]
theorem clrL_at {S:List (List Rat)}{n m r c i j:Nat}{p:Rat}(h:zaY S n m)(hr:r<n)(hi:i<n)(hj:j<m):atM (clrL r c p S) i j=clr r c p (atM S) i j:=by
 unfold atM clr;rw [clrL_row (by rw [h.rows];exact hi)];by_cases e:i=r
 ·rw [if_pos e,if_pos e,e]
 ·rw [if_neg e,if_neg e];unfold zjc;rw [zct,ziZ (by unfold zau;rw [List.length_map,h.row hi];exact hj) (by rw [h.row hr];exact hj),zct]
theorem zcy.congr {n m c:Nat}{a s s':Nat->Nat->Rat}{ld:List Nat}{p:Rat}(h:zcy n m c a s ld p)(e:∀i,i<n->∀j,j<m->s' i j=s i j):zcy n m c a s' ld p:=
 have hk:=h.len
 have hm:=h.cm
 { h with
  piv:=λl hl i hi=>by rw [e i hi _ (by have:=h.lt l hl;omega)];exact h.piv l hl i hi
  low:=λi h1 h2 j hj=>by rw [e i h2 j om9];exact h.low i h1 h2 j hj
  fore:=λl hl j hj=>by rw [e l om9 j (by have:=h.lt l hl;omega)];exact h.fore l hl j hj
  back:=λi hi j hj=>by
   rw [h.back i hi j hj,e i hi j hj];congr 1;exact zal λl hl=>by rw [e l om9 j hj]}
structure EOk (n m c:Nat)(a0:Nat->Nat->Rat)(e:ESt):Prop where
 dims:zaY e.S n m
 inv:∃a,SRel n a0 a/\zcy n m c a (atM e.S) e.ld e.p
theorem EOk.start {n m:Nat}{S:List (List Rat)}(h:zaY S n m):EOk n m 0 (atM S) ⟨S,[],1⟩:=⟨h,_,.refl,zcy.start _ _ _⟩
theorem zdC {S:List (List Rat)}{r i:Nat}(h:i<(S.drop r).length):(S.drop r)[i]=S.getD (r+i) []:=by
 rw [List.length_drop] at h;rw [List.getElem_drop,List.getD_eq_getElem?_getD,List.getElem?_eq_getElem om9];rfl
theorem zmi {c:Nat}{e:ESt}(h:¬ zcN c e<e.S.length - e.ld.length){i:Nat}(h1:e.ld.length<=i)(h2:i<e.S.length):atM e.S i c=0:=by
 have hl:(e.S.drop e.ld.length).length=e.S.length - e.ld.length:=List.length_drop;have:=List.not_of_lt_findIdx (p:=λrow:List Rat=> !decide (row.getD c 0=0)) (xs:=e.S.drop e.ld.length) (i:=i - e.ld.length) (by show _<zcN c e;omega);rw [zdC om9,show e.ld.length+(i - e.ld.length)=i by omega] at this;simpa [atM] using this
theorem zmj {c:Nat}{e:ESt}(h:zcN c e<e.S.length - e.ld.length):atM e.S (e.ld.length+zcN c e) c≠0:=by
 have hl:(e.S.drop e.ld.length).length=e.S.length - e.ld.length:=List.length_drop;have:=List.findIdx_getElem (p:=λrow:List Rat=> !decide (row.getD c 0=0)) (xs:=e.S.drop e.ld.length) (w:=by show zcN c e<_;omega);rw [zdC (by show zcN c e<_;omega)] at this;simpa [atM,zcN] using this
theorem EOk.pick {n m c:Nat}{a0:Nat->Nat->Rat}{e:ESt}(h:EOk n m c a0 e)(hb:zcN c e<n - e.ld.length):zaY (zkK c e) n m/\(∃a,SRel n a0 a/\zcy n m c a (atM (zkK c e)) e.ld e.p)/\atM (zkK c e) e.ld.length c≠0:=by
 obtain⟨hd,a,hs,hi⟩:=h;have d:zcN c e<e.S.length - e.ld.length:=by rw [hd.rows];exact hb
 have b:=zmj d;unfold zkK;by_cases h0:zcN c e=0
 ·rw [if_pos h0];rw [h0,Nat.add_zero] at b;exact⟨hd,⟨a,hs,hi⟩,b⟩
 ·rw [if_neg h0];have hr:=hd.rows;have e1:=swpL_at (S:=e.S) (r:=e.ld.length) (q:=e.ld.length+zcN c e) om9 om9 om9;refine⟨zrp hd om9 om9,⟨swp e.ld.length (e.ld.length+zcN c e) a,hs.sw om9 om9,by rw [e1];exact hi.swap om9 om9⟩,?_⟩;rw [e1];unfold swp;rw [if_pos rfl];exact b
theorem EOk.next {n m c:Nat}{a0:Nat->Nat->Rat}{e:ESt}(h:EOk n m c a0 e)(hc:c<m):EOk n m (c+1) a0 (nextE c e):=by
 have hr:=h.dims.rows;unfold nextE;by_cases hb:zcN c e<e.S.length - e.ld.length
 ·rw [if_pos hb];obtain⟨hd,⟨a,hs,hi⟩,d⟩:=h.pick (by rw [<-hr];exact hb);exact⟨zqg hd om9,a,hs,(hi.clear hc om9 d).congr λi b j hj=>clrL_at hd om9 b hj⟩
 ·rw [if_neg hb];obtain⟨hd,a,hs,hi⟩:=h;exact⟨hd,a,hs,hi.skip hc λi h1 h2=>zmi hb h1 om9⟩
def elimE (c:Nat)(S:List (List Rat)):ESt:=(List.range c).foldl (λe c=>nextE c e) ⟨S,[],1⟩
theorem zod (c:Nat)(S:List (List Rat)):elimE (c+1) S=nextE c (elimE c S):=by
 unfold elimE;rw [List.range_succ,List.foldl_append];rfl
theorem zpt {n m:Nat}{S:List (List Rat)}(h:zaY S n m):∀{c:Nat},c<=m->EOk n m c (atM S) (elimE c S)
 |0,_=>EOk.start h
 |c+1,hc=>by rw [zod];exact(zpt h om9).next om9
