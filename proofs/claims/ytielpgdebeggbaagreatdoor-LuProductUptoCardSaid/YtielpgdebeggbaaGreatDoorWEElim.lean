/- What this claim leans on. -/
import Derived.Test.YtielpgdebeggbaaGreatDoorWEDet
set_option linter.unusedVariables false
set_option linter.unusedSimpArgs false
namespace Go.Proofs.YtielpgdebeggbaaGreatDoor
open Go Go.RowKit
set_option maxHeartbeats 16000000
variable {S:List (List Rat)}{ld:List Nat}{xs:List Rat}{K K' c i j m n:Nat}{a a0 s:Nat->Nat->Rat}{p x y:Rat}
structure xy (n m c:Nat)(a s:Nat->Nat->Rat)(ld:List Nat)(p:Rat):Prop where
 len:ld.length<=n
 cm:c<=m
 up:∀l l',l<l'->l'<ld.length->ld.getD l 0<ld.getD l' 0
 lt:∀l,l<ld.length->ld.getD l 0<c
 ne:p≠0
 piv:∀l,l<ld.length->∀i,i<n->s i (ld.getD l 0)=if i=l then p else 0
 low:∀i,ld.length<=i->i<n->∀j,j<c->s i j=0
 fore:∀l,l<ld.length->∀j,j<ld.getD l 0->s l j=0
 back:∀i,i<n->∀j,j<m->p*a i j=zq ld.length (λl=>a i (ld.getD l 0)*s l j)+if ld.length<=i then s i j else 0
 det:p=zH ld.length λi j=>a i (ld.getD j 0)
theorem xy.start (n m:Nat)(a:Nat->Nat->Rat):xy n m 0 a a [] 1 where
 len:=qW _
 cm:=qW _
 up:=λl l' _ h=>by cases h
 lt:=λl h=>by cases h
 ne:=by decide+kernel
 piv:=λl h=>by cases h
 low:=λi _ _ j h=>by cases h
 fore:=λl h=>by cases h
 back:=λi _ j _=>by
  show 1*a i j=zq 0 _+if 0<=i then a i j else 0
  rw [if_pos (qW _),gT];grind
 det:=rfl
theorem xy.skip (h:xy n m c a s ld p)(hc:c<m)(h0:∀i,ld.length<=i->i<n->s i c=0):xy n m (c+1) a s ld p:=
 { h with
  cm:=hc
  lt:=λl hl=>Nat.lt_succ_of_lt (h.lt l hl)
  low:=λi h1 h2 j hj=>by
   rcases XQ j c with e|e
   ·exact h.low i h1 h2 j e
   ·rw [show j=c by omega];exact h0 i h1 h2}
def wD (r q:Nat)(s:Nat->Nat->Rat):Nat->Nat->Rat:=λi j=>if i=r then s q j else if i=q then -s r j else s i j
theorem Zs (k:Nat)(f:Nat->Rat):zq k (λi=> -f i)= -zq k f:=by
 have:=wM k (-1) f;rw [show(-1:Rat)*zq k f= -zq k f by grind] at this;rw [this];exact ya λi _=>by grind
theorem xy.swap (h:xy n m c a s ld p){q:Nat}(h1:ld.length<q)(h2:q<n):xy n m c (wD ld.length q a) (wD ld.length q s) ld p where
 len:=h.len
 cm:=h.cm
 up:=h.up
 lt:=h.lt
 ne:=h.ne
 piv:=λl hl i hi=>by
  unfold wD;by_cases e1:i=ld.length
  ·rw [if_pos e1,if_neg zb,h.piv l hl q h2,if_neg zb]
  ·rw [if_neg e1];by_cases e2:i=q
   ·rw [if_pos e2,if_neg zb,h.piv l hl ld.length zb,if_neg zb,Rat.neg_zero]
   ·rw [if_neg e2,h.piv l hl i hi]
 low:=λi hi d j hj=>by
  unfold wD
  split
  ·exact h.low q zb h2 j hj
  ·split
   ·rw [h.low ld.length (qX _) zb j hj,Rat.neg_zero]
   ·exact h.low i hi d j hj
 fore:=λl hl j hj=>by
  unfold wD;rw [if_neg zb,if_neg zb];exact h.fore l hl j hj
 back:=λi hi j hj=>by
  have hs:∀i,zq ld.length (λl=>wD ld.length q a i (ld.getD l 0)*wD ld.length q s l j)=zq ld.length (λl=>wD ld.length q a i (ld.getD l 0)*s l j):=λi=>ya λl hl=>by
   rw [show wD ld.length q s l j=s l j by unfold wD;rw [if_neg zb,if_neg zb]]
  rw [hs];by_cases e1:i=ld.length
  ·subst e1;have:=h.back q h2 j hj;rw [if_pos zb] at this⊢;simp only [wD,if_true];exact this
  ·by_cases e2:i=q
   ·subst e2;have:=h.back ld.length zb j hj;rw [if_pos zb] at this⊢;simp only [wD,if_neg e1,if_true];have e:zq ld.length (λl=> -a ld.length (ld.getD l 0)*s l j)= -zq ld.length (λl=>a ld.length (ld.getD l 0)*s l j):=by
     rw [<-Zs];exact ya λl _=>by grind
    rw [e]
    grind
   ·have:=h.back i hi j hj;simp only [wD,if_neg e1,if_neg e2];exact this
 det:=by
  rw [h.det];exact uh λi hi j _=>by unfold wD;rw [if_neg zb,if_neg zb]
def rv (k c:Nat)(p:Rat)(s:Nat->Nat->Rat):Nat->Nat->Rat:=λi j=>if i=k then s k j else p⁻¹*(s k c*s i j+ -s i c*s k j)
theorem kW {l:Nat}(h:l<ld.length):(ld++[c]).getD l 0=ld.getD l 0:=by
 rw [qQ,qQ,QG h]
theorem jH (ld:List Nat)(c:Nat):(ld++[c]).getD ld.length 0=c:=by
 rw [qQ,qT (qX _),XH];rfl
theorem lE (ld:List Nat)(c:Nat):(ld++[c]).length=ld.length+1:=zA
theorem xy.col (h:xy n m c a s ld p){l j:Nat}(hl:l<ld.length)(hj:j<m):s l j=zH ld.length (zL (λi j=>a i (ld.getD j 0)) l λi=>a i j):=by
 have e1:=gX (n:=ld.length) (λi j=>a i (ld.getD j 0)) hl p (λi=>a i j);have e2:zH ld.length (zL (λi j=>a i (ld.getD j 0)) l λi=>p*a i j)=zH ld.length (zL (λi j=>a i (ld.getD j 0)) l λi=>zq ld.length λq=>s q j*a i (ld.getD q 0)):=uh λi hi j' _=>by
  by_cases e:j'=l
  ·subst e;rw [vo,vo,h.back i (by have:=h.len;omega) j hj,if_neg zb,xK];exact ya λq _=>yM _ _
  ·rw [vv _ e,vv _ e]
 rw [e2,jO _ hl (λq=>s q j) (λq i=>a i (ld.getD q 0))] at e1;have e3:∀q,q<ld.length->s q j*zH ld.length (zL (λi j=>a i (ld.getD j 0)) l λi=>a i (ld.getD q 0))=(s l j*p)*if q=l then 1 else 0:=λq hq=>by
  by_cases e:q=l
  ·subst e;rw [if_pos rfl,ic (λi j=>a i (ld.getD j 0)) q,<-h.det,Rat.mul_one]
  ·rw [if_neg e,gZ (M:=λi j=>a i (ld.getD j 0)) hl hq (Ne.symm e),xO,xO]
 rw [ya e3] at e1;have e4:zq ld.length (λq=>(s l j*p)*if q=l then 1 else 0)=s l j*p:=by
  clear e1 e2 e3;have:∀k,l<k->zq k (λq=>(s l j*p)*if q=l then 1 else 0)=s l j*p:=by
   intro k
   induction k with
   |zero=>intro h;cases h
   |succ k ih=>
     intro hk;rw [xw];by_cases e:k=l
     ·subst e;rw [if_pos rfl,uE λi hi=>by rw [if_neg zb,xO],yD,Rat.mul_one]
     ·rw [if_neg e,xO,xK,ih zb]
  exact this _ hl
 rw [e4] at e1;have:=h.ne
 grind
theorem xy.lead (h:xy n m c a s ld p)(hc:c<m)(hk:ld.length<n):s ld.length c=zH (ld.length+1) λi j=>a i ((ld++[c]).getD j 0):=by
 have hB:∀(f:Nat->Nat->Rat),(f=λi j=>a i ((ld++[c]).getD j 0))->s ld.length c=zH (ld.length+1) f:=by
  intro f hf;have d:ld.length<ld.length+1:=Nat.lt_succ_self _;have e1:=gX (n:=ld.length+1) f d p (λi=>f i ld.length);rw [ic f] at e1;have ff:∀i l,l<ld.length->f i l=a i (ld.getD l 0):=λi l hl=>by rw [hf];show a i _=_;rw [kW hl]
  have fc:∀i,f i ld.length=a i c:=λi=>by rw [hf];show a i _=_;rw [jH]
  have e2:zH (ld.length+1) (zL f ld.length λi=>p*f i ld.length)=zH (ld.length+1) (zL f ld.length λi=>1*(zq ld.length λq=>s q c*f i q)+s ld.length c*if i=ld.length then 1 else 0):=uh λi hi j' _=>by
   by_cases e:j'=ld.length
   ·subst e;rw [vo,vo,fc,h.back i zb c hc,XG];congr 1
    ·exact ya λq hq=>by rw [ff i q hq,yM]
    ·by_cases e:i=ld.length
     ·rw [if_pos zb,if_pos e,e,Rat.mul_one]
     ·rw [if_neg zb,if_neg e,xO]
   ·rw [vv _ e,vv _ e]
  rw [e2,lB f d 1 (s ld.length c) (λi=>zq ld.length λq=>s q c*f i q) (λi=>if i=ld.length then 1 else 0),jO f d (λq=>s q c) (λq i=>f i q)] at e1;rw [uE λq hq=>by rw [gZ d zb zb,xO]] at e1;rw [bP ld.length (M:=zL f ld.length λi=>if i=ld.length then 1 else 0) (λi hi=>by rw [vo,if_neg zb]),vo,if_pos rfl] at e1;have e3:zH ld.length (zL f ld.length λi=>if i=ld.length then 1 else 0)=p:=by
   rw [h.det];exact uh λi hi j hj=>by rw [vv _ zb,ff i j hj]
  rw [e3] at e1;have:=h.ne
  grind
 exact hB _ rfl
theorem xy.clear (h:xy n m c a s ld p)(hc:c<m)(hk:ld.length<n)(h0:s ld.length c≠0):xy n m (c+1) a (rv ld.length c p s) (ld++[c]) (s ld.length c) where
 len:=by rw [lE];omega
 cm:=hc
 up:=λl l' h1 h2=>by
  rw [lE] at h2;rw [kW zb];by_cases e:l'=ld.length
  ·subst e;rw [jH];exact h.lt l h1
  ·rw [kW zb];exact h.up l l' h1 zb
 lt:=λl hl=>by
  rw [lE] at hl;by_cases e:l=ld.length
  ·subst e;rw [jH];omega
  ·rw [kW zb];exact Nat.lt_succ_of_lt (h.lt l zb)
 ne:=h0
 piv:=λl hl i hi=>by
  have k:=h.ne;rw [lE] at hl;unfold rv;by_cases e:l=ld.length
  ·subst e;rw [jH];by_cases e2:i=ld.length
   ·rw [if_pos e2,if_pos e2]
   ·rw [if_neg e2,if_neg e2];grind
  ·have d:l<ld.length:=zb;rw [kW d];have e3:=h.piv l d ld.length hk;rw [if_neg zb] at e3;by_cases e2:i=ld.length
   ·rw [if_pos e2,if_neg zb,e3]
   ·rw [if_neg e2,e3,h.piv l d i hi];by_cases e4:i=l
    ·rw [if_pos e4,if_pos e4];grind
    ·rw [if_neg e4,if_neg e4];grind
 low:=λi hi g j hj=>by
  rw [lE] at hi;unfold rv;rw [if_neg zb];by_cases e:j=c
  ·subst e;grind
  ·rw [h.low i zb g j zb,h.low ld.length (qX _) hk j zb];grind
 fore:=λl hl j hj=>by
  rw [lE] at hl;unfold rv;by_cases e:l=ld.length
  ·subst e;rw [jH] at hj;rw [if_pos rfl];exact h.low _ (qX _) hk j hj
  ·have d:l<ld.length:=zb;rw [kW d] at hj;have:=h.lt l d;rw [if_neg e,h.fore l d j hj,h.low ld.length (qX _) hk j zb];grind
 back:=λi hi j hj=>by
  have k:=h.ne;have e1:=h.back i hi j hj;have e2:=h.back i hi c hc;rw [lE,xw,jH];have e3:zq ld.length (λl=>a i ((ld++[c]).getD l 0)*rv ld.length c p s l j)=p⁻¹*(s ld.length c*zq ld.length (λl=>a i (ld.getD l 0)*s l j)+ -(s ld.length j)*zq ld.length (λl=>a i (ld.getD l 0)*s l c)):=by
   rw [wM,wM,<-tY,wM];refine ya λl hl=>?_;rw [kW hl];unfold rv;rw [if_neg zb]
   grind
  have e4:rv ld.length c p s ld.length j=s ld.length j:=if_pos rfl;rw [e3,e4];generalize zq ld.length (λl=>a i (ld.getD l 0)*s l j)=x at*;generalize zq ld.length (λl=>a i (ld.getD l 0)*s l c)=y at*;by_cases e5:ld.length+1<=i
  ·rw [if_pos e5];rw [if_pos zb] at e1 e2;unfold rv;rw [if_neg zb];generalize a i j=u at*;generalize a i c=v at*;generalize s i j=z at*;generalize s i c=t at*;generalize s ld.length j=r at*;generalize s ld.length c=q at*
   grind
  ·rw [if_neg e5];by_cases e6:i=ld.length
   ·subst e6;rw [if_pos (qX _)] at e1 e2
    grind
   ·rw [if_neg zb] at e1 e2
    grind
 det:=by
  rw [lE];exact h.lead hc hk
def LI (K:Nat)(x:Rat):Prop:=∃z:Int,x=(z:Rat)/\Sz K z.natAbs
theorem LI.up (h:LI K x)(hk:K<=K'):LI K' x:=by
 obtain⟨z,e,hz⟩:=h;exact⟨z,e,hz.up hk⟩
theorem LI.one:LI 1 1:=⟨1,by decide+kernel,by show 1<18446744073709551616^1;rw [Nat.pow_one];decide⟩
theorem LI.zero (K:Nat):LI K 0:=⟨0,by decide+kernel,yX zf⟩
theorem LI.mul (h:LI K x)(k:LI K' y):LI (K+K') (x*y):=by
 obtain⟨z,rfl,hz⟩:=h;obtain⟨t,rfl,ht⟩:=k;exact⟨z*t,(yP z t).symm,by rw [xR];exact hz.mul ht⟩
theorem LI.neg (h:LI K x):LI K (-x):=by
 obtain⟨z,rfl,hz⟩:=h;exact⟨-z,(Rat.intCast_neg z).symm,by rw [Int.natAbs_neg];exact hz⟩
theorem LI.add (h:LI K x)(k:LI K y):LI (K+1) (x+y):=by
 obtain⟨z,rfl,hz⟩:=h;obtain⟨t,rfl,ht⟩:=k;refine⟨z+t,(Rat.intCast_add z t).symm,?_⟩;have:=Int.natAbs_add_le z t;unfold Sz at*;rw [QK];omega
theorem LI.sub (h:LI K x)(k:LI K y):LI (K+1) (x - y):=by
 rw [Rat.sub_eq_add_neg];exact h.add k.neg
theorem LI.sum {k:Nat}{f:Nat->Rat}(hk:k<=18446744073709551616)(h:∀i,i<k->LI K (f i)):LI (K+1) (zq k f):=by
 have:∀q,q<=k->∃z:Int,zq q f=(z:Rat)/\z.natAbs<=q*(18446744073709551616^K - 1):=by
  intro q
  induction q with
  |zero=>intro _;exact⟨0,by rw [gT];decide+kernel,zb⟩
  |succ q ih=>
    intro hq;obtain⟨z,e,hz⟩:=ih zb;obtain⟨t,e2,ht⟩:=h q zb;refine⟨z+t,by rw [xw,e,e2,Rat.intCast_add],?_⟩;have h1:=Int.natAbs_add_le z t;unfold Sz at ht;rw [Nat.succ_mul];omega
 obtain⟨z,e,hz⟩:=this k (qX _);refine⟨z,e,?_⟩;unfold Sz;rw [QK,QQ];have h0:0<18446744073709551616^K:=yX zf;refine QN hz (QN (qS _ hk) ?_);exact Nat.mul_lt_mul_of_pos_left zb zf
theorem LI.sg_ (h:LI K x):LI K (sg c*x):=by
 unfold sg
 split
 ·rw [XG];exact h
 ·rw [Rat.neg_mul,XG];exact h.neg
theorem LI.det_ {K:Nat}:∀{n:Nat} {M:Nat->Nat->Rat},n<=64->(∀i,i<n->∀j,j<n->LI K (M i j))->LI (1+n*(K+1)) (zH n M)
 |0,_,_,_=>LI.one.up zb
 |n+1,M,hn,h=>by
   rw [vu];refine(LI.sum (K:=K+(1+n*(K+1))) zb λc hc=>?_).up (by rw [Nat.succ_mul];omega);exact(LI.sg_ (h 0 zb c hc)).mul (LI.det_ zb λi hi j hj=>h (i+1) zb _ (pH hj))
theorem xy.lead_sz (h:xy n m c a s ld p)(hn:n<=64)(ha:∀i,i<n->∀j,j<m->LI K (a i j)):LI (1+64*(K+1)) p:=by
 have h1:=h.len;rw [h.det];refine(LI.det_ (K:=K) zb λi hi j hj=>ha i zb _ ?_).up (XN (qS _ zb) _);have:=h.lt j hj;have:=h.cm;omega
theorem xy.top_sz (h:xy n m c a s ld p)(hn:n<=64)(ha:∀i,i<n->∀j,j<m->LI K (a i j)){l j:Nat}(hl:l<ld.length)(hj:j<m):LI (1+64*(K+1)) (s l j):=by
 have h1:=h.len;rw [h.col hl hj];refine(LI.det_ (K:=K) zb λi hi j' d=>?_).up (XN (qS _ zb) _);by_cases e:j'=l
 ·rw [e,vo];exact ha i zb j hj
 ·rw [vv _ e];refine ha i zb _ ?_;have:=h.lt j' d;have:=h.cm;omega
theorem xy.sz (h:xy n m c a s ld p)(hn:n<=64)(ha:∀i,i<n->∀j,j<m->LI K (a i j)){i j:Nat}(hi:i<n)(hj:j<m):LI (67+65*K) (s i j):=by
 have h1:=h.len;by_cases hl:i<ld.length
 ·exact(h.top_sz hn ha hl hj).up zb
 ·have e:=h.back i hi j hj;rw [if_pos zb] at e;have e2:s i j=p*a i j - zq ld.length (λl=>a i (ld.getD l 0)*s l j):=by grind
  rw [e2];have b1:=(h.lead_sz hn ha).mul (ha i hi j hj);have b2:LI (K+(1+64*(K+1))+1) (zq ld.length (λl=>a i (ld.getD l 0)*s l j)):=LI.sum zb λl hl=>(ha i hi _ (by have:=h.lt l hl;have:=h.cm;omega)).mul (h.top_sz hn ha hl hj);exact((b1.up (K':=K+(1+64*(K+1))+1) zb).sub b2).up zb
inductive vf (n : Nat) (a0 : Nat → Nat → Rat) : (Nat → Nat → Rat) → Prop
 |refl:vf n a0 a0
 |sw {a r q}:vf n a0 a->r<q->q<n->vf n a0 (wD r q a)
theorem vf.li (h:vf n a0 a)(h0:∀i,i<n->∀j,j<m->LI K (a0 i j)):∀i,i<n->∀j,j<m->LI K (a i j):=by
 induction h with
 |refl=>exact h0
 |sw h1 h2 h3 ih=>
   intro i hi j hj;unfold wD
   split
   ·exact ih _ h3 j hj
   ·split
    ·exact(ih _ zb j hj).neg
    ·exact ih i hi j hj
theorem vf.rows (h:vf n a0 a):(∀i,i<n->∃i',i'<n/\∃e:Rat,e*e=1/\∀j,a i j=e*a0 i' j)/\(∀i,i<n->∃i',i'<n/\∃e:Rat,e*e=1/\∀j,a0 i j=e*a i' j):=by
 induction h with
 |refl=>exact⟨λi hi=>⟨i,hi,1,by decide+kernel,λj=>(XG _).symm⟩,λi hi=>⟨i,hi,1,by decide+kernel,λj=>(XG _).symm⟩⟩
 | @sw a r q h1 h2 h3 ih=>
   constructor
   ·intro i hi;by_cases e1:i=r
    ·obtain⟨i',k1,e,k2,k3⟩:=ih.1 q h3;exact⟨i',k1,e,k2,λj=>by unfold wD;rw [if_pos e1];exact k3 j⟩
    ·by_cases e2:i=q
     ·obtain⟨i',k1,e,k2,k3⟩:=ih.1 r zb;exact⟨i',k1,-e,by grind,λj=>by unfold wD;rw [if_neg e1,if_pos e2,k3 j,Rat.neg_mul]⟩
     ·obtain⟨i',k1,e,k2,k3⟩:=ih.1 i hi;exact⟨i',k1,e,k2,λj=>by unfold wD;rw [if_neg e1,if_neg e2];exact k3 j⟩
   ·intro i hi;obtain⟨i',k1,e,k2,k3⟩:=ih.2 i hi;by_cases e1:i'=q
    ·exact⟨r,zb,e,k2,λj=>by unfold wD;rw [if_pos rfl,k3 j,e1]⟩
    ·by_cases e2:i'=r
     ·exact⟨q,h3,-e,by grind,λj=>by unfold wD;rw [if_neg zb,if_pos rfl,k3 j,e2];grind⟩
     ·exact⟨i',k1,e,k2,λj=>by unfold wD;rw [if_neg e2,if_neg e1];exact k3 j⟩
structure v8 where
 S:List (List Rat)
 ld:List Nat
 p:Rat
def tQ (r q:Nat)(S:List (List Rat)):List (List Rat):=(S.set r (S.getD q [])).set q (zT (-1) (S.getD r []))
def fH (p:Rat)(row by_:List Rat)(c:Nat):List Rat:=zT p⁻¹ (vZ (zT (by_.getD c 0) row) (-row.getD c 0) by_)
def uS (r c:Nat)(p:Rat)(S:List (List Rat)):List (List Rat):=S.mapIdx λi row=>if i=r then row else fH p row (S.getD r []) c
def uG (c:Nat)(e:v8):Nat:=(e.S.drop e.ld.length).findIdx λrow=> !decide (row.getD c 0=0)
def iy (c:Nat)(e:v8):List (List Rat):=if uG c e=0 then e.S else tQ e.ld.length (e.ld.length+uG c e) e.S
def tz (c:Nat)(e:v8):v8:=
 if uG c e<e.S.length - e.ld.length then⟨uS e.ld.length c e.p (iy c e),e.ld++[c],zl (iy c e) e.ld.length c⟩ else e
theorem fU {r:Nat}(v:List Rat)(h:i≠r):(S.set r v).getD i []=S.getD i []:=by
 rw [qQ,XZ (Ne.symm h),<-qQ]
theorem bR {r:Nat}(v:List Rat)(h:r<S.length):(S.set r v).getD r []=v:=by
 rw [qQ,XY h];rfl
theorem oc {r:Rat}(j:Nat):(zT r xs).getD j 0=r*xs.getD j 0:=by
 unfold zT;rw [qQ,qQ,qN];cases xs[j]? with
 |none=>exact(xO r).symm
 |some x=>rfl
theorem Zk {r:Rat}{ys:List Rat}(hx:j<xs.length)(hy:j<ys.length):(vZ xs r ys).getD j 0=xs.getD j 0+r*ys.getD j 0:=by
 unfold vZ;rw [qQ,qQ,qQ,List.getElem?_zipWith,qY hx,qY hy];rfl
theorem Qk {r q:Nat}(h:zO S n m)(hr:r<n)(hq:q<n):zO (tQ r q S) n m:=by
 refine⟨by unfold tQ;rw [QX,QX];exact h.rows,λL hL=>?_⟩;unfold tQ at hL;rcases QW hL with hL|rfl
 ·rcases QW hL with hL|rfl
  ·exact h.cols L hL
  ·exact h.row hq
 ·unfold zT;rw [QH];exact h.row hr
theorem mH {S:List (List Rat)}{r q:Nat}(hr:r<S.length)(hq:q<S.length)(a:r≠q):zl (tQ r q S)=wD r q (zl S):=by
 funext i j
 unfold zl tQ wD;by_cases e1:i=r
 ·subst e1;rw [if_pos rfl,fU _ a,bR _ hr]
 ·rw [if_neg e1];by_cases e2:i=q
  ·subst e2;rw [if_pos rfl,bR _ (by rw [QX];exact hq),oc,Rat.neg_mul,XG]
  ·rw [if_neg e2,fU _ e2,fU _ e1]
theorem S0 {row by_:List Rat}(h:row.length=m)(k:by_.length=m):(fH p row by_ c).length=m:=by
 unfold fH zT vZ;rw [QH,jX,QH,h,k,Nat.min_self]
theorem RI {r:Nat}(h:zO S n m)(hr:r<n):zO (uS r c p S) n m:=by
 refine⟨by unfold uS;rw [List.length_mapIdx];exact h.rows,λL hL=>?_⟩;unfold uS at hL;obtain⟨i,hi,rfl⟩:=List.mem_mapIdx.1 hL
 split
 ·exact h.cols _ (xH _)
 ·exact S0 (h.cols _ (xH _)) (h.row hr)
theorem rz {r:Nat}(hi:i<S.length):(uS r c p S).getD i []=if i=r then S.getD i [] else fH p (S.getD i []) (S.getD r []) c:=by
 unfold uS;rw [qQ,List.getElem?_mapIdx,qY hi];show(if i=r then _ else _)=_;rw [show S.getD i []=S[i] by rw [qQ,qY hi];rfl]
theorem ng {r:Nat}(h:zO S n m)(hr:r<n)(hi:i<n)(hj:j<m):zl (uS r c p S) i j=rv r c p (zl S) i j:=by
 unfold zl rv;rw [rz (by rw [h.rows];exact hi)];by_cases e:i=r
 ·rw [if_pos e,if_pos e,e]
 ·rw [if_neg e,if_neg e];unfold fH;rw [oc,Zk (by unfold zT;rw [QH,h.row hi];exact hj) (by rw [h.row hr];exact hj),oc]
theorem xy.congr {s':Nat->Nat->Rat}(h:xy n m c a s ld p)(e:∀i,i<n->∀j,j<m->s' i j=s i j):xy n m c a s' ld p:=
 have hk:=h.len
 have hm:=h.cm
 { h with
  piv:=λl hl i hi=>by rw [e i hi _ (by have:=h.lt l hl;omega)];exact h.piv l hl i hi
  low:=λi h1 h2 j hj=>by rw [e i h2 j zb];exact h.low i h1 h2 j hj
  fore:=λl hl j hj=>by rw [e l zb j (by have:=h.lt l hl;omega)];exact h.fore l hl j hj
  back:=λi hi j hj=>by
   rw [h.back i hi j hj,e i hi j hj];congr 1;exact ya λl hl=>by rw [e l zb j hj]}
structure sW (n m c:Nat)(a0:Nat->Nat->Rat)(e:v8):Prop where
 dims:zO e.S n m
 inv:∃a,vf n a0 a/\xy n m c a (zl e.S) e.ld e.p
theorem sW.start (h:zO S n m):sW n m 0 (zl S) ⟨S,[],1⟩:=⟨h,_,.refl,xy.start _ _ _⟩
theorem fO {r:Nat}(h:i<(S.drop r).length):(S.drop r)[i]=S.getD (r+i) []:=by
 rw [xZ] at h;rw [List.getElem_drop,qQ,qY zb];rfl
theorem TC {e:v8}(h:¬ uG c e<e.S.length - e.ld.length){i:Nat}(h1:e.ld.length<=i)(h2:i<e.S.length):zl e.S i c=0:=by
 have hl:(e.S.drop e.ld.length).length=e.S.length - e.ld.length:=xZ;have:=List.not_of_lt_findIdx (p:=λrow:List Rat=> !decide (row.getD c 0=0)) (xs:=e.S.drop e.ld.length) (i:=i - e.ld.length) (by show _<uG c e;omega);rw [fO zb,show e.ld.length+(i - e.ld.length)=i by omega] at this;simpa [zl] using this
theorem TD {e:v8}(h:uG c e<e.S.length - e.ld.length):zl e.S (e.ld.length+uG c e) c≠0:=by
 have hl:(e.S.drop e.ld.length).length=e.S.length - e.ld.length:=xZ;have:=List.findIdx_getElem (p:=λrow:List Rat=> !decide (row.getD c 0=0)) (xs:=e.S.drop e.ld.length) (w:=by show uG c e<_;omega);rw [fO (by show uG c e<_;omega)] at this;simpa [zl,uG] using this
theorem sW.pick {e:v8}(h:sW n m c a0 e)(hb:uG c e<n - e.ld.length):zO (iy c e) n m/\(∃a,vf n a0 a/\xy n m c a (zl (iy c e)) e.ld e.p)/\zl (iy c e) e.ld.length c≠0:=by
 obtain⟨hd,a,hs,hi⟩:=h;have g:uG c e<e.S.length - e.ld.length:=by rw [hd.rows];exact hb
 have d:=TD g;unfold iy;by_cases h0:uG c e=0
 ·rw [if_pos h0];rw [h0,XD] at d;exact⟨hd,⟨a,hs,hi⟩,d⟩
 ·rw [if_neg h0];have hr:=hd.rows;have e1:=mH (S:=e.S) (r:=e.ld.length) (q:=e.ld.length+uG c e) zb zb zb;refine⟨Qk hd zb zb,⟨wD e.ld.length (e.ld.length+uG c e) a,hs.sw zb zb,by rw [e1];exact hi.swap zb zb⟩,?_⟩;rw [e1];unfold wD;rw [if_pos rfl];exact d
theorem sW.next {e:v8}(h:sW n m c a0 e)(hc:c<m):sW n m (c+1) a0 (tz c e):=by
 have hr:=h.dims.rows;unfold tz;by_cases hb:uG c e<e.S.length - e.ld.length
 ·rw [if_pos hb];obtain⟨hd,⟨a,hs,hi⟩,g⟩:=h.pick (by rw [<-hr];exact hb);exact⟨RI hd zb,a,hs,(hi.clear hc zb g).congr λi d j hj=>ng hd zb d hj⟩
 ·rw [if_neg hb];obtain⟨hd,a,hs,hi⟩:=h;exact⟨hd,a,hs,hi.skip hc λi h1 h2=>TC hb h1 zb⟩
def tv (c:Nat)(S:List (List Rat)):v8:=(List.range c).foldl (λe c=>tz c e) ⟨S,[],1⟩
theorem Sv (c:Nat)(S:List (List Rat)):tv (c+1) S=tz c (tv c S):=by
 unfold tv;rw [yL,yI];rfl
theorem Ut {n m:Nat}{S:List (List Rat)}(h:zO S n m):∀{c:Nat},c<=m->sW n m c (zl S) (tv c S)
 |0,_=>sW.start h
 |c+1,hc=>by rw [Sv];exact(Ut h zb).next zb
