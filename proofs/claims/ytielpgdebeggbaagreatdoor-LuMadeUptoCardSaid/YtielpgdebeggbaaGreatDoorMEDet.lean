/- What this claim leans on. -/
import Derived.Test.YtielpgdebeggbaaGreatDoorMVTimes
set_option linter.unusedVariables false
set_option linter.unusedSimpArgs false
namespace Go.Proofs.YtielpgdebeggbaaGreatDoor
open Go Go.RowKit Go.Proofs.Tryz
set_option maxHeartbeats 16000000
variable {L:List (Int×Int)}{ld:List Nat}{c j k m n:Nat}{a s:Nat->Nat->Rat}{p:Rat}{w:World}{A:ze}
def sg (c:Nat):Rat:=if c%2=0 then 1 else -1
def y3 (c j:Nat):Nat:=if j<c then j else j+1
def xo (M:Nat->Nat->Rat)(c:Nat):Nat->Nat->Rat:=λi j=>M (i+1) (y3 c j)
def zB:Nat->(Nat->Nat->Rat)->Rat
 |0,_=>1
 |n+1,M=>zt (n+1) λc=>sg c*M 0 c*zB n (xo M c)
theorem vA (n:Nat)(M:Nat->Nat->Rat):zB (n+1) M=zt (n+1) λc=>sg c*M 0 c*zB n (xo M c):=rfl
theorem TK (c:Nat):sg (c+1)= -sg c:=by
 unfold sg;by_cases h:c%2=0
 ·rw [if_neg za,if_pos h]
 ·rw [if_pos za,if_neg h,Rat.neg_neg]
theorem oh (hj:j<n):y3 c j<n+1:=by unfold y3;split<;>omega
theorem js (c j:Nat):y3 c j≠c:=by unfold y3;split<;>omega
theorem vQ:∀{n:Nat} {M N:Nat->Nat->Rat},(∀i,i<n->∀j,j<n->M i j=N i j)->zB n M=zB n N
 |0,_,_,_=>rfl
 |n+1,M,N,h=>by
   rw [vA,vA];refine zU λc hc=>?_;rw [h 0 za c hc,vQ (n:=n) (M:=xo M c) (N:=xo N c) λi hi j hj=>h (i+1) za _ (oh hj)]
def zP (M:Nat->Nat->Rat)(k:Nat)(v:Nat->Rat):Nat->Nat->Rat:=λi j=>if j=k then v i else M i j
theorem vu (M:Nat->Nat->Rat)(k:Nat)(v:Nat->Rat)(i:Nat):zP M k v i k=v i:=if_pos rfl
theorem vz (M:Nat->Nat->Rat){k j:Nat}(h:j≠k)(v:Nat->Rat)(i:Nat):zP M k v i j=M i j:=if_neg h
theorem jL (M:Nat->Nat->Rat)(k:Nat):zP M k (λi=>M i k)=M:=by
 funext i j;unfold zP;split
 ·next h=>rw [h]
 ·rfl
theorem Zk (M:Nat->Nat->Rat)(k:Nat)(v:Nat->Rat):xo (zP M k v) k=xo M k:=by
 funext i j;show(if y3 k j=k then _ else _)=_;rw [if_neg (js k j)];rfl
def tT (c k:Nat):Nat:=if k<c then k else k - 1
theorem Yo (h:k≠c):y3 c j=k↔j=tT c k:=by unfold y3 tT;split<;>split<;>omega
theorem jC (h:k≠c)(hk:k<n+1)(hc:c<n+1):tT c k<n:=by unfold tT;split<;>omega
theorem Yg {M:Nat->Nat->Rat}(h:k≠c)(v:Nat->Rat):xo (zP M k v) c=zP (xo M c) (tT c k) (λi=>v (i+1)):=by
 funext i j
 show(if y3 c j=k then _ else _)=(if j=tT c k then _ else _);by_cases e:j=tT c k
 ·rw [if_pos e,if_pos ((Yo h).2 e)]
 ·rw [if_neg e,if_neg λq=>e ((Yo h).1 q)];rfl
theorem ko:∀{n:Nat} (M:Nat->Nat->Rat) {k:Nat} (_:k<n) (a b:Rat) (u v:Nat->Rat),zB n (zP M k λi=>a*u i+b*v i)=a*zB n (zP M k u)+b*zB n (zP M k v)
 |n+1,M,k,hk,a,b,u,v=>by
   rw [vA,vA,vA,wJ,wJ,<-sx];refine zU λc hc=>?_;by_cases h:k=c
   ·subst h;rw [Zk,Zk,Zk];simp only [zP,if_true]
    grind
   ·rw [Yg h,Yg h,Yg h,ko (xo M c) (jC h hk hc) a b (λi=>u (i+1)) (λi=>v (i+1))];simp only [zP,if_neg (λe:c=k=>h e.symm)]
    grind
theorem fV {n:Nat}(M:Nat->Nat->Rat){k:Nat}(hk:k<n)(a:Rat)(u:Nat->Rat):zB n (zP M k λi=>a*u i)=a*zB n (zP M k u):=by
 have h:=ko M hk a 0 u u;rw [XL,xY] at h;rw [<-h];congr 2
 funext i
 grind
theorem jP {n:Nat}(M:Nat->Nat->Rat){k:Nat}(hk:k<n)(f:Nat->Rat)(u:Nat->Nat->Rat):∀q,zB n (zP M k λi=>zt q λl=>f l*u l i)=zt q λl=>f l*zB n (zP M k (u l))
 |0=>by
   have:=fV M hk 0 (λ_=>0);have e:(λi:Nat=>(0:Rat)*(λ_=>0) i)=λ_=>0:=by funext i;exact XL _
   rw [e] at this;show zB n (zP M k λi=>0)=0;rw [this,XL]
 |q+1=>by
   rw [x4,<-jP M hk f u q];have:=ko M hk 1 (f q) (λi=>zt q λl=>f l*u l i) (u q);rw [XJ] at this;rw [<-this];congr 2
   funext i
   rw [x4,XJ]
theorem UI {f:Nat->Rat}{k:Nat}(h2:f k+f (k+1)=0):∀{n:Nat},k+1<n->(∀c,c<n->c≠k->c≠k+1->f c=0)->zt n f=0
 |n+1,hk,h1=>by
   rw [x4];by_cases e:n=k+1
   ·subst e;rw [x4,vS λi hi=>h1 i za za za,YQ,h2]
   ·rw [UI h2 (n:=n) za (λc hc=>h1 c za),h1 n za za za,xY]
theorem Zm:∀{n:Nat} {M:Nat->Nat->Rat} {k:Nat},k+1<n->(∀i,i<n->M i k=M i (k+1))->zB n M=0
 |n+1,M,k,hk,h=>by
   rw [vA];have h1:∀c,c<n+1->c≠k->c≠k+1->sg c*M 0 c*zB n (xo M c)=0:=λc hc e1 e2=>by
    have:zB n (xo M c)=0:=by
     refine Zm (k:=tT c k) ?_ λi hi=>?_
     ·unfold tT;split<;>omega
     ·have a1:y3 c (tT c k)=k:=(Yo (Ne.symm e1)).2 rfl;have a2:y3 c (tT c k+1)=k+1:=by unfold y3 tT;split<;>split<;>omega
      show M (i+1) (y3 c (tT c k))=M (i+1) (y3 c (tT c k+1));rw [a1,a2];exact h (i+1) za
    rw [this,xL]
   have h2:sg k*M 0 k*zB n (xo M k)+sg (k+1)*M 0 (k+1)*zB n (xo M (k+1))=0:=by
    have:zB n (xo M k)=zB n (xo M (k+1)):=vQ λi hi j hj=>by
     show M (i+1) (y3 k j)=M (i+1) (y3 (k+1) j);by_cases e:j=k
     ·subst e;have a1:y3 j j=j+1:=by unfold y3;split<;>omega
      have a2:y3 (j+1) j=j:=by unfold y3;split<;>omega
      rw [a1,a2];exact(h (i+1) za).symm
     ·have:y3 k j=y3 (k+1) j:=by unfold y3;split<;>split<;>omega
      rw [this]
    rw [this,TK,<-h 0 za]
    grind
   exact UI (f:=λc=>sg c*M 0 c*zB n (xo M c)) h2 za h1
theorem Pq (M:Nat->Nat->Rat){k:Nat}(hk:k+1<n)(u v:Nat->Rat):zB n (zP (zP M k u) (k+1) v)= -zB n (zP (zP M k v) (k+1) u):=by
 have z:∀x:Nat->Rat,zB n (zP (zP M k x) (k+1) x)=0:=λx=>Zm hk λi _=>by
  rw [vz _ za,vu,vu]
 have sw:∀x y:Nat->Rat,zP (zP M k x) (k+1) y=zP (zP M (k+1) y) k x:=λx y=>by
  funext i j;simp only [zP];by_cases a:j=k+1
  ·rw [if_pos a,if_neg za,if_pos a]
  ·rw [if_neg a];by_cases b:j=k
   ·rw [if_pos b,if_pos b]
   ·rw [if_neg b,if_neg b,if_neg a]
 have e1:=z (λi=>1*u i+1*v i);rw [ko _ hk,sw,sw,ko _ (by omega:k<n),ko _ (by omega:k<n),<-sw,<-sw,<-sw,<-sw,z,z] at e1
 grind
theorem ZU:∀(d:Nat) {n:Nat} {M:Nat->Nat->Rat} {k:Nat},k+1+d<n->(∀i,i<n->M i k=M i (k+1+d))->zB n M=0
 |0,n,M,k,hk,h=>Zm hk h
 |d+1,n,M,k,hk,h=>by
   have e:M=zP (zP M (k+1+d) λi=>M i (k+1+d)) (k+1+d+1) λi=>M i (k+1+d+1):=by rw [jL,jL]
   rw [e,Pq M za,ZU d (k:=k) za,Rat.neg_zero];intro i hi;rw [vz _ za,vz _ za,vz _ za,vu];exact h i hi
theorem iF {M:Nat->Nat->Rat}{l:Nat}(hk:k<n)(hl:l<n)(hne:k≠l):zB n (zP M k λi=>M i l)=0:=by
 rcases xG k l with h|h
 ·obtain⟨d,rfl⟩:∃d,l=k+1+d:=⟨l - k - 1,za⟩;exact ZU d za λi _=>by rw [vu,vz _ za]
 ·obtain⟨d,rfl⟩:∃d,k=l+1+d:=⟨k - l - 1,za⟩;exact ZU d (k:=l) za λi _=>by rw [vz _ za,vu]
theorem Zs:∀(n:Nat) {M:Nat->Nat->Rat},(∀i,i<n->M i n=0)->zB (n+1) M=M n n*zB n M
 |0,M,_=>by
   show zt 1 _=_;rw [x4,eF];show 0+1*M 0 0*1=M 0 0*1
   grind
 |n+1,M,h=>by
   rw [vA,x4,h 0 za,xL,XL,xY,vA n,wJ];refine zU λc hc=>?_;rw [Zs n (M:=xo M c) (λi hi=>by
    show M (i+1) (y3 c n)=0;rw [show y3 c n=n+1 by unfold y3;split<;>omega];exact h (i+1) za)]
   have:xo M c n n=M (n+1) (n+1):=by show M (n+1) (y3 c n)=_;rw [show y3 c n=n+1 by unfold y3;split<;>omega]
   rw [this]
   grind
structure xt (n m c:Nat)(a s:Nat->Nat->Rat)(ld:List Nat)(p:Rat):Prop where
 len:ld.length<=n
 cm:c<=m
 up:∀l l',l<l'->l'<ld.length->ld.getD l 0<ld.getD l' 0
 lt:∀l,l<ld.length->ld.getD l 0<c
 ne:p≠0
 piv:∀l,l<ld.length->∀i,i<n->s i (ld.getD l 0)=if i=l then p else 0
 low:∀i,ld.length<=i->i<n->∀j,j<c->s i j=0
 fore:∀l,l<ld.length->∀j,j<ld.getD l 0->s l j=0
 back:∀i,i<n->∀j,j<m->p*a i j=zt ld.length (λl=>a i (ld.getD l 0)*s l j)+if ld.length<=i then s i j else 0
 det:p=zB ld.length λi j=>a i (ld.getD j 0)
theorem xt.start (n m:Nat)(a:Nat->Nat->Rat):xt n m 0 a a [] 1 where
 len:=qM _
 cm:=qM _
 up:=λl l' _ h=>by cases h
 lt:=λl h=>by cases h
 ne:=by decide+kernel
 piv:=λl h=>by cases h
 low:=λi _ _ j h=>by cases h
 fore:=λl h=>by cases h
 back:=λi _ j _=>by
  show 1*a i j=zt 0 _+if 0<=i then a i j else 0
  rw [if_pos (qM _),eF];grind
 det:=rfl
theorem xt.skip (h:xt n m c a s ld p)(hc:c<m)(h0:∀i,ld.length<=i->i<n->s i c=0):xt n m (c+1) a s ld p:=
 { h with
  cm:=hc
  lt:=λl hl=>Nat.lt_succ_of_lt (h.lt l hl)
  low:=λi h1 h2 j hj=>by
   rcases xG j c with e|e
   ·exact h.low i h1 h2 j e
   ·rw [show j=c by omega];exact h0 i h1 h2}
def wF (r q:Nat)(s:Nat->Nat->Rat):Nat->Nat->Rat:=λi j=>if i=r then s q j else if i=q then -s r j else s i j
theorem Ya (k:Nat)(f:Nat->Rat):zt k (λi=> -f i)= -zt k f:=by
 have:=wJ k (-1) f;rw [show(-1:Rat)*zt k f= -zt k f by grind] at this;rw [this];exact zU λi _=>by grind
theorem xt.swap (h:xt n m c a s ld p){q:Nat}(h1:ld.length<q)(h2:q<n):xt n m c (wF ld.length q a) (wF ld.length q s) ld p where
 len:=h.len
 cm:=h.cm
 up:=h.up
 lt:=h.lt
 ne:=h.ne
 piv:=λl hl i hi=>by
  unfold wF;by_cases e1:i=ld.length
  ·rw [if_pos e1,if_neg za,h.piv l hl q h2,if_neg za]
  ·rw [if_neg e1];by_cases e2:i=q
   ·rw [if_pos e2,if_neg za,h.piv l hl ld.length za,if_neg za,Rat.neg_zero]
   ·rw [if_neg e2,h.piv l hl i hi]
 low:=λi hi d j hj=>by
  unfold wF
  split
  ·exact h.low q za h2 j hj
  ·split
   ·rw [h.low ld.length (qX _) za j hj,Rat.neg_zero]
   ·exact h.low i hi d j hj
 fore:=λl hl j hj=>by
  unfold wF;rw [if_neg za,if_neg za];exact h.fore l hl j hj
 back:=λi hi j hj=>by
  have hs:∀i,zt ld.length (λl=>wF ld.length q a i (ld.getD l 0)*wF ld.length q s l j)=zt ld.length (λl=>wF ld.length q a i (ld.getD l 0)*s l j):=λi=>zU λl hl=>by
   rw [show wF ld.length q s l j=s l j by unfold wF;rw [if_neg za,if_neg za]]
  rw [hs];by_cases e1:i=ld.length
  ·subst e1;have:=h.back q h2 j hj;rw [if_pos za] at this⊢;simp only [wF,if_true];exact this
  ·by_cases e2:i=q
   ·subst e2;have:=h.back ld.length za j hj;rw [if_pos za] at this⊢;simp only [wF,if_neg e1,if_true];have e:zt ld.length (λl=> -a ld.length (ld.getD l 0)*s l j)= -zt ld.length (λl=>a ld.length (ld.getD l 0)*s l j):=by
     rw [<-Ya];exact zU λl _=>by grind
    rw [e]
    grind
   ·have:=h.back i hi j hj;simp only [wF,if_neg e1,if_neg e2];exact this
 det:=by
  rw [h.det];exact vQ λi hi j _=>by unfold wF;rw [if_neg za,if_neg za]
def r6 (k c:Nat)(p:Rat)(s:Nat->Nat->Rat):Nat->Nat->Rat:=λi j=>if i=k then s k j else p⁻¹*(s k c*s i j+ -s i c*s k j)
theorem jF {l:Nat}(h:l<ld.length):(ld++[c]).getD l 0=ld.getD l 0:=by
 rw [qQ,qQ,QP h]
theorem iD (ld:List Nat)(c:Nat):(ld++[c]).getD ld.length 0=c:=by
 rw [qQ,QJ (qX _),XK];rfl
theorem ku (ld:List Nat)(c:Nat):(ld++[c]).length=ld.length+1:=zF
theorem xt.col (h:xt n m c a s ld p){l j:Nat}(hl:l<ld.length)(hj:j<m):s l j=zB ld.length (zP (λi j=>a i (ld.getD j 0)) l λi=>a i j):=by
 have e1:=fV (n:=ld.length) (λi j=>a i (ld.getD j 0)) hl p (λi=>a i j);have e2:zB ld.length (zP (λi j=>a i (ld.getD j 0)) l λi=>p*a i j)=zB ld.length (zP (λi j=>a i (ld.getD j 0)) l λi=>zt ld.length λq=>s q j*a i (ld.getD q 0)):=vQ λi hi j' _=>by
  by_cases e:j'=l
  ·subst e;rw [vu,vu,h.back i (by have:=h.len;omega) j hj,if_neg za,xY];exact zU λq _=>YH _ _
  ·rw [vz _ e,vz _ e]
 rw [e2,jP _ hl (λq=>s q j) (λq i=>a i (ld.getD q 0))] at e1;have e3:∀q,q<ld.length->s q j*zB ld.length (zP (λi j=>a i (ld.getD j 0)) l λi=>a i (ld.getD q 0))=(s l j*p)*if q=l then 1 else 0:=λq hq=>by
  by_cases e:q=l
  ·subst e;rw [if_pos rfl,jL (λi j=>a i (ld.getD j 0)) q,<-h.det,Rat.mul_one]
  ·rw [if_neg e,iF (M:=λi j=>a i (ld.getD j 0)) hl hq (Ne.symm e),xL,xL]
 rw [zU e3] at e1;have e4:zt ld.length (λq=>(s l j*p)*if q=l then 1 else 0)=s l j*p:=by
  clear e1 e2 e3;have:∀k,l<k->zt k (λq=>(s l j*p)*if q=l then 1 else 0)=s l j*p:=by
   intro k
   induction k with
   |zero=>intro h;cases h
   |succ k ih=>
     intro hk;rw [x4];by_cases e:k=l
     ·subst e;rw [if_pos rfl,vS λi hi=>by rw [if_neg za,xL],YQ,Rat.mul_one]
     ·rw [if_neg e,xL,xY,ih za]
  exact this _ hl
 rw [e4] at e1;have:=h.ne
 grind
theorem xt.lead (h:xt n m c a s ld p)(hc:c<m)(hk:ld.length<n):s ld.length c=zB (ld.length+1) λi j=>a i ((ld++[c]).getD j 0):=by
 have hB:∀(f:Nat->Nat->Rat),(f=λi j=>a i ((ld++[c]).getD j 0))->s ld.length c=zB (ld.length+1) f:=by
  intro f hf;have d:ld.length<ld.length+1:=Nat.lt_succ_self _;have e1:=fV (n:=ld.length+1) f d p (λi=>f i ld.length);rw [jL f] at e1;have ff:∀i l,l<ld.length->f i l=a i (ld.getD l 0):=λi l hl=>by rw [hf];show a i _=_;rw [jF hl]
  have fc:∀i,f i ld.length=a i c:=λi=>by rw [hf];show a i _=_;rw [iD]
  have e2:zB (ld.length+1) (zP f ld.length λi=>p*f i ld.length)=zB (ld.length+1) (zP f ld.length λi=>1*(zt ld.length λq=>s q c*f i q)+s ld.length c*if i=ld.length then 1 else 0):=vQ λi hi j' _=>by
   by_cases e:j'=ld.length
   ·subst e;rw [vu,vu,fc,h.back i za c hc,XJ];congr 1
    ·exact zU λq hq=>by rw [ff i q hq,YH]
    ·by_cases e:i=ld.length
     ·rw [if_pos za,if_pos e,e,Rat.mul_one]
     ·rw [if_neg za,if_neg e,xL]
   ·rw [vz _ e,vz _ e]
  rw [e2,ko f d 1 (s ld.length c) (λi=>zt ld.length λq=>s q c*f i q) (λi=>if i=ld.length then 1 else 0),jP f d (λq=>s q c) (λq i=>f i q)] at e1;rw [vS λq hq=>by rw [iF d za za,xL]] at e1;rw [Zs ld.length (M:=zP f ld.length λi=>if i=ld.length then 1 else 0) (λi hi=>by rw [vu,if_neg za]),vu,if_pos rfl] at e1;have e3:zB ld.length (zP f ld.length λi=>if i=ld.length then 1 else 0)=p:=by
   rw [h.det];exact vQ λi hi j hj=>by rw [vz _ za,ff i j hj]
  rw [e3] at e1;have:=h.ne
  grind
 exact hB _ rfl
theorem xt.clear (h:xt n m c a s ld p)(hc:c<m)(hk:ld.length<n)(h0:s ld.length c≠0):xt n m (c+1) a (r6 ld.length c p s) (ld++[c]) (s ld.length c) where
 len:=by rw [ku];omega
 cm:=hc
 up:=λl l' h1 h2=>by
  rw [ku] at h2;rw [jF za];by_cases e:l'=ld.length
  ·subst e;rw [iD];exact h.lt l h1
  ·rw [jF za];exact h.up l l' h1 za
 lt:=λl hl=>by
  rw [ku] at hl;by_cases e:l=ld.length
  ·subst e;rw [iD];omega
  ·rw [jF za];exact Nat.lt_succ_of_lt (h.lt l za)
 ne:=h0
 piv:=λl hl i hi=>by
  have k:=h.ne;rw [ku] at hl;unfold r6;by_cases e:l=ld.length
  ·subst e;rw [iD];by_cases e2:i=ld.length
   ·rw [if_pos e2,if_pos e2]
   ·rw [if_neg e2,if_neg e2];grind
  ·have d:l<ld.length:=za;rw [jF d];have e3:=h.piv l d ld.length hk;rw [if_neg za] at e3;by_cases e2:i=ld.length
   ·rw [if_pos e2,if_neg za,e3]
   ·rw [if_neg e2,e3,h.piv l d i hi];by_cases e4:i=l
    ·rw [if_pos e4,if_pos e4];grind
    ·rw [if_neg e4,if_neg e4];grind
 low:=λi hi g j hj=>by
  rw [ku] at hi;unfold r6;rw [if_neg za];by_cases e:j=c
  ·subst e;grind
  ·rw [h.low i za g j za,h.low ld.length (qX _) hk j za];grind
 fore:=λl hl j hj=>by
  rw [ku] at hl;unfold r6;by_cases e:l=ld.length
  ·subst e;rw [iD] at hj;rw [if_pos rfl];exact h.low _ (qX _) hk j hj
  ·have d:l<ld.length:=za;rw [jF d] at hj;have:=h.lt l d;rw [if_neg e,h.fore l d j hj,h.low ld.length (qX _) hk j za];grind
 back:=λi hi j hj=>by
  have k:=h.ne;have e1:=h.back i hi j hj;have e2:=h.back i hi c hc;rw [ku,x4,iD];have e3:zt ld.length (λl=>a i ((ld++[c]).getD l 0)*r6 ld.length c p s l j)=p⁻¹*(s ld.length c*zt ld.length (λl=>a i (ld.getD l 0)*s l j)+ -(s ld.length j)*zt ld.length (λl=>a i (ld.getD l 0)*s l c)):=by
   rw [wJ,wJ,<-sx,wJ];refine zU λl hl=>?_;rw [jF hl];unfold r6;rw [if_neg za]
   grind
  have e4:r6 ld.length c p s ld.length j=s ld.length j:=if_pos rfl;rw [e3,e4];generalize zt ld.length (λl=>a i (ld.getD l 0)*s l j)=x at*;generalize zt ld.length (λl=>a i (ld.getD l 0)*s l c)=y at*;by_cases e5:ld.length+1<=i
  ·rw [if_pos e5];rw [if_pos za] at e1 e2;unfold r6;rw [if_neg za];generalize a i j=u at*;generalize a i c=v at*;generalize s i j=z at*;generalize s i c=t at*;generalize s ld.length j=r at*;generalize s ld.length c=q at*
   grind
  ·rw [if_neg e5];by_cases e6:i=ld.length
   ·subst e6;rw [if_pos (qX _)] at e1 e2
    grind
   ·rw [if_neg za] at e1 e2
    grind
 det:=by
  rw [ku];exact h.lead hc hk
set_option maxRecDepth 100000
theorem S0 {p:Int}(hT:zu w)(hp:wY p):
  Calls prog 68 #[.agg #[.int .i64 p,.int .i64 0]] w (yj w (sM p 0)):=by
 rw [pS];obtain⟨j,k⟩:=hp;have HT:=zk w (λw' hb=>hT.on hb);obtain⟨d,g,h,bz⟩:=yv w 98 52 #[.int .i64 p,.int .i64 0] #[.bool false,.slice none 0 0,.slice none 0 0];obtain⟨g0,g1⟩:=g.c2;have HB:=zb d;have HK:=zb h;clear hT d g h bz;go_enter func68,ntmps68;go_wp2_with fail;clear g0 g1;(with_reducible refine(tX p _ (HT.o _ HB.o) j k).mono ?_);rintro e w2 ⟨b2,A2,n2,c2,E2,k2,f2,rfl,i,hb⟩;have a:=zg hb HK.o;obtain⟨sc0,sf0,sc1,sf1,sc2,sf2⟩:=y6 a (.bool b2) (.slice A2 n2 c2);obtain⟨r0,r1,r2⟩:=(xf a (.bool b2) (.slice A2 n2 c2) (.slice E2 k2 f2)).c3;have HG:=zb (va i a (zc HB.o hb) za);clear hb a i HB HK;go_wp2;refine bodyPost_ret (v:=.agg #[.bool b2,.slice A2 n2 c2,.slice E2 k2 f2]) (by simp [results,results68,go_sem,r0,r1,r2]) rfl ?_;exact HG.o
theorem S3 {p q:Int}(hT:zu w)(hp:wY p)(hq:wY q)(h0:q≠0):
  Calls prog 68 #[.agg #[.int .i64 p,.int .i64 q]] w (yj w (sM p q)):=by
 rw [jr h0];obtain⟨k,m⟩:=hp;obtain⟨n,o⟩:=hq;have H0:=zb h0;have hd0:(q==0)=false:=by rw [beq_eq_false_iff_ne];exact h0
 have HT:=zk w (λw' hb=>hT.on hb);obtain⟨d,g,h,bz⟩:=yv w 98 52 #[.int .i64 p,.int .i64 q] #[.bool false,.slice none 0 0,.slice none 0 0];obtain⟨g0,g1⟩:=g.c2;have HB:=zb d;have HK:=zb h;clear hT d g h bz h0;go_enter func68,ntmps68;go_wp2_with fail;clear g0 g1;(with_reducible refine(pV p q _ (HT.o _ HB.o) k m n o H0.o).mono ?_);rintro e w2 ⟨b2,A2,n2,c2,E2,k2,f2,rfl,i,hb⟩;obtain⟨s1,s2,s3⟩:=zA w2 52 #[.bool b2,.slice A2 n2 c2,.slice E2 k2 f2];obtain⟨p0,p1,p2⟩:=s2.c3;have a:=zg s1 (zg hb HK.o);have j:=i.below s1;obtain⟨sc0,sf0,sc1,sf1,sc2,sf2⟩:=y6 a (.bool b2) (.slice A2 n2 c2);obtain⟨r0,r1,r2⟩:=(xf a (.bool b2) (.slice A2 n2 c2) (.slice E2 k2 f2)).c3;have HG:=zb (va j a (zc (zc HB.o hb) s1) za);clear hb a i j HB HK s1 s2 s3;go_wp2;refine bodyPost_ret (v:=.agg #[.bool b2,.slice A2 n2 c2,.slice E2 k2 f2]) (by simp [results,results68,go_sem,r0,r1,r2]) rfl ?_;exact HG.o
theorem Ub {p q:Int}(hT:zu w)(hp:wY p)(hq:wY q):
  Calls prog 68 #[.agg #[.int .i64 p,.int .i64 q]] w (yj w (sM p q)):=by
 by_cases h0:q=0
 ·subst h0;exact S0 hT hp
 ·exact S3 hT hp hq h0
def wZ (L:List (Int×Int)):List Rat:=L.map λq=>sM q.1 q.2
theorem mY {W:World}(h:vt W A n c L):zD 1 (wZ L):=λx hx=>by
 obtain⟨q,hq,rfl⟩:=List.mem_map.1 hx;obtain⟨⟨h1,h2⟩,h3,h4⟩:=h.ints q hq;exact pR h1 h2 h3 h4
theorem iZ (L:List (Int×Int)):(wZ L).length=L.length:=QH _
def rC (w:World)(n:Nat)(xs:List Rat)(e:Ending)(w':World):Prop:=∃(A:ze) (c:Nat),e=.returned (.slice A n c)/\zR w' A n c xs/\(∀ad,A=some ad->w.heap.size<=ad.block)/\Below w.heap.size w w'
theorem RN (hT:zu w)(h:vt w A n c L):
  Calls prog 24 #[.slice A n c] w (rC w n (wZ L)):=by
 obtain⟨ai,ah,S,T,U⟩:=info_parts lL;have hn0:n<=1048576:=qH h.fits h.small;have HL:=zb h.len;have HG:zd (∀k,k<n->wY (L.getD k (0,0)).1/\wY (L.getD k (0,0)).2/\∃ad,A=some ad/\ad.block<w.heap.size/\w.cell? (ad.add (k*2))=some (.int .i64 (L.getD k (0,0)).1)/\w.cell? (ad.add (k*2+1))=some (.int .i64 (L.getD k (0,0)).2)):=λk hk=>by
  have hl:=h.len;have e:L[k]?=some (L.getD k (0,0)):=by rw [qQ,qY za];rfl
  obtain⟨h1,h2⟩:=h.ints _ (QX e);exact⟨h1,h2,h.row k _ e⟩
 have HS:zd (∀k,k<n->wZ (L.take (k+1))=wZ (L.take k)++[sM (L.getD k (0,0)).1 (L.getD k (0,0)).2]):=λk hk=>by
  have hl:=h.len;unfold wZ;rw [QG za,yO,qQ,qY za];rfl
 have HT:=zk w (λw' hb=>hT.on hb);unfold rC;clear h hT;have hB:=qZ w.heap.size w;go_enter func24,ntmps24;go_wp2_with fail
 go_loopg [3,4] (n+1) (λg sl ix wr=>∃(k:Nat) (v:Value) (vs:List Value),k<=n/\n<g+k/\ix=.int .i64 k/\v=sl/\y8 zo wr w.heap.size 52 v (wZ (L.take k)) vs/\Below w.heap.size w wr)
 case atStart=>exact⟨0,_,_,qM _,za,rfl,rfl,y8.nil _ _ _,hB⟩
 case round=>
  clear hB;obtain⟨k,v,vs,hkn,hg,rfl,rfl,a,hB⟩:=hrel;by_cases hlt:k<n
  ·obtain⟨i,m,ad,rfl,hadb,o,s⟩:=HG.o k hlt;have H:=zb (HS.o k hlt);obtain⟨q,hq⟩:∃q,L.getD k (0,0)=q:=⟨_,rfl⟩;rw [hq] at i m o s H;obtain⟨q1,q2⟩:=q;dsimp only at i m o s H;have o:=zw hB o;have s:=eU (zw hB s);have ag:decide ((k:Int)<(n:Int))=true:=decide_eq_true za;have i1:(0:Int)<=(k:Int):=za;have i2:(k:Int)<(n:Int):=za;have O:=zb a;have J:=zb hB;have Y:=zb i;have Z:=zb m;have B:(wZ (L.take k)).length=k:=by rw [iZ,qE,HL.o];omega
   have M:=zb B;clear a hB i m hq B;go_wp2_with fail;(with_reducible refine(Ub (HT.o _ J.o) Y.o Z.o).mono ?_);rintro e w5 ⟨b5,B5,m5,d5,E5,u5,f5,rfl,R,hb⟩;obtain⟨t1,t2,_⟩:=zA w5 52 #[.bool b5,.slice B5 m5 d5,.slice E5 u5 f5];obtain⟨aj,ak,al⟩:=t2.c3;have I:=zc hb t1;have a:=y8.below z6 O.o I;have HX:=zb (R.below t1);have HB:=zb (zc J.o I);have t:∀j u,[Value.bool b5,.slice B5 m5 d5,.slice E5 u5 f5][j]?=some u->(w5.alloc (.cells #[.bool b5,.slice B5 m5 d5,.slice E5 u5 f5] 52)).cell? ((⟨w5.heap.size,0,none⟩:Addr).add j)=some u:=λj u hu=>by
    rw [xv]
    match j,hu with
    |0,hu=>simp at hu;subst hu;exact t2.cell 0
    |1,hu=>simp at hu;subst hu;exact t2.cell 1
    |2,hu=>simp at hu;subst hu;exact t2.cell 2
   have G:=zb t;have P:zd (∀u ∈ [Value.bool b5,.slice B5 m5 d5,.slice E5 u5 f5],u.oneCell'=true):=by intro u hu;simp at hu;rcases hu with rfl|rfl|rfl<;>rfl
   have aa:zd (∀u ∈ [Value.bool b5,.slice B5 m5 d5,.slice E5 u5 f5],vW u):=by intro u hu y z;simp at hu;rcases hu with rfl|rfl|rfl<;>(intro h9;cases h9)
   have ae:zd (∀u ∈(Value.agg #[.bool false,.slice none 0 0,.slice none 0 0]).cells.toList,vW u):=by intro u hu y z;simp [Value.cells] at hu;rcases hu with rfl|rfl<;>(intro h9;cases h9)
   have K:zd (w.heap.size<=(w5.alloc (.cells #[.bool b5,.slice B5 m5 d5,.slice E5 u5 f5] 52)).heap.size):=HB.o.size;have D:=a.own;rw [M.o] at D;have Q:=zb D;have N:=zb a.nou;have ac:=zb a;have ab:=zb (λr (h:v.ownBlock=some r)=>a.own.lt r h);clear hb I R t a t1 t2 o s aj ak al D;go_wp2_with (at_builtin;go_loud (refine Zi _ rfl (.tmp 11) (.tmp 17) 41 rfl w.heap.size 52 ai (.agg #[.bool false,.slice none 0 0,.slice none 0 0]) 3 56 underlying41 ah S T U rfl zf v k vs rfl Q.o ⟨w5.heap.size,0,none⟩ 1 1 [.bool b5,.slice B5 m5 d5,.slice E5 u5 f5] rfl rfl G.o P.o (by unfold maxLen;omega) za K.o N.o ae.o aa.o ?_;intro v' w8 E d af C;have F:=zb (y8.grow (n:=k+1) z6 ac.o HX.o E (by rw [M.o]) d C);have X:=zb (HB.o.grown d K.o (λr hr=>(ab.o r hr).1));clear E d af C));rw [<-H.o] at F;go_roundg (n - k)
   case measure=>omega
   case rel=>exact⟨k+1,_,_,za,za,by go_num,rfl,F.o,X.o⟩
  ·have ag:decide ((k:Int)<(n:Int))=false:=decide_eq_false za;have hk:k=n:=za;subst hk;rw [qV (by rw [HL.o];exact qX _)] at a;have B:(wZ L).length=k:=by rw [iZ];exact HL.o
   obtain⟨A1,c1,rfl,hv,hf⟩:=a.shape;rw [B] at hv⊢;have HV:=zb hv;have HF:=zb hf;have V:=zb hB;clear a hv hB B hf;go_wp2;go_ret;exact⟨A1,c1,rfl,HV.o,HF.o,V.o⟩
theorem UM (n m:Nat)(f:Nat->Nat->Rat):(wg n m f).length=n:=by simp [wg]
theorem UL (f:Nat->Nat->Rat){r:Nat}(h:r<n):(wg n m f)[r]?=some ((List.range m).map (f r)):=by
 unfold wg;rw [qW,xB h];rfl
theorem Vt (m:Nat)(f:Nat->Rat):((List.range m).map f).length=m:=zF
theorem Vs (f:Nat->Rat){c:Nat}(h:c<m):((List.range m).map f)[c]?=some (f c):=by
 rw [qW,xB h];rfl
theorem St {g:Nat}{M:List (List Rat)}(h:wn (yg zo) w 41 g n M)(hd:zM M n m)(hn:n<=64)(hm:m<=64):xm w (some ⟨g,0,none⟩) n n m M:=⟨hd,qX _,za,hn,hm,h.rows,λad e=>by obtain⟨cs,hk,_⟩:=h.blk;injection e with e;subst e;exact⟨cs,hk⟩⟩
def lK (f:Nat->Nat->Rat)(F:FuncId)(cap:Array Value)(n m:Nat)(w:World):Prop:=
 (∀ (args : Array Value) (w' : World),Sem.run prog (callFunc F args) w' = .ok (.enter F args) w') ∧
   ∀r c,r<n->c<m->∀w',Below w.heap.size w w'->Calls prog F (#[.int .i64 (r:Int),.int .i64 (c:Int)]++cap) w' (yj w' (f r c))
theorem Ye {K:Nat}(f:Nat->Nat->Rat)(F:FuncId)(cap:Array Value)(n m:Nat)(w:World)(hT:zu w)(hG:lK f F cap n m w)(hS:∀r c,r<n->c<m->zn K (f r c))(hn:n<=64:=by omega)(hm:m<=64:=by omega)(hK:K+2<=67108864:=by omega):
  Calls prog 82 #[.int .i64 (n:Int),.int .i64 (m:Int),.func (.func F) #[] cap] w (sv w n m (wg n m f)):=by
 obtain⟨hEn,hF⟩:=hG;have HF:=zb hF;have HT:=zk w (λw' hb=>hT.on hb);have P:=zb (UM n m f);have O:zd (∀r,r<n->(wg n m f)[r]?=some ((List.range m).map (f r))):=λr hr=>UL f hr;have ac:zd (∀r c,c<m->((List.range m).map (f r))[c]?=some (f r c)):=λr c hc=>Vs (f r) hc;have ah:zd (∀r,((List.range m).map (f r)).length=m):=λr=>Vt m (f r);have al:zd (∀r,r<n->zD K ((List.range m).map (f r))):=λr hr x hx=>by
  obtain⟨c,hc,rfl⟩:=List.mem_map.1 hx;exact hS r c hr (List.mem_range.1 hc)
 have ab:=zb (iP n m f);obtain⟨E,L⟩:∃E:Nat->List Rat,(λr=>(List.range m).map (f r))=E:=⟨_,rfl⟩;have C:∀r,(List.range m).map (f r)=E r:=λr=>by rw [<-L]
 simp only [C] at O ac ah al;obtain⟨M,hM⟩:∃M,wg n m f=M:=⟨_,rfl⟩;rw [hM] at P O ab⊢;obtain⟨Z,hZ⟩:=nA m za;have HMK:∀W,(Instr.makeSlice 41 (.int .i64 (m:Int)) (.int .i64 (m:Int))).run prog W=.ok (.slice (some ⟨W.heap.size,0,none⟩) m m) (W.alloc (.cells Z 52)):=λW=>(hZ W).1;have aj:=zb (λW=>(hZ W).2);obtain⟨Y,hY⟩:=cV n za;have ai:∀W,(Instr.makeSlice 26 (.int .i64 (n:Int)) (.int .i64 (n:Int))).run prog W=.ok (.slice (some ⟨W.heap.size,0,none⟩) n n) (W.alloc (.cells Y 41)):=λW=>(hY W).1;have A:=zb (λW=>(hY W).2);obtain⟨b1,b2,b3,b4,b5⟩:=xd w 28 41 28 #[.slice none 0 0,.int .i64 0] Y #[.slice (some ⟨w.heap.size+1,0,none⟩) n n,.int .i64 (m:Int)];clear hT hF hS L C hM hZ hY;unfold sv;have i0:(0:Int)<=(n:Int):=za;have i1:(0:Int)<=(m:Int):=za;go_enter func82,ntmps82;go_wp2_with fail;have a:wn (yg zo) (((w.alloc (.cells #[.slice none 0 0,.int .i64 0] 28)).alloc (.cells Y 41)).alloc (.cells #[.slice (some ⟨w.heap.size+1,0,none⟩) n n,.int .i64 (m:Int)] 28)) 41 (w.heap.size+1) n (vC [] M n 0):=by
  have h1:=A.o (w.alloc (.cells #[.slice none 0 0,.int .i64 0] 28));have e1:(w.alloc (.cells #[.slice none 0 0,.int .i64 0] 28)).heap.size=w.heap.size+1:=zF;rw [e1] at h1;rw [sV];exact h1.below (xe z6) (zA _ _ _).1
 clear b3 A ai;obtain⟨g0,Q⟩:∃g,w.heap.size=g:=⟨_,rfl⟩;have a1:w.heap.size<=g0:=za;rw [Q] at a b1 b2 b4 b5⊢;generalize ((w.alloc (.cells #[.slice none 0 0,.int .i64 0] 28)).alloc (.cells Y 41)).alloc (.cells #[.slice (some ⟨g0+1,0,none⟩) n n,.int .i64 (m:Int)] 28)=W1 at*;rw [<-Q] at b1;clear Q
 go_loopg [18] (n+1) (λg ix wr=>∃(k:Nat),k<=n/\n<g+k/\ix=.int .i64 k/\wn (yg zo) wr 41 (g0+1) n (vC [] M n k)/\Below w.heap.size w wr/\zh wr g0 28 #[.slice none 0 0,.int .i64 0]/\zh wr (g0+1+1) 28 #[.slice (some ⟨g0+1,0,none⟩) n n,.int .i64 (m:Int)])
 case atStart=>exact⟨0,qM _,za,rfl,a,b1,b2,b4⟩
 case round=>
  clear a b1 b2 b4 b5;obtain⟨k,hkn,hg,rfl,a,hB,y,G⟩:=hrel;obtain⟨wo,a2⟩:∃wo,wo=wr:=⟨_,rfl⟩;subst a2;by_cases hlt:k<n
  ·have az:decide ((k:Int)<(n:Int))=true:=decide_eq_true za;have i2:(0:Int)<=(k:Int):=za;have i3:(k:Int)<(n:Int):=za;have hg1:=a.lt;have ak:=zb a;have HB:=zb hB;have av:=zb y;have aw:=zb G;have I:=zb (ac.o k);have t:=zb (ah.o k);have J:=zb (al.o k hlt);have H:=zb (O.o k hlt);obtain⟨R,hR⟩:∃R,E k=R:=⟨_,rfl⟩;rw [hR] at I t J H;clear a hB y G hR;go_wp2_with fail;have i:=aj.o wo;have d:Below wo.heap.size wo (wo.alloc (.cells Z 52)):=(qZ _ wo).alloc (qX _) _;rw [<-sV 0 R m] at i;obtain⟨gr,am⟩:∃g,wo.heap.size=g:=⟨_,rfl⟩;have a3:wo.heap.size<=gr:=za;rw [am] at i⊢;generalize wo.alloc (.cells Z 52)=W2 at*;clear am
   go_loopg [25] (m+1) (λg jx wr=>∃(j:Nat),j<=m/\m<g+j/\jx=.int .i64 j/\yf wr gr m (vC 0 R m j)/\Below wo.heap.size wo wr)
   case atStart=>exact⟨0,qM _,za,rfl,i,d⟩
   case round=>
    clear i d;obtain⟨j,hjm,hg2,rfl,i,d⟩:=hrel;by_cases hjl:j<m
    ·have a0:decide ((j:Int)<(m:Int))=true:=decide_eq_true za;have i4:(0:Int)<=(j:Int):=za;have i5:(j:Int)<(m:Int):=za;have ae:=zb i;have N:=zb d;have au:=zb (I.o j hjl);clear i d;go_wp2_with fail;refine(HF.o k j hlt hjl _ (zc HB.o N.o)).mono ?_;rintro e w3 ⟨b3,A3,n3,c3,E3,k3,f3,rfl,ao,hb⟩;have S:=ae.o.keep hb;have T:=wC.set_ z6 S hjl ao;rw [sR 0 R m j t.o hjl _ au.o] at T;obtain⟨q0,q1,q2,X,aa,a4,a5,sc2,sf2⟩:=S.ready hjl (.bool b3) (.slice A3 n3 c3);have ax:=zb T;have aq:=zb (jE (j*3) (j*3+1) (j*3+2) (.bool b3) (.slice A3 n3 c3) (.slice E3 k3 f3) a3 (zc N.o hb));clear S T hb ao ae N;go_wp2;go_roundg (m - j)
     case measure=>omega
     case rel=>exact⟨j+1,za,za,by go_num,ax.o,aq.o⟩
    ·have hj:j=m:=za;subst hj;have a0:decide ((j:Int)<(j:Int))=false:=zF;have HV:=zb (yt (sQ 0 R j t.o▸i));have ap:=zg d aw.o;have h:=zb (ak.o.below (xe z6) d);have z:=zb (zc HB.o d);have o:=zb (zg d av.o);have s:=zb ap;obtain⟨p0,p1⟩:=ap.c2;have u:=(qZ wr.heap.size wr).drew;clear i d;go_wp2_with fail;refine rg (zj p0 zO) (λhHeld=>?_);clear p0 p1;have HV:=zb (HV.o.keep u);have h:=zb (h.o.below (xe z6) u);have z:=zb (zc z.o u);have o:=zb (zg u o.o);have s:=zb (zg u s.o);clear u;generalize wr.drew=D at*;refine tk 0 ?_;refine tk 1 ?_;refine tk 2 ?_;refine tk 3 ?_;refine rc 4 (λKK B=>?_);go_simp;(with_reducible refine(UR (HT.o _ z.o) HV.o J.o).mono ?_);rintro e w5 ⟨g5,rfl,hg5,an,hb⟩;refine B.out _ _ (Cs.below hHeld hb) (λhHeld=>?_);clear B KK;have U:=h.o.below (xe z6) hb;have V:=wn.set_ (xe z6) U hlt (yt an) t.o;rw [sR [] M n k P.o hlt _ H.o] at V;obtain⟨q0,X,aa⟩:=U.ready hlt;have hne:g0+1+1≠g0+1:=za;have ay:=zb V;have ar:=zb (zQ (p:=⟨g0+1,k,none⟩) (.slice (some ⟨g5,0,none⟩) j j) (show w.heap.size<=g0+1 by omega) (zc z.o hb));have af:=zb (zh.far (p:=⟨g0+1,k,none⟩) (zg hb o.o) (by show g0≠g0+1;omega) (.slice (some ⟨g5,0,none⟩) j j));have ag:=zb (zh.far (p:=⟨g0+1,k,none⟩) (zg hb s.o) (by show g0+1+1≠g0+1;omega) (.slice (some ⟨g5,0,none⟩) j j));clear hb U V an h z o s HV;refine tk 5 ?_;refine rc 6 (λKK B=>?_);go_simp;refine B.out _ _ ?_ (λhHeld=>?_)
     ·refine Cs.far hHeld ((zT.refl (g0+1) _).set_ k _) ⟨?_,trivial⟩;show g0+1+1≠g0+1;omega
     clear B KK;refine zV ?_;clear hHeld X aa;go_wp2;go_roundg (n - k)
     case measure=>omega
     case rel=>exact⟨k+1,za,za,by go_num,ay.o,ar.o,af.o,ag.o⟩
  ·have hk:k=n:=za;subst hk;have az:decide ((k:Int)<(k:Int))=false:=zF;have HM:=zb (St (sQ [] M k P.o▸a) ab.o hn hm);obtain⟨p0,p1⟩:=G.c2;obtain⟨X,aa,a4,a5⟩:=uH y (.slice (some ⟨g0+1,0,none⟩) k k);obtain⟨r0,r1⟩:=(uG y (.slice (some ⟨g0+1,0,none⟩) k k) (.int .i64 (m:Int))).c2;have HG:=zb (fe HM.o (λad e=>by injection e with e;subst e;show g0<g0+1;omega) y hB a1);unfold sv at HG;clear a hB y G;go_wp2;refine bodyPost_ret (v:=.agg #[.slice (some ⟨g0+1,0,none⟩) k k,.int .i64 (m:Int)]) (by simp [results,results82,go_sem,r0,r1]) rfl ?_;exact HG.o
