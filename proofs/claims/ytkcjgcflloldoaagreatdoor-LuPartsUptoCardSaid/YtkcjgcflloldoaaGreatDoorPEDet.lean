/- What this claim leans on. -/
import Derived.Test.YtkcjgcflloldoaaGreatDoorPMMath
import Derived.Test.YtkcjgcflloldoaaGreatDoorPR7Ref
set_option linter.unusedVariables false
set_option linter.unusedSimpArgs false
namespace Go.Proofs.YtkcjgcflloldoaaGreatDoor
open Go Go.RowKit Go.Proofs.Tryz
set_option maxHeartbeats 16000000
variable {cs:Array Value}{b:Bool}{z:Int}{ld:List Nat}{B K c g j k m n x:Nat}{a s:Nat->Nat->Rat}{p:Rat}{t:TypeId}{w w':World}{T:World->Prop}{A:ze}
def sg (c:Nat):Rat:=if c%2=0 then 1 else -1
def y8 (c j:Nat):Nat:=if j<c then j else j+1
def y7 (M:Nat->Nat->Rat)(c:Nat):Nat->Nat->Rat:=λi j=>M (i+1) (y8 c j)
def zD:Nat->(Nat->Nat->Rat)->Rat
 |0,_=>1
 |n+1,M=>zv (n+1) λc=>sg c*M 0 c*zD n (y7 M c)
theorem vK (n:Nat)(M:Nat->Nat->Rat):zD (n+1) M=zv (n+1) λc=>sg c*M 0 c*zD n (y7 M c):=rfl
theorem SX (c:Nat):sg (c+1)= -sg c:=by
 unfold sg;by_cases h:c%2=0
 ·rw [if_neg za,if_pos h]
 ·rw [if_pos za,if_neg h,Rat.neg_neg]
theorem gu {c:Nat}(hj:j<n):y8 c j<n+1:=by unfold y8;split<;>omega
theorem ir (c j:Nat):y8 c j≠c:=by unfold y8;split<;>omega
theorem uz:∀{n:Nat} {M N:Nat->Nat->Rat},(∀i,i<n->∀j,j<n->M i j=N i j)->zD n M=zD n N
 |0,_,_,_=>rfl
 |n+1,M,N,h=>by
   rw [vK,vK];refine yj λc hc=>?_;rw [h 0 za c hc,uz (n:=n) (M:=y7 M c) (N:=y7 N c) λi hi j hj=>h (i+1) za _ (gu hj)]
def zP (M:Nat->Nat->Rat)(k:Nat)(v:Nat->Rat):Nat->Nat->Rat:=λi j=>if j=k then v i else M i j
theorem vJ (M:Nat->Nat->Rat)(k:Nat)(v:Nat->Rat)(i:Nat):zP M k v i k=v i:=if_pos rfl
theorem vS (M:Nat->Nat->Rat){k j:Nat}(h:j≠k)(v:Nat->Rat)(i:Nat):zP M k v i j=M i j:=if_neg h
theorem gW (M:Nat->Nat->Rat)(k:Nat):zP M k (λi=>M i k)=M:=by
 funext i j;unfold zP;split
 ·next h=>rw [h]
 ·rfl
theorem Z4 (M:Nat->Nat->Rat)(k:Nat)(v:Nat->Rat):y7 (zP M k v) k=y7 M k:=by
 funext i j;show(if y8 k j=k then _ else _)=_;rw [if_neg (ir k j)];rfl
def se (c k:Nat):Nat:=if k<c then k else k - 1
theorem Wa (h:k≠c):y8 c j=k↔j=se c k:=by unfold y8 se;split<;>split<;>omega
theorem iB (h:k≠c)(hk:k<n+1)(hc:c<n+1):se c k<n:=by unfold se;split<;>omega
theorem Xe {M:Nat->Nat->Rat}(h:k≠c)(v:Nat->Rat):y7 (zP M k v) c=zP (y7 M c) (se c k) (λi=>v (i+1)):=by
 funext i j
 show(if y8 c j=k then _ else _)=(if j=se c k then _ else _);by_cases e:j=se c k
 ·rw [if_pos e,if_pos ((Wa h).2 e)]
 ·rw [if_neg e,if_neg λq=>e ((Wa h).1 q)];rfl
theorem jh:∀{n:Nat} (M:Nat->Nat->Rat) {k:Nat} (_:k<n) (a b:Rat) (u v:Nat->Rat),zD n (zP M k λi=>a*u i+b*v i)=a*zD n (zP M k u)+b*zD n (zP M k v)
 |n+1,M,k,hk,a,b,u,v=>by
   rw [vK,vK,vK,vL,vL,<-sF];refine yj λc hc=>?_;by_cases h:k=c
   ·subst h;rw [Z4,Z4,Z4];simp only [zP,if_true]
    grind
   ·rw [Xe h,Xe h,Xe h,jh (y7 M c) (iB h hk hc) a b (λi=>u (i+1)) (λi=>v (i+1))];simp only [zP,if_neg (λe:c=k=>h e.symm)]
    grind
theorem dK {n:Nat}(M:Nat->Nat->Rat){k:Nat}(hk:k<n)(a:Rat)(u:Nat->Rat):zD n (zP M k λi=>a*u i)=a*zD n (zP M k u):=by
 have h:=jh M hk a 0 u u;rw [yX,xE] at h;rw [<-h];congr 2
 funext i
 grind
theorem fm {n:Nat}(M:Nat->Nat->Rat){k:Nat}(hk:k<n)(f:Nat->Rat)(u:Nat->Nat->Rat):∀q,zD n (zP M k λi=>zv q λl=>f l*u l i)=zv q λl=>f l*zD n (zP M k (u l))
 |0=>by
   have:=dK M hk 0 (λ_=>0);have e:(λi:Nat=>(0:Rat)*(λ_=>0) i)=λ_=>0:=by funext i;exact yX _
   rw [e] at this;show zD n (zP M k λi=>0)=0;rw [this,yX]
 |q+1=>by
   rw [xz,<-fm M hk f u q];have:=jh M hk 1 (f q) (λi=>zv q λl=>f l*u l i) (u q);rw [XD] at this;rw [<-this];congr 2
   funext i
   rw [xz,XD]
theorem TJ {f:Nat->Rat}{k:Nat}(h2:f k+f (k+1)=0):∀{n:Nat},k+1<n->(∀c,c<n->c≠k->c≠k+1->f c=0)->zv n f=0
 |n+1,hk,h1=>by
   rw [xz];by_cases e:n=k+1
   ·subst e;rw [xz,u3 λi hi=>h1 i za za za,YY,h2]
   ·rw [TJ h2 (n:=n) za (λc hc=>h1 c za),h1 n za za za,xE]
theorem Z0:∀{n:Nat} {M:Nat->Nat->Rat} {k:Nat},k+1<n->(∀i,i<n->M i k=M i (k+1))->zD n M=0
 |n+1,M,k,hk,h=>by
   rw [vK];have h1:∀c,c<n+1->c≠k->c≠k+1->sg c*M 0 c*zD n (y7 M c)=0:=λc hc e1 e2=>by
    have:zD n (y7 M c)=0:=by
     refine Z0 (k:=se c k) ?_ λi hi=>?_
     ·unfold se;split<;>omega
     ·have a1:y8 c (se c k)=k:=(Wa (Ne.symm e1)).2 rfl;have a2:y8 c (se c k+1)=k+1:=by unfold y8 se;split<;>split<;>omega
      show M (i+1) (y8 c (se c k))=M (i+1) (y8 c (se c k+1));rw [a1,a2];exact h (i+1) za
    rw [this,XQ]
   have h2:sg k*M 0 k*zD n (y7 M k)+sg (k+1)*M 0 (k+1)*zD n (y7 M (k+1))=0:=by
    have:zD n (y7 M k)=zD n (y7 M (k+1)):=uz λi hi j hj=>by
     show M (i+1) (y8 k j)=M (i+1) (y8 (k+1) j);by_cases e:j=k
     ·subst e;have a1:y8 j j=j+1:=by unfold y8;split<;>omega
      have a2:y8 (j+1) j=j:=by unfold y8;split<;>omega
      rw [a1,a2];exact(h (i+1) za).symm
     ·have:y8 k j=y8 (k+1) j:=by unfold y8;split<;>split<;>omega
      rw [this]
    rw [this,SX,<-h 0 za]
    grind
   exact TJ (f:=λc=>sg c*M 0 c*zD n (y7 M c)) h2 za h1
theorem OL (M:Nat->Nat->Rat){k:Nat}(hk:k+1<n)(u v:Nat->Rat):zD n (zP (zP M k u) (k+1) v)= -zD n (zP (zP M k v) (k+1) u):=by
 have z:∀x:Nat->Rat,zD n (zP (zP M k x) (k+1) x)=0:=λx=>Z0 hk λi _=>by
  rw [vS _ za,vJ,vJ]
 have sw:∀x y:Nat->Rat,zP (zP M k x) (k+1) y=zP (zP M (k+1) y) k x:=λx y=>by
  funext i j;simp only [zP];by_cases a:j=k+1
  ·rw [if_pos a,if_neg za,if_pos a]
  ·rw [if_neg a];by_cases b:j=k
   ·rw [if_pos b,if_pos b]
   ·rw [if_neg b,if_neg b,if_neg a]
 have e1:=z (λi=>1*u i+1*v i);rw [jh _ hk,sw,sw,jh _ (by omega:k<n),jh _ (by omega:k<n),<-sw,<-sw,<-sw,<-sw,z,z] at e1
 grind
theorem Yp:∀(d:Nat) {n:Nat} {M:Nat->Nat->Rat} {k:Nat},k+1+d<n->(∀i,i<n->M i k=M i (k+1+d))->zD n M=0
 |0,n,M,k,hk,h=>Z0 hk h
 |d+1,n,M,k,hk,h=>by
   have e:M=zP (zP M (k+1+d) λi=>M i (k+1+d)) (k+1+d+1) λi=>M i (k+1+d+1):=by rw [gW,gW]
   rw [e,OL M za,Yp d (k:=k) za,Rat.neg_zero];intro i hi;rw [vS _ za,vS _ za,vS _ za,vJ];exact h i hi
theorem dL {M:Nat->Nat->Rat}{l:Nat}(hk:k<n)(hl:l<n)(hne:k≠l):zD n (zP M k λi=>M i l)=0:=by
 rcases xW k l with h|h
 ·obtain⟨d,rfl⟩:∃d,l=k+1+d:=⟨l - k - 1,za⟩;exact Yp d za λi _=>by rw [vJ,vS _ za]
 ·obtain⟨d,rfl⟩:∃d,k=l+1+d:=⟨k - l - 1,za⟩;exact Yp d (k:=l) za λi _=>by rw [vS _ za,vJ]
theorem Ye:∀(n:Nat) {M:Nat->Nat->Rat},(∀i,i<n->M i n=0)->zD (n+1) M=M n n*zD n M
 |0,M,_=>by
   show zv 1 _=_;rw [xz,gX];show 0+1*M 0 0*1=M 0 0*1
   grind
 |n+1,M,h=>by
   rw [vK,xz,h 0 za,XQ,yX,xE,vK n,vL];refine yj λc hc=>?_;rw [Ye n (M:=y7 M c) (λi hi=>by
    show M (i+1) (y8 c n)=0;rw [show y8 c n=n+1 by unfold y8;split<;>omega];exact h (i+1) za)]
   have:y7 M c n n=M (n+1) (n+1):=by show M (n+1) (y8 c n)=_;rw [show y8 c n=n+1 by unfold y8;split<;>omega]
   rw [this]
   grind
structure wj (n m c:Nat)(a s:Nat->Nat->Rat)(ld:List Nat)(p:Rat):Prop where
 len:ld.length<=n
 cm:c<=m
 up:∀l l',l<l'->l'<ld.length->ld.getD l 0<ld.getD l' 0
 lt:∀l,l<ld.length->ld.getD l 0<c
 ne:p≠0
 piv:∀l,l<ld.length->∀i,i<n->s i (ld.getD l 0)=if i=l then p else 0
 low:∀i,ld.length<=i->i<n->∀j,j<c->s i j=0
 fore:∀l,l<ld.length->∀j,j<ld.getD l 0->s l j=0
 back:∀i,i<n->∀j,j<m->p*a i j=zv ld.length (λl=>a i (ld.getD l 0)*s l j)+if ld.length<=i then s i j else 0
 det:p=zD ld.length λi j=>a i (ld.getD j 0)
theorem wj.start (n m:Nat)(a:Nat->Nat->Rat):wj n m 0 a a [] 1 where
 len:=QQ _
 cm:=QQ _
 up:=λl l' _ h=>by cases h
 lt:=λl h=>by cases h
 ne:=by decide+kernel
 piv:=λl h=>by cases h
 low:=λi _ _ j h=>by cases h
 fore:=λl h=>by cases h
 back:=λi _ j _=>by
  show 1*a i j=zv 0 _+if 0<=i then a i j else 0
  rw [if_pos (QQ _),gX];grind
 det:=rfl
theorem wj.skip (h:wj n m c a s ld p)(hc:c<m)(h0:∀i,ld.length<=i->i<n->s i c=0):wj n m (c+1) a s ld p:=
 { h with
  cm:=hc
  lt:=λl hl=>Nat.lt_succ_of_lt (h.lt l hl)
  low:=λi h1 h2 j hj=>by
   rcases xW j c with e|e
   ·exact h.low i h1 h2 j e
   ·rw [show j=c by omega];exact h0 i h1 h2}
def wO (r q:Nat)(s:Nat->Nat->Rat):Nat->Nat->Rat:=λi j=>if i=r then s q j else if i=q then -s r j else s i j
theorem Xv (k:Nat)(f:Nat->Rat):zv k (λi=> -f i)= -zv k f:=by
 have:=vL k (-1) f;rw [show(-1:Rat)*zv k f= -zv k f by grind] at this;rw [this];exact yj λi _=>by grind
theorem wj.swap (h:wj n m c a s ld p){q:Nat}(h1:ld.length<q)(h2:q<n):wj n m c (wO ld.length q a) (wO ld.length q s) ld p where
 len:=h.len
 cm:=h.cm
 up:=h.up
 lt:=h.lt
 ne:=h.ne
 piv:=λl hl i hi=>by
  unfold wO;by_cases e1:i=ld.length
  ·rw [if_pos e1,if_neg za,h.piv l hl q h2,if_neg za]
  ·rw [if_neg e1];by_cases e2:i=q
   ·rw [if_pos e2,if_neg za,h.piv l hl ld.length za,if_neg za,Rat.neg_zero]
   ·rw [if_neg e2,h.piv l hl i hi]
 low:=λi hi d j hj=>by
  unfold wO
  split
  ·exact h.low q za h2 j hj
  ·split
   ·rw [h.low ld.length (qX _) za j hj,Rat.neg_zero]
   ·exact h.low i hi d j hj
 fore:=λl hl j hj=>by
  unfold wO;rw [if_neg za,if_neg za];exact h.fore l hl j hj
 back:=λi hi j hj=>by
  have hs:∀i,zv ld.length (λl=>wO ld.length q a i (ld.getD l 0)*wO ld.length q s l j)=zv ld.length (λl=>wO ld.length q a i (ld.getD l 0)*s l j):=λi=>yj λl hl=>by
   rw [show wO ld.length q s l j=s l j by unfold wO;rw [if_neg za,if_neg za]]
  rw [hs];by_cases e1:i=ld.length
  ·subst e1;have:=h.back q h2 j hj;rw [if_pos za] at this⊢;simp only [wO,if_true];exact this
  ·by_cases e2:i=q
   ·subst e2;have:=h.back ld.length za j hj;rw [if_pos za] at this⊢;simp only [wO,if_neg e1,if_true];have e:zv ld.length (λl=> -a ld.length (ld.getD l 0)*s l j)= -zv ld.length (λl=>a ld.length (ld.getD l 0)*s l j):=by
     rw [<-Xv];exact yj λl _=>by grind
    rw [e]
    grind
   ·have:=h.back i hi j hj;simp only [wO,if_neg e1,if_neg e2];exact this
 det:=by
  rw [h.det];exact uz λi hi j _=>by unfold wO;rw [if_neg za,if_neg za]
def rZ (k c:Nat)(p:Rat)(s:Nat->Nat->Rat):Nat->Nat->Rat:=λi j=>if i=k then s k j else p⁻¹*(s k c*s i j+ -s i c*s k j)
theorem iD {l:Nat}(h:l<ld.length):(ld++[c]).getD l 0=ld.getD l 0:=by
 rw [qQ,qQ,QH h]
theorem gL (ld:List Nat)(c:Nat):(ld++[c]).getD ld.length 0=c:=by
 rw [qQ,QJ (qX _),XG];rfl
theorem jn (ld:List Nat)(c:Nat):(ld++[c]).length=ld.length+1:=zG
theorem wj.col (h:wj n m c a s ld p){l j:Nat}(hl:l<ld.length)(hj:j<m):s l j=zD ld.length (zP (λi j=>a i (ld.getD j 0)) l λi=>a i j):=by
 have e1:=dK (n:=ld.length) (λi j=>a i (ld.getD j 0)) hl p (λi=>a i j);have e2:zD ld.length (zP (λi j=>a i (ld.getD j 0)) l λi=>p*a i j)=zD ld.length (zP (λi j=>a i (ld.getD j 0)) l λi=>zv ld.length λq=>s q j*a i (ld.getD q 0)):=uz λi hi j' _=>by
  by_cases e:j'=l
  ·subst e;rw [vJ,vJ,h.back i (by have:=h.len;omega) j hj,if_neg za,xE];exact yj λq _=>YW _ _
  ·rw [vS _ e,vS _ e]
 rw [e2,fm _ hl (λq=>s q j) (λq i=>a i (ld.getD q 0))] at e1;have e3:∀q,q<ld.length->s q j*zD ld.length (zP (λi j=>a i (ld.getD j 0)) l λi=>a i (ld.getD q 0))=(s l j*p)*if q=l then 1 else 0:=λq hq=>by
  by_cases e:q=l
  ·subst e;rw [if_pos rfl,gW (λi j=>a i (ld.getD j 0)) q,<-h.det,Rat.mul_one]
  ·rw [if_neg e,dL (M:=λi j=>a i (ld.getD j 0)) hl hq (Ne.symm e),XQ,XQ]
 rw [yj e3] at e1;have e4:zv ld.length (λq=>(s l j*p)*if q=l then 1 else 0)=s l j*p:=by
  clear e1 e2 e3;have:∀k,l<k->zv k (λq=>(s l j*p)*if q=l then 1 else 0)=s l j*p:=by
   intro k
   induction k with
   |zero=>intro h;cases h
   |succ k ih=>
     intro hk;rw [xz];by_cases e:k=l
     ·subst e;rw [if_pos rfl,u3 λi hi=>by rw [if_neg za,XQ],YY,Rat.mul_one]
     ·rw [if_neg e,XQ,xE,ih za]
  exact this _ hl
 rw [e4] at e1;have:=h.ne
 grind
theorem wj.lead (h:wj n m c a s ld p)(hc:c<m)(hk:ld.length<n):s ld.length c=zD (ld.length+1) λi j=>a i ((ld++[c]).getD j 0):=by
 have hB:∀(f:Nat->Nat->Rat),(f=λi j=>a i ((ld++[c]).getD j 0))->s ld.length c=zD (ld.length+1) f:=by
  intro f hf;have d:ld.length<ld.length+1:=Nat.lt_succ_self _;have e1:=dK (n:=ld.length+1) f d p (λi=>f i ld.length);rw [gW f] at e1;have ff:∀i l,l<ld.length->f i l=a i (ld.getD l 0):=λi l hl=>by rw [hf];show a i _=_;rw [iD hl]
  have fc:∀i,f i ld.length=a i c:=λi=>by rw [hf];show a i _=_;rw [gL]
  have e2:zD (ld.length+1) (zP f ld.length λi=>p*f i ld.length)=zD (ld.length+1) (zP f ld.length λi=>1*(zv ld.length λq=>s q c*f i q)+s ld.length c*if i=ld.length then 1 else 0):=uz λi hi j' _=>by
   by_cases e:j'=ld.length
   ·subst e;rw [vJ,vJ,fc,h.back i za c hc,XD];congr 1
    ·exact yj λq hq=>by rw [ff i q hq,YW]
    ·by_cases e:i=ld.length
     ·rw [if_pos za,if_pos e,e,Rat.mul_one]
     ·rw [if_neg za,if_neg e,XQ]
   ·rw [vS _ e,vS _ e]
  rw [e2,jh f d 1 (s ld.length c) (λi=>zv ld.length λq=>s q c*f i q) (λi=>if i=ld.length then 1 else 0),fm f d (λq=>s q c) (λq i=>f i q)] at e1;rw [u3 λq hq=>by rw [dL d za za,XQ]] at e1;rw [Ye ld.length (M:=zP f ld.length λi=>if i=ld.length then 1 else 0) (λi hi=>by rw [vJ,if_neg za]),vJ,if_pos rfl] at e1;have e3:zD ld.length (zP f ld.length λi=>if i=ld.length then 1 else 0)=p:=by
   rw [h.det];exact uz λi hi j hj=>by rw [vS _ za,ff i j hj]
  rw [e3] at e1;have:=h.ne
  grind
 exact hB _ rfl
theorem wj.clear (h:wj n m c a s ld p)(hc:c<m)(hk:ld.length<n)(h0:s ld.length c≠0):wj n m (c+1) a (rZ ld.length c p s) (ld++[c]) (s ld.length c) where
 len:=by rw [jn];omega
 cm:=hc
 up:=λl l' h1 h2=>by
  rw [jn] at h2;rw [iD za];by_cases e:l'=ld.length
  ·subst e;rw [gL];exact h.lt l h1
  ·rw [iD za];exact h.up l l' h1 za
 lt:=λl hl=>by
  rw [jn] at hl;by_cases e:l=ld.length
  ·subst e;rw [gL];omega
  ·rw [iD za];exact Nat.lt_succ_of_lt (h.lt l za)
 ne:=h0
 piv:=λl hl i hi=>by
  have k:=h.ne;rw [jn] at hl;unfold rZ;by_cases e:l=ld.length
  ·subst e;rw [gL];by_cases e2:i=ld.length
   ·rw [if_pos e2,if_pos e2]
   ·rw [if_neg e2,if_neg e2];grind
  ·have d:l<ld.length:=za;rw [iD d];have e3:=h.piv l d ld.length hk;rw [if_neg za] at e3;by_cases e2:i=ld.length
   ·rw [if_pos e2,if_neg za,e3]
   ·rw [if_neg e2,e3,h.piv l d i hi];by_cases e4:i=l
    ·rw [if_pos e4,if_pos e4];grind
    ·rw [if_neg e4,if_neg e4];grind
 low:=λi hi g j hj=>by
  rw [jn] at hi;unfold rZ;rw [if_neg za];by_cases e:j=c
  ·subst e;grind
  ·rw [h.low i za g j za,h.low ld.length (qX _) hk j za];grind
 fore:=λl hl j hj=>by
  rw [jn] at hl;unfold rZ;by_cases e:l=ld.length
  ·subst e;rw [gL] at hj;rw [if_pos rfl];exact h.low _ (qX _) hk j hj
  ·have d:l<ld.length:=za;rw [iD d] at hj;have:=h.lt l d;rw [if_neg e,h.fore l d j hj,h.low ld.length (qX _) hk j za];grind
 back:=λi hi j hj=>by
  have k:=h.ne;have e1:=h.back i hi j hj;have e2:=h.back i hi c hc;rw [jn,xz,gL];have e3:zv ld.length (λl=>a i ((ld++[c]).getD l 0)*rZ ld.length c p s l j)=p⁻¹*(s ld.length c*zv ld.length (λl=>a i (ld.getD l 0)*s l j)+ -(s ld.length j)*zv ld.length (λl=>a i (ld.getD l 0)*s l c)):=by
   rw [vL,vL,<-sF,vL];refine yj λl hl=>?_;rw [iD hl];unfold rZ;rw [if_neg za]
   grind
  have e4:rZ ld.length c p s ld.length j=s ld.length j:=if_pos rfl;rw [e3,e4];generalize zv ld.length (λl=>a i (ld.getD l 0)*s l j)=x at*;generalize zv ld.length (λl=>a i (ld.getD l 0)*s l c)=y at*;by_cases e5:ld.length+1<=i
  ·rw [if_pos e5];rw [if_pos za] at e1 e2;unfold rZ;rw [if_neg za];generalize a i j=u at*;generalize a i c=v at*;generalize s i j=z at*;generalize s i c=t at*;generalize s ld.length j=r at*;generalize s ld.length c=q at*
   grind
  ·rw [if_neg e5];by_cases e6:i=ld.length
   ·subst e6;rw [if_pos (qX _)] at e1 e2
    grind
   ·rw [if_neg za] at e1 e2
    grind
 det:=by
  rw [jn];exact h.lead hc hk
set_option maxRecDepth 100000
theorem N5 {K' L:Nat}{x y r:Rat}{b' s:Bool}{A' D:ze}{n' c' d:Nat}{E E' U:ze}{k' u f f' v:Nat}(g:Nat)(hT:zu w)(hr:zp w r s D m d U u v)(hk:zh w g 54 #[.bool s,.slice D m d,.slice U u v])
  (h:zp w x b A n c E k f) (h':zp w y b' A' n' c' E' k' f') (zx:zm K x) (zy:zm K' y) (zr:zm L r) (hK:K<=67108864) (hK':L+K'<=67108864):
  Calls prog 58 #[.agg #[.bool b,.slice A n c,.slice E k f],.agg #[.bool b',.slice A' n' c',.slice E' k' f'],.pointer (some ⟨g,0,none⟩)] w (yp w (x+r*y)):=by
 have HT:=zj w (λw' hb=>hT.on hb);have HX:=zj w (λw' hb=>h.below hb);have HY:=zj w (λw' hb=>h'.below hb);have HR:=zj w (λw' hb=>hr.below hb);have HK:=zj w (λw' hb=>zg hb hk);have M:=zb zx;have o:=zb zy;have j:=zb zr;clear hT hr hk h h' zx zy zr;obtain⟨t,z,B,C,bz⟩:=yF w 54 54 54 #[.bool b,.slice A n c,.slice E k f] #[.bool b',.slice A' n' c',.slice E' k' f'] #[.bool false,.slice none 0 0,.slice none 0 0];have i:=zb t;have H:=zb z;have I:=zb B;have J:=zb C;clear t z B C bz;go_enter func58,ntmps58;go_wp2_with fail;generalize ((w.alloc (.cells #[.bool b,.slice A n c,.slice E k f] 54)).alloc (.cells #[.bool b',.slice A' n' c',.slice E' k' f'] 54)).alloc (.cells #[.bool false,.slice none 0 0,.slice none 0 0] 54)=W1 at*;obtain⟨p0,p1,p2⟩:=H.o.c3;obtain⟨q0,q1,q2⟩:=I.o.c3;obtain⟨g0,g1,g2⟩:=(HK.o _ i.o).c3;have hB:=i.o;have kr:=J.o;have a:=(qZ W1.heap.size W1).drew;refine rg (zk p0 (zk p1 (zk p2 (zk g0 (zk g1 (zk g2 (zk q0 (zk q1 (zk q2 zO))))))))) (λhHeld=>?_);refine tk 0 ?_;refine tk 1 ?_;refine tk 2 ?_;refine rc 3 (λKK hK=>?_);go_simp;(with_reducible refine(sG (HT.o _ (zc hB a)) (HR.o _ (zc hB a)) (HY.o _ (zc hB a)) j.o o.o za za).mono ?_);rintro e wa ⟨b1,A1,n1,c1,E1,k1,f1,rfl,F,hb⟩;have a:=zc a hb;refine hK.out _ _ (Cs.below hHeld hb) (λhHeld=>?_);clear hK KK hb;refine rc 4 (λKK hK=>?_);go_simp;(with_reducible refine(eN (HT.o _ (zc hB a)) (HX.o _ (zc hB a)) F M.o (j.o.mul o.o) za za).mono ?_);rintro e wb ⟨b2,A2,n2,c2,E2,k2,f2,rfl,G,hb⟩;have a:=zc a hb;refine hK.out _ _ (Cs.below hHeld hb) (λhHeld=>?_);clear hK KK hb;have kr:=zg a kr;obtain⟨N,Q,O,R,P,S⟩:=yf kr (.bool b2) (.slice A2 n2 c2);obtain⟨r0,r1,r2⟩:=(ym kr (.bool b2) (.slice A2 n2 c2) (.slice E2 k2 f2)).c3;have HG:=zb (vp G kr (zc hB a) za);refine rc 5 (λKK hK=>?_);go_simp;refine hK.out _ _ ?_ (λhHeld=>?_)
 ·have hg:g<w.heap.size:=by
   have h1:=(HK.o _ (qZ _ w)).lt;exact h1
  refine Cs.far hHeld (vA _ _ _ _ _) ?_;refine⟨?_,?_,?_,?_,?_,?_,?_,?_,?_,trivial⟩<;>(simp;try omega)
 clear hK KK;refine z4 ?_;clear N Q O R P S hHeld F G kr;go_wp2;refine bodyPost_ret (v:=.agg #[.bool b2,.slice A2 n2 c2,.slice E2 k2 f2]) (by simp [results,results58,go_sem,r0,r1,r2]) rfl ?_;exact HG.o
section
variable {K K' L:Nat}{r:Rat}{xs ys:List Rat}{A B:ze}{n n' c d:Nat}{w:World}{s:Bool}{D:ze}{m e9:Nat}{U:ze}{u v:Nat}
theorem oI (hT:zu w)(ha:z7 w A n c xs)(hr:zp w r s D m e9 U u v)(hb:z7 w B n d ys)(hx:zN K xs)(zr:zm L r)(hy:zN K' ys)(hn:n<=1073741824:=by omega)(hK:K<=67108864:=by omega)(z:L+K'<=67108864:=by omega):
  Calls prog 19 #[.slice A n c,.agg #[.bool s,.slice D m e9,.slice U u v],.slice B n d] w (oV w n (uN xs r ys)):=by
 have hla:=ha.len;have hlb:=hb.len;obtain⟨a,o,bz⟩:=zw w 54 #[.bool s,.slice D m e9,.slice U u v];have hmf:∀(fn:Fn) (first t:Array Value) (w:World),(Instr.makeFunc fn first t).run prog w=.ok (.func fn first t) w:=λ_ _ _ _=>rfl;have H:=zb (V3 (λx y=>x+r*y) 58 #[.pointer (some ⟨w.heap.size,0,none⟩)] xs ys A B n c d _ (ha.keep a) (hb.keep a) hn mi (λi hi w' j b b' A A' n n' c c' E E' k k' f f' h1 h2=>
  N5 (w.heap.size) ((hT.on a).on j) ((hr.below a).below j) (zg j o) h1 h2 (hx.at_ za) (hy.at_ za) zr hK z))
 have hB:=a;clear ha hb hx hy hT hr a o bz;go_enter func19,ntmps19;go_wp2_with fail;refine H.o.mono ?_;rintro e w1 ⟨g,rfl,h1,h2,h3⟩;have HG:=zb (And.intro (qD hB.size h1) (And.intro h2 (zc hB h3)));clear h1 h2 h3 hB;go_wp2
 go_ret2
 exact⟨g,rfl,HG.o⟩
end
theorem wE {xs:List Rat}(h:yn w g n xs)(hn:n<=1073741824:=by omega):z7 w (some ⟨g,0,none⟩) n n xs:=wH.row h za
section
variable {K K':Nat}{xs ys:List Rat}{A B:ze}{n n' c d:Nat}{w:World}
theorem lW (hT:zu w)(ha:z7 w A n c xs)(hb:z7 w B n d ys)(hx:zN K xs)(hy:zN K' ys)(hn:n<=1073741824:=by omega)(hK:K<=67108864:=by omega)(t:K'<=67108864:=by omega)(hS:1+n*(K+K'+1)<=67108864:=by omega):
  Calls prog 124 #[.slice A n c,.slice B n d] w (uK w (sM xs ys) true):=by
 have C:=ha.len;have D:=hb.len;obtain⟨a,m,bz⟩:=zw w 54 #[.bool false,.slice none 0 0,.slice none 0 0];have H:=zb (V3 (λx y=>x*y) 56 #[] xs ys A B n c d _ (ha.keep a) (hb.keep a) hn jR (λi hi w' z b b' A A' n n' c c' E E' k k' f f' h1 h2=>by
  rw [Array.append_empty];exact sG ((hT.on a).on z) h1 h2 (hx.at_ za) (hy.at_ za) hK t))
 have HT:=zj w (λw' hb=>hT.on hb);have hB:=a;have HK:=zb m;have HS:=zb (zN.mul hx hy);have hN:=hn;have u:=zb hS;clear ha hb hx hy hT a m bz C D hS;go_enter func124,ntmps124;go_wp2_with fail;refine H.o.mono ?_;rintro e w1 ⟨g,rfl,-,h2,hb⟩;have hB:=zc hB hb;have hk:=zg hb HK.o;have HV:=zb (wE h2 hN);clear hb HK h2 H;go_wp2_with fail;refine(kW (HT.o _ hB) HV.o HS.o hN u.o).mono ?_;rintro e w2 ⟨b2,A2,n2,c2,E2,k2,f2,rfl,s,hb⟩;have o:=zc hB hb;have j:=zg hb hk;obtain⟨sc0,sf0,sc1,sf1,sc2,sf2⟩:=yf j (.bool b2) (.slice A2 n2 c2);obtain⟨r0,r1,r2⟩:=(ym j (.bool b2) (.slice A2 n2 c2) (.slice E2 k2 f2)).c3;have HG:=zb (kR (r:=sM xs ys) true s j o (qX _));clear hb hB hk o j s HV HS;go_wp2;refine bodyPost_ret (v:=.tuple #[.agg #[.bool b2,.slice A2 n2 c2,.slice E2 k2 f2],.bool true]) (by simp [results,results124,go_sem,r0,r1,r2]) rfl ?_;exact HG.o
end
theorem x6 (h:zd (Sz K x))(k:zE w x A n c)(e:4*K<=B:=by omega):n<=B:=qD (h.o.holds' k) e
theorem lO (h:zd (Sz K z.natAbs))(k:yu w z b A n c)(e:4*K<=B:=by omega):n<=B:=qD (h.o.holds' k.holds) e
theorem UX (h:zE w x A n c)(hk:zh w g t cs)(a:yb cs)(ho:xg g w w'):zE w' x A n c:=⟨Uv h.1 hk a ho,h.2⟩
theorem iU (h:yu w z b A n c)(hk:zh w g t cs)(a:yb cs)(ho:xg g w w'):yu w' z b A n c:=⟨h.1,UX h.2 hk a ho⟩
theorem R3 (t:∀w w',T w->Below w.heap.size w w'->T w')(IC:vf T)(z:Int)(bp:Bool)(Bp:ze)(mp dp:Nat)(bq:Bool)(Bq:ze)(mq dq:Nat)(K:Nat)(hKK:K<=16777216)(w:World)(sz:Sz K z.natAbs)(hp:z6 w z bp Bp mp dp)(hq:yu w z bq Bq mq dq)(hT:T w)(h:z<0):
  Calls prog 44 #[.agg #[.bool bp,.slice Bp mp dp],.agg #[.bool bq,.slice Bq mq dq]] w λe w'=>e=.returned (.bool true)/\Below w.heap.size w w':=by
 have k:=zb IC;have HT:=zj w (λw' hb=>t w w' hT hb);have c:=zb hp;have g:=zb hq;have i:=zb sz;have s:=zb sz;have Hh:=zb h;clear IC hT hp hq sz h;go_enter func44,ntmps44;have hB:=qZ w.heap.size w;obtain rfl:bq=true:=(g.o).1.trans (decide_eq_true (by have:=Hh.o;omega));obtain⟨j,m,n,bz⟩:=z8 w 52 41 #[.bool bp,.slice Bp mp dp] #[.bool true,.slice Bq mq dq];have hB:=zc hB j;have c:=zb (c.o.below j);have g:=zb (g.o.below j);obtain⟨g1,e1⟩:=m.c2;obtain⟨g2,e2⟩:=n.c2;clear j m n bz;go_wp2_with fail;generalize (w.alloc (.cells #[.bool bp,.slice Bp mp dp] 52)).alloc (.cells #[.bool true,.slice Bq mq dq] 41)=W1 at*;have C0:=zj W1 (λw' h=>Yr (b:=true) (decide_eq_true (by have:=Hh.o;omega)) (k.o.belowI (z) bp Bp mp dp w' (HT.o _ (zc hB h)) (c.o.below h) (by have:=Sz.words i.o c.o.words;omega)));have C1:=zj W1 (λw' h=>Wq (v:=-1) ((lF Hh.o)) (k.o.sign (z) bp Bp mp dp w' (HT.o _ (zc hB h)) (c.o.below h) (by have:=Sz.words i.o c.o.words;omega)));have o:zd (Sz (K) (z.natAbs)):=i.o;have C2:=zj W1 (λw' h=>k.o.abs (z) bp Bp mp dp w' (HT.o _ (zc hB h)) (c.o.below h) (by have:=Sz.words i.o c.o.words;omega));have C3:=zj W1 (λw' h B3 m3 d3 (d:zo w' (z.natAbs) B3 m3 d3)=>gU (z.natAbs) B3 Bq m3 d3 mq dq w' d (g.o.below h).2 (by have:=Sz.words o.o d;omega) (by have:=Sz.holds' s.o g.o.2;omega));have a:=(qZ W1.heap.size W1).drew;refine rg (zk g1 (zk e1 (zk g2 (zk e2 zO)))) (λhHeld=>?_);refine tk 0 ?_;refine tk 2 ?_;refine tk 3 ?_;refine rc 1 (λK hK=>?_);go_simp;go_at_call 61;(with_reducible refine(C0.o _ a).mono ?_);rintro e wa2 ⟨rfl,hb⟩;have a:=zc a hb;refine hK.out _ _ (Cs.below hHeld hb) (λhHeld=>?_);clear hK K hb
 try simp only [zI]
 refine tk 4 ?_;refine tk 5 ?_;refine tk 6 ?_;refine tk 8 ?_;refine rc 7 (λK hK=>?_);go_simp;go_at_call 100;(with_reducible refine(C1.o _ a).mono ?_);rintro e wa3 ⟨rfl,hb⟩;have a:=zc a hb;refine hK.out _ _ (Cs.below hHeld hb) (λhHeld=>?_);clear hK K hb
 try simp only [zI]
 refine tk 9 ?_;refine tk 10 ?_;refine tk 11 ?_;refine tk 12 ?_;refine tk 14 ?_;refine tk 15 ?_;refine rc 13 (λK hK=>?_);go_simp;go_at_call 62;(with_reducible refine(C2.o _ a).mono ?_);rintro e wa4 ⟨B3,m3,d3,rfl,d,hb⟩;have a:=zc a hb;refine hK.out _ _ (Cs.below hHeld hb) (λhHeld=>?_);clear hK K hb
 try simp only [zI]
 refine rc 16 (λK hK=>?_);go_simp;go_at_call 46;(with_reducible refine(C3.o _ a _ _ _ d).mono ?_);rintro e wa5 ⟨rfl,hb⟩;have a:=zc a hb;have d:=d.below hb;refine hK.out _ _ (Cs.below hHeld hb) (λhHeld=>?_);clear hK K hb
 try simp only [zI]
 refine tk 17 ?_;refine tk 18 ?_;refine z4 ?_;have hB:=zc hB a;obtain⟨g1,e1,g2,e2⟩:=wt a g1 e1 g2 e2;clear a hHeld d C0 C1 C2 C3;go_wp2;go_ret;exact⟨by first|rfl|simp,hB⟩
theorem R1 (t:∀w w',T w->Below w.heap.size w w'->T w')(IC:vf T)(z:Int)(bp:Bool)(Bp:ze)(mp dp:Nat)(bq:Bool)(Bq:ze)(mq dq:Nat)(K:Nat)(hKK:K<=16777216)(w:World)(sz:Sz K z.natAbs)(hp:z6 w z bp Bp mp dp)(hq:yu w z bq Bq mq dq)(hT:T w)(h:z=0):
  Calls prog 44 #[.agg #[.bool bp,.slice Bp mp dp],.agg #[.bool bq,.slice Bq mq dq]] w λe w'=>e=.returned (.bool true)/\Below w.heap.size w w':=by
 have k:=zb IC;have HT:=zj w (λw' hb=>t w w' hT hb);have c:=zb hp;have g:=zb hq;have i:=zb sz;have s:=zb sz;have Hh:=zb h;clear IC hT hp hq sz h;go_enter func44,ntmps44;have hB:=qZ w.heap.size w;obtain rfl:bq=false:=(g.o).1.trans (decide_eq_false (by have:=Hh.o;omega));have u:=Y7 (g.o).2 (by have:=Hh.o;omega);have hrq:((mq:Int)==0)=true:=by rw [beq_iff_eq];omega
 clear u;obtain⟨j,m,n,bz⟩:=z8 w 52 41 #[.bool bp,.slice Bp mp dp] #[.bool false,.slice Bq mq dq];have hB:=zc hB j;have c:=zb (c.o.below j);have g:=zb (g.o.below j);obtain⟨g1,e1⟩:=m.c2;obtain⟨g2,e2⟩:=n.c2;clear j m n bz;go_wp2_with fail;generalize (w.alloc (.cells #[.bool bp,.slice Bp mp dp] 52)).alloc (.cells #[.bool false,.slice Bq mq dq] 41)=W1 at*;have C0:=zj W1 (λw' h=>Yr (b:=false) (decide_eq_false (by have:=Hh.o;omega)) (k.o.belowI (z) bp Bp mp dp w' (HT.o _ (zc hB h)) (c.o.below h) (by have:=Sz.words i.o c.o.words;omega)));have C1:=zj W1 (λw' h=>Wq (v:=0) (((lD _).2 Hh.o)) (k.o.sign (z) bp Bp mp dp w' (HT.o _ (zc hB h)) (c.o.below h) (by have:=Sz.words i.o c.o.words;omega)));have o:zd (Sz (K) (z.natAbs)):=i.o;have C2:=zj W1 (λw' h=>k.o.abs (z) bp Bp mp dp w' (HT.o _ (zc hB h)) (c.o.below h) (by have:=Sz.words i.o c.o.words;omega));have C3:=zj W1 (λw' h B3 m3 d3 (d:zo w' (z.natAbs) B3 m3 d3)=>gU (z.natAbs) B3 Bq m3 d3 mq dq w' d (g.o.below h).2 (by have:=Sz.words o.o d;omega) (by have:=Sz.holds' s.o g.o.2;omega));have a:=(qZ W1.heap.size W1).drew;refine rg (zk g1 (zk e1 (zk g2 (zk e2 zO)))) (λhHeld=>?_);refine tk 0 ?_;refine tk 2 ?_;refine tk 3 ?_;refine rc 1 (λK hK=>?_);go_simp;go_at_call 61;(with_reducible refine(C0.o _ a).mono ?_);rintro e wa2 ⟨rfl,hb⟩;have a:=zc a hb;refine hK.out _ _ (Cs.below hHeld hb) (λhHeld=>?_);clear hK K hb
 try simp only [zI]
 refine tk 4 ?_;refine tk 5 ?_;refine tk 6 ?_;refine tk 8 ?_;refine rc 7 (λK hK=>?_);go_simp;go_at_call 100;(with_reducible refine(C1.o _ a).mono ?_);rintro e wa3 ⟨rfl,hb⟩;have a:=zc a hb;refine hK.out _ _ (Cs.below hHeld hb) (λhHeld=>?_);clear hK K hb
 try simp only [zI]
 refine tk 9 ?_;refine tk 10 ?_;refine tk 11 ?_;refine tk 12 ?_;refine tk 14 ?_;refine tk 15 ?_;refine rc 13 (λK hK=>?_);go_simp;go_at_call 62;(with_reducible refine(C2.o _ a).mono ?_);rintro e wa4 ⟨B3,m3,d3,rfl,d,hb⟩;have a:=zc a hb;refine hK.out _ _ (Cs.below hHeld hb) (λhHeld=>?_);clear hK K hb
 try simp only [zI]
 refine rc 16 (λK hK=>?_);go_simp;go_at_call 46;(with_reducible refine(C3.o _ a _ _ _ d).mono ?_);rintro e wa5 ⟨rfl,hb⟩;have a:=zc a hb;have d:=d.below hb;refine hK.out _ _ (Cs.below hHeld hb) (λhHeld=>?_);clear hK K hb
 try simp only [zI]
 refine tk 17 ?_;refine tk 18 ?_;refine z4 ?_;have hB:=zc hB a;obtain⟨g1,e1,g2,e2⟩:=wt a g1 e1 g2 e2;clear a hHeld d C0 C1 C2 C3;go_wp2;go_ret;exact⟨by first|rfl|simp,hB⟩
theorem R2 (t:∀w w',T w->Below w.heap.size w w'->T w')(IC:vf T)(z:Int)(bp:Bool)(Bp:ze)(mp dp:Nat)(bq:Bool)(Bq:ze)(mq dq:Nat)(K:Nat)(hKK:K<=16777216)(w:World)(sz:Sz K z.natAbs)(hp:z6 w z bp Bp mp dp)(hq:yu w z bq Bq mq dq)(hT:T w)(h:0<z):
  Calls prog 44 #[.agg #[.bool bp,.slice Bp mp dp],.agg #[.bool bq,.slice Bq mq dq]] w λe w'=>e=.returned (.bool true)/\Below w.heap.size w w':=by
 have k:=zb IC;have HT:=zj w (λw' hb=>t w w' hT hb);have c:=zb hp;have g:=zb hq;have i:=zb sz;have s:=zb sz;have Hh:=zb h;clear IC hT hp hq sz h;go_enter func44,ntmps44;have hB:=qZ w.heap.size w;obtain rfl:bq=false:=(g.o).1.trans (decide_eq_false (by have:=Hh.o;omega));have u:=Wn (g.o).2 (by have:=Hh.o;omega);have hrq:((mq:Int)==0)=false:=by rw [beq_eq_false_iff_ne];omega
 clear u;obtain⟨j,m,n,bz⟩:=z8 w 52 41 #[.bool bp,.slice Bp mp dp] #[.bool false,.slice Bq mq dq];have hB:=zc hB j;have c:=zb (c.o.below j);have g:=zb (g.o.below j);obtain⟨g1,e1⟩:=m.c2;obtain⟨g2,e2⟩:=n.c2;clear j m n bz;go_wp2_with fail;generalize (w.alloc (.cells #[.bool bp,.slice Bp mp dp] 52)).alloc (.cells #[.bool false,.slice Bq mq dq] 41)=W1 at*;have C0:=zj W1 (λw' h=>Yr (b:=false) (decide_eq_false (by have:=Hh.o;omega)) (k.o.belowI (z) bp Bp mp dp w' (HT.o _ (zc hB h)) (c.o.below h) (by have:=Sz.words i.o c.o.words;omega)));have C1:=zj W1 (λw' h=>Wq (v:=1) ((lH Hh.o)) (k.o.sign (z) bp Bp mp dp w' (HT.o _ (zc hB h)) (c.o.below h) (by have:=Sz.words i.o c.o.words;omega)));have o:zd (Sz (K) (z.natAbs)):=i.o;have C2:=zj W1 (λw' h=>k.o.abs (z) bp Bp mp dp w' (HT.o _ (zc hB h)) (c.o.below h) (by have:=Sz.words i.o c.o.words;omega));have C3:=zj W1 (λw' h B3 m3 d3 (d:zo w' (z.natAbs) B3 m3 d3)=>gU (z.natAbs) B3 Bq m3 d3 mq dq w' d (g.o.below h).2 (by have:=Sz.words o.o d;omega) (by have:=Sz.holds' s.o g.o.2;omega));have a:=(qZ W1.heap.size W1).drew;refine rg (zk g1 (zk e1 (zk g2 (zk e2 zO)))) (λhHeld=>?_);refine tk 0 ?_;refine tk 2 ?_;refine tk 3 ?_;refine rc 1 (λK hK=>?_);go_simp;go_at_call 61;(with_reducible refine(C0.o _ a).mono ?_);rintro e wa2 ⟨rfl,hb⟩;have a:=zc a hb;refine hK.out _ _ (Cs.below hHeld hb) (λhHeld=>?_);clear hK K hb
 try simp only [zI]
 refine tk 4 ?_;refine tk 5 ?_;refine tk 6 ?_;refine tk 8 ?_;refine rc 7 (λK hK=>?_);go_simp;go_at_call 100;(with_reducible refine(C1.o _ a).mono ?_);rintro e wa3 ⟨rfl,hb⟩;have a:=zc a hb;refine hK.out _ _ (Cs.below hHeld hb) (λhHeld=>?_);clear hK K hb
 try simp only [zI]
 refine tk 9 ?_;refine tk 10 ?_;refine tk 11 ?_;refine tk 12 ?_;refine tk 14 ?_;refine tk 15 ?_;refine rc 13 (λK hK=>?_);go_simp;go_at_call 62;(with_reducible refine(C2.o _ a).mono ?_);rintro e wa4 ⟨B3,m3,d3,rfl,d,hb⟩;have a:=zc a hb;refine hK.out _ _ (Cs.below hHeld hb) (λhHeld=>?_);clear hK K hb
 try simp only [zI]
 refine rc 16 (λK hK=>?_);go_simp;go_at_call 46;(with_reducible refine(C3.o _ a _ _ _ d).mono ?_);rintro e wa5 ⟨rfl,hb⟩;have a:=zc a hb;have d:=d.below hb;refine hK.out _ _ (Cs.below hHeld hb) (λhHeld=>?_);clear hK K hb
 try simp only [zI]
 refine tk 17 ?_;refine tk 18 ?_;refine z4 ?_;have hB:=zc hB a;obtain⟨g1,e1,g2,e2⟩:=wt a g1 e1 g2 e2;clear a hHeld d C0 C1 C2 C3;go_wp2;go_ret;exact⟨by first|rfl|simp,hB⟩
theorem Ys (c:∀w w',T w->Below w.heap.size w w'->T w')(IC:vf T)(z:Int)(bp:Bool)(Bp:ze)(mp dp:Nat)(bq:Bool)(Bq:ze)(mq dq:Nat)(K:Nat)(a:K<=16777216)(w:World)(sz:Sz K z.natAbs)(hp:z6 w z bp Bp mp dp)(hq:yu w z bq Bq mq dq)(hT:T w):
  Calls prog 44 #[.agg #[.bool bp,.slice Bp mp dp],.agg #[.bool bq,.slice Bq mq dq]] w λe w'=>e=.returned (.bool true)/\Below w.heap.size w w':=by
 rcases Int.lt_trichotomy z 0 with h|h|h
 ·exact R3 c IC z bp Bp mp dp bq Bq mq dq K a w sz hp hq hT h
 ·exact R1 c IC z bp Bp mp dp bq Bq mq dq K a w sz hp hq hT h
 ·exact R2 c IC z bp Bp mp dp bq Bq mq dq K a w sz hp hq hT h
