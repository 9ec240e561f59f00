/- What this claim leans on. -/
import Derived.Test.YtkcjgcflloldoaaGreatDoorPMMul
set_option linter.unusedVariables false
set_option linter.unusedSimpArgs false
namespace Go.Proofs.YtkcjgcflloldoaaGreatDoor
open Go Go.RowKit
set_option maxHeartbeats 16000000
variable {K c i j k m n:Nat}{a s:Nat->Nat->Rat}{x:Nat->Rat}
def zK (s:Nat->Nat->Rat)(k:Nat):Rat:=if k=0 then 1 else s (k - 1) (k - 1)
theorem cJ (s:Nat->Nat->Rat)(k:Nat):zK s (k+1)=s k k:=rfl
def wA (s:Nat->Nat->Rat)(i j k:Nat):Rat:=s i k*s k j*(s k k*zK s k)⁻¹
structure wY (n c:Nat)(a s:Nat->Nat->Rat):Prop where
 cn:c<=n
 ne:∀k,k<c->s k k≠0
 eq:∀i,i<n->∀j,j<n->a i j=zv c (λk=>if k<=i/\k<=j then wA s i j k else 0)+if c<=i/\c<=j then(zK s c)⁻¹*s i j else 0
theorem wY.pr (h:wY n c a s){k:Nat}(hk:k<=c):zK s k≠0:=by
 cases k with
 |zero=>show(1:Rat)≠0;decide+kernel
 |succ k=>exact h.ne k za
theorem wY.start (n:Nat)(a:Nat->Nat->Rat):wY n 0 a a where
 cn:=QQ _
 ne:=λk hk=>by cases hk
 eq:=λi _ j _=>by
  rw [gX,if_pos ⟨QQ _,QQ _⟩];show a i j=0+(1:Rat)⁻¹*a i j
  grind
def uO (c:Nat)(s:Nat->Nat->Rat):Nat->Nat->Rat:=λi j=>if c<i/\c<j then(zK s c)⁻¹*(s c c*s i j+ -s i c*s c j) else s i j
theorem SA (s:Nat->Nat->Rat)(h:k<=c+1):zK (uO c s) k=zK s k:=by
 unfold zK uO
 split
 ·rfl
 ·rw [if_neg za]
theorem wY.step {s:Nat->Nat->Rat}(h:wY n c a s)(hc:c<n)(h0:s c c≠0):wY n (c+1) a (uO c s) where
 cn:=hc
 ne:=λk hk=>by
  unfold uO;rw [if_neg za];by_cases e:k=c
  ·rw [e];exact h0
  ·exact h.ne k za
 eq:=λi hi j hj=>by
  have hp:=h.pr (qX c);have tm:∀k,k<=c->k<=i/\k<=j->wA (uO c s) i j k=wA s i j k:=λk hk _=>by
   unfold wA;rw [SA s za];unfold uO;rw [if_neg za,if_neg za,if_neg za]
  rw [h.eq i hi j hj,xz];have e1:zv c (λk=>if k<=i/\k<=j then wA (uO c s) i j k else 0)=zv c (λk=>if k<=i/\k<=j then wA s i j k else 0):=yj λk hk=>by
   split
   ·next e=>exact tm k za e
   ·rfl
  rw [e1];by_cases e:c<=i/\c<=j
  ·rw [if_pos e,if_pos e,tm c (qX c) e];unfold wA;by_cases e2:c+1<=i/\c+1<=j
   ·rw [if_pos e2,SA s (qX _),cJ];unfold uO;rw [if_pos za]
    grind
   ·rw [if_neg e2];by_cases e3:i=c
    ·subst e3;grind
    ·have e4:j=c:=za;subst e4;grind
  ·rw [if_neg e,if_neg e,if_neg za];grind
def yo (r q:Nat)(s:Nat->Nat->Rat):Nat->Nat->Rat:=λi j=>if i=r then s q j else if i=q then s r j else s i j
theorem wY.xch_ {q:Nat}(h:wY n c a s)(h1:c<q)(h2:q<n):wY n c (yo c q a) (yo c q s) where
 cn:=h.cn
 ne:=λk hk=>by
  unfold yo;rw [if_neg za,if_neg za];exact h.ne k hk
 eq:=λi hi j hj=>by
  have g:∀k,k<=c->zK (yo c q s) k=zK s k:=λk hk=>by
   unfold zK yo
   split
   ·rfl
   ·rw [if_neg za,if_neg za]
  have hk:∀k,k<c->yo c q s k=s k:=λk hk=>by funext j;unfold yo;rw [if_neg za,if_neg za]
  have d:∀i',i'<n->(∀j,yo c q s i j=s i' j)->yo c q a i j=a i' j->(i'=i\/(c<=i/\c<=i'))->yo c q a i j=zv c (λk=>if k<=i/\k<=j then wA (yo c q s) i j k else 0)+if c<=i/\c<=j then(zK (yo c q s) c)⁻¹*yo c q s i j else 0:=λi' m e1 e2 e3=>by
   rw [e2,h.eq i' m j hj,g c (qX c),e1 j];congr 1
   ·refine yj λk o=>?_;have:(k<=i'/\k<=j)↔(k<=i/\k<=j):=za;simp only [this]
    split
    ·unfold wA;rw [e1 k,hk k o,g k za]
    ·rfl
   ·have:(c<=i'/\c<=j)↔(c<=i/\c<=j):=za;simp only [this]
  by_cases e:i=c
  ·exact d q h2 (λj=>by unfold yo;rw [if_pos e]) (by unfold yo;rw [if_pos e]) za
  ·by_cases e2:i=q
   ·exact d c za (λj=>by unfold yo;rw [if_neg e,if_pos e2]) (by unfold yo;rw [if_neg e,if_pos e2]) za
   ·exact d i hi (λj=>by unfold yo;rw [if_neg e,if_neg e2]) (by unfold yo;rw [if_neg e,if_neg e2]) (Or.inl rfl)
theorem wj.xch_ {ld:List Nat}{p:Rat}(h:wj n m c a s ld p){q:Nat}(h1:ld.length<q)(h2:q<n):wj n m c (yo ld.length q a) (yo ld.length q s) ld p where
 len:=h.len
 cm:=h.cm
 up:=h.up
 lt:=h.lt
 ne:=h.ne
 piv:=λl hl i hi=>by
  unfold yo;by_cases e1:i=ld.length
  ·rw [if_pos e1,if_neg za,h.piv l hl q h2,if_neg za]
  ·rw [if_neg e1];by_cases e2:i=q
   ·rw [if_pos e2,if_neg za,h.piv l hl ld.length za,if_neg za]
   ·rw [if_neg e2,h.piv l hl i hi]
 low:=λi hi k j hj=>by
  unfold yo
  split
  ·exact h.low q za h2 j hj
  ·split
   ·exact h.low ld.length (qX _) za j hj
   ·exact h.low i hi k j hj
 fore:=λl hl j hj=>by
  unfold yo;rw [if_neg za,if_neg za];exact h.fore l hl j hj
 back:=λi hi j hj=>by
  have hs:∀l,l<ld.length->yo ld.length q s l=s l:=λl hl=>by funext j;unfold yo;rw [if_neg za,if_neg za]
  have d:∀i',i'<n->(∀j,yo ld.length q a i j=a i' j)->(∀j,yo ld.length q s i j=s i' j)->(i'=i\/(ld.length<=i/\ld.length<=i'))->p*yo ld.length q a i j=zv ld.length (λl=>yo ld.length q a i (ld.getD l 0)*yo ld.length q s l j)+if ld.length<=i then yo ld.length q s i j else 0:=λi' g e1 e2 e3=>by
   rw [e1,e2,h.back i' g j hj];congr 1
   ·exact yj λl hl=>by rw [e1,hs l hl]
   ·have:(ld.length<=i')↔(ld.length<=i):=za;simp only [this]
  by_cases e:i=ld.length
  ·exact d q h2 (λj=>by unfold yo;rw [if_pos e]) (λj=>by unfold yo;rw [if_pos e]) za
  ·by_cases e2:i=q
   ·exact d ld.length za (λj=>by unfold yo;rw [if_neg e,if_pos e2]) (λj=>by unfold yo;rw [if_neg e,if_pos e2]) za
   ·exact d i hi (λj=>by unfold yo;rw [if_neg e,if_neg e2]) (λj=>by unfold yo;rw [if_neg e,if_neg e2]) (Or.inl rfl)
 det:=by
  rw [h.det];exact uz λi hi j _=>by unfold yo;rw [if_neg za,if_neg za]
def vn (n m c:Nat)(a s:Nat->Nat->Rat):Prop:=∃t,wj n m c a t (List.range c) (zK s c)/\∀i,c<=i->i<n->∀j,c<=j->j<m->t i j=s i j
theorem vn.start (n m:Nat)(a:Nat->Nat->Rat):vn n m 0 a a:=⟨a,wj.start n m a,λ_ _ _ _ _ _=>rfl⟩
theorem vn.xch_ {q:Nat}(h:vn n m c a s)(h1:c<q)(h2:q<n):vn n m c (yo c q a) (yo c q s):=by
 obtain⟨t,h3,h4⟩:=h;have e:zK (yo c q s) c=zK s c:=by
  unfold zK yo
  split
  ·rfl
  ·rw [if_neg za,if_neg za]
 have h5:=h3.xch_ (q:=q) (by rw [XS];exact h1) h2;rw [XS] at h5;refine⟨_,by rw [e];exact h5,λi hi g j hj d=>?_⟩;unfold yo
 split
 ·exact h4 q za h2 j hj d
 ·split
  ·exact h4 c (qX c) za j hj d
  ·exact h4 i hi g j hj d
theorem vn.step {s s':Nat->Nat->Rat}(h:vn n m c a s)(hc:c<n)(hm:c<m)(h0:s c c≠0)(e:∀i,c<i->i<n->∀j,c<j->j<m->s' i j=(zK s c)⁻¹*(s c c*s i j+ -s i c*s c j))(e0:s' c c=s c c):vn n m (c+1) a s':=by
 obtain⟨t,h3,h4⟩:=h;have d:=h4 c (qX c) hc c (qX c) hm;have h5:=h3.clear hm (by rw [XS];exact hc) (by rw [XS,d];exact h0);rw [XS,d,<-YK] at h5;refine⟨_,by rw [cJ,e0];exact h5,λi hi g j hj k=>?_⟩;unfold rZ;rw [if_neg za,e i hi g j hj k,d,h4 i za g j za k,h4 i za g c (qX c) hm,h4 c (qX c) hc j za k]
theorem vn.at_ {n:Nat}(h:vn n m c a s)(hn:n<=64)(ha:∀i,i<n->∀j,j<m->LI K (a i j)){i j:Nat}(h1:c<=i)(h2:i<n)(h3:c<=j)(h4:j<m):LI (67+65*K) (s i j):=by
 obtain⟨t,h5,h6⟩:=h;rw [<-h6 i h1 h2 j h3 h4];exact h5.sz hn ha h2 h4
theorem vn.det (h:vn n m n a s):zK s n=zD n a:=by
 obtain⟨t,h5,_⟩:=h;rw [h5.det,XS];exact uz λi _ j hj=>by rw [qQ,xD hj];rfl
theorem vn.none (h:vn n n c a s)(hc:c<n)(h0:∀i,c<=i->i<n->s i c=0):zD n a=0:=by
 obtain⟨t,h5,h6⟩:=h;have hp:=h5.ne;have hg:∀l,l<c->(List.range c).getD l 0=l:=λl hl=>by rw [qQ,xD hl];rfl
 refine qg (v:=λj=>if j=c then 1 else if j<c then -(zK s c)⁻¹*t j c else 0) hc (if_pos rfl) λi hi=>?_;have hb:=h5.back i hi c hc;rw [XS] at hb;have e0:(if c<=i then t i c else 0)=0:=by
  split
  ·next e=>rw [h6 i e hi c (qX c) hc];exact h0 i e hi
  ·rfl
 rw [e0,xE] at hb;have e1:zv n (λj=>a i j*(if j=c then 1 else if j<c then -(zK s c)⁻¹*t j c else 0))=zv n (λj=>(if j=c then 1 else 0)*a i j) - zv n (λj=>if j<c then(zK s c)⁻¹*(a i j*t j c) else 0):=by
  rw [<-oC];refine yj λj _=>?_;by_cases e:j=c
  ·rw [if_pos e,if_pos e,if_neg za];grind
  ·rw [if_neg e,if_neg e]
   split<;>grind
 rw [e1,iN hc (λj=>a i j)];have cut:∀d,zv (c+d) (λj=>if j<c then(zK s c)⁻¹*(a i j*t j c) else 0)=zv c (λj=>(zK s c)⁻¹*(a i j*t j c)):=λd=>by
  induction d with
  |zero=>exact yj λj hj=>if_pos hj
  |succ d ih=>rw [<-xH,xz,ih,if_neg za,xE]
 have:=cut (n - c);rw [show c+(n - c)=n by omega] at this;rw [this,<-vL,yj (g:=λl=>a i ((List.range c).getD l 0)*t l c) λl hl=>by rw [hg l hl],<-hb]
 grind
theorem oB {m:Nat}(h:m<=n){f:Nat->Rat}(h0:∀k,m<=k->k<n->f k=0):zv n f=zv m f:=by
 obtain⟨d,rfl⟩:=Nat.le.dest h;clear h
 induction d with
 |zero=>rfl
 |succ d ih=>rw [<-xH,xz,h0 (m+d) za za,xE,ih λk h1 h2=>h0 k h1 za]
theorem wY.all (h:wY n n a s){i j:Nat}(hi:i<n)(hj:j<n):a i j=zv n λk=>if k<=i/\k<=j then wA s i j k else 0:=by
 rw [h.eq i hi j hj,if_neg za,xE]
theorem wY.turn (h:wY n n a s):wY n n (λi j=>a j i) (λi j=>s j i) where
 cn:=h.cn
 ne:=h.ne
 eq:=λi hi j hj=>by
  rw [if_neg za,xE,h.all hj hi];refine yj λk _=>?_;have hp:zK (λi j=>s j i) k=zK s k:=rfl;by_cases e:k<=i/\k<=j
  ·rw [if_pos e,if_pos ⟨e.2,e.1⟩];unfold wA;rw [hp];grind
  ·rw [if_neg e,if_neg λx=>e ⟨x.2,x.1⟩]
theorem vn.turn (h:zK s n=zD n a):zK (λi j=>s j i) n=zD n (λi j=>a j i):=by
 rw [OM,<-h];rfl
def uG (n:Nat)(s:Nat->Nat->Rat)(c:Nat):Nat->Nat->Rat:=λi j=>if c<=i/\c<=j then zK s c*zv n (λk=>if c<=k/\k<=i/\k<=j then wA s i j k else 0) else s i j
theorem TK (hc:c<n)(f:Nat->Rat)(p:Nat->Bool):zv n (λk=>if c<=k/\p k=true then f k else 0)=(if p c=true then f c else 0)+zv n (λk=>if c+1<=k/\p k=true then f k else 0):=by
 rw [<-iN hc (λk=>if p k=true then f k else 0),<-sF];refine yj λk _=>?_;by_cases e:k=c
 ·subst e;rw [if_pos rfl,if_neg (by omega:¬(k+1<=k/\_))];by_cases q:p k=true
  ·rw [if_pos ⟨qX _,q⟩,if_pos q];grind
  ·rw [if_neg λx=>q x.2,if_neg q];grind
 ·rw [if_neg e,yX,YY];by_cases q:c<=k/\p k=true
  ·rw [if_pos q,if_pos ⟨za,q.2⟩]
  ·rw [if_neg q,if_neg λx=>q ⟨za,x.2⟩]
theorem UF {c:Nat}(s:Nat->Nat->Rat)(hc:c<n)(hi:c<=i)(hj:c<=j):zv n (λk=>if c<=k/\k<=i/\k<=j then wA s i j k else 0)=wA s i j c+zv n (λk=>if c+1<=k/\k<=i/\k<=j then wA s i j k else 0):=by
 have h:=TK hc (wA s i j) (λk=>decide (k<=i/\k<=j));simp only [decide_eq_true_eq] at h;rw [h,if_pos ⟨hi,hj⟩]
theorem ov (s:Nat->Nat->Rat)(h:i<=c\/j<=c):zv n (λk=>if c+1<=k/\k<=i/\k<=j then wA s i j k else 0)=0:=u3 λk _=>if_neg za
theorem Zc {n:Nat}(hc:c<n)(h0:s c c≠0)(hp:zK s c≠0)(hi:c<=i)(hj:c<=j)(h:i=c\/j=c):uG n s c i j=s i j:=by
 unfold uG;rw [if_pos ⟨hi,hj⟩,UF s hc hi hj,ov s za];unfold wA;rcases h with rfl|rfl<;>grind
theorem iv (s:Nat->Nat->Rat):zK (uG n s c) c=zK s c:=by
 unfold zK uG
 split
 ·rfl
 ·rw [if_neg za]
theorem ow (hc:c<n)(h0:s c c≠0)(hp:zK s c≠0)(hi:c<i)(hj:c<j):uG n s (c+1) i j=(zK (uG n s c) c)⁻¹*(uG n s c c c*uG n s c i j+ -uG n s c i c*uG n s c c j):=by
 rw [iv,Zc hc h0 hp (qX c) (qX c) (Or.inl rfl),Zc hc h0 hp za (qX c) (Or.inr rfl),Zc hc h0 hp (qX c) za (Or.inl rfl)];unfold uG;rw [if_pos ⟨hi,hj⟩,if_pos ⟨za,za⟩,UF (c:=c) s hc za za,cJ];unfold wA;generalize zv n (λk=>if c+1<=k/\k<=i/\k<=j then s i k*s k j*(s k k*zK s k)⁻¹ else 0)=u
 grind
theorem oz {n m:Nat}{a s:Nat->Nat->Rat}(hm:n<=m)(ne:∀k,k<n->s k k≠0)(h:∀i,i<n->∀j,j<m->a i j=zv n (λk=>if 0<=k/\k<=i/\k<=j then wA s i j k else 0)):∀c,c<=n->vn n m c a (uG n s c)
 |0,_=>⟨a,by
    have:=wj.start n m a;have e:zK (uG n s 0) 0=1:=rfl;rw [e];exact this,λi _ hi j _ hj=>by
    unfold uG;rw [if_pos ⟨QQ _,QQ _⟩,h i hi j hj];show _=(1:Rat)*_;rw [XD]⟩
 |c+1,hc=>by
   have hp:zK s c≠0:=by
    cases c with
    |zero=>show(1:Rat)≠0;decide+kernel
    |succ c=>exact ne c za
   have h0:=ne c za;have e0:=Zc (n:=n) za h0 hp (qX c) (qX c) (Or.inl rfl);refine(oz hm ne h c za).step za za (by rw [e0];exact h0) (λi h1 _ j h3 _=>ow za h0 hp h1 h3) ?_;rw [e0];unfold uG;rw [if_neg za]
structure so (n:Nat)(s:Nat->Nat->Rat)(b:Nat->Rat)(X:Nat->Nat->Rat):Prop where
 ne:∀k,k<n->s k k≠0
 zero:∀i,i<n->X 0 i=b i
 step:∀c,c<n->∀i,i<n->X (c+1) i=if c<i then(zK s c)⁻¹*(s c c*X c i+ -X c c*s i c) else X c i
section
variable {n:Nat}{a s:Nat->Nat->Rat}{b:Nat->Rat}{X:Nat->Nat->Rat}
theorem so.pr (h:so n s b X){k:Nat}(hk:k<=n):zK s k≠0:=by
 cases k with
 |zero=>show(1:Rat)≠0;decide+kernel
 |succ k=>exact h.ne k za
theorem so.late (h:so n s b X){i:Nat}(hi:i<n):∀d,i+d<=n->X (i+d) i=X i i
 |0,_=>rfl
 |d+1,hd=>by
   rw [<-xH,h.step _ za i hi,if_neg za];exact h.late hi d za
theorem so.late' (h:so n s b X){i c:Nat}(hi:i<n)(hc:i<=c)(a:c<=n):X c i=X i i:=by
 obtain⟨d,rfl⟩:=Nat.le.dest hc;exact h.late hi d a
theorem so.eq (h:so n s b X):∀c,c<=n->∀i,i<n->b i=zv c (λk=>if k<=i then s i k*X k k*(s k k*zK s k)⁻¹ else 0)+if c<=i then(zK s c)⁻¹*X c i else 0
 |0,_,i,hi=>by
   rw [gX,if_pos (QQ _),h.zero i hi];show b i=0+(1:Rat)⁻¹*b i
   grind
 |c+1,hc,i,hi=>by
   have h0:=h.ne c za;have hp:=h.pr (k:=c) za;rw [h.eq c za i hi,xz,h.step c za i hi,cJ];by_cases e:c<=i
   ·rw [if_pos e,if_pos e];by_cases e2:c<i
    ·rw [if_pos (by omega:c+1<=i),if_pos e2];grind
    ·have:i=c:=za;subst this;rw [if_neg za];grind
   ·rw [if_neg e,if_neg e,if_neg za];grind
def uQ (n:Nat)(s:Nat->Nat->Rat)(x:Nat->Rat):Nat->Nat->Rat:=λi j=>if j<n then s i j else x i
theorem Wh (hk:k<=n):zK (uQ n s x) k=zK s k:=by
 unfold zK uQ
 split
 ·rfl
 ·rw [if_pos za]
theorem Sf (hk:k<n):wA (uQ n s x) i n k=s i k*x k*(s k k*zK s k)⁻¹:=by
 unfold wA;rw [Wh za];unfold uQ;rw [if_pos hk,if_neg (Nat.lt_irrefl n),if_pos hk]
theorem rP (hk:k<n)(hj:j<n):wA (uQ n s x) i j k=wA s i j k:=by
 unfold wA;rw [Wh za];unfold uQ;rw [if_pos hk,if_pos hj,if_pos hk]
theorem so.sz (h:so n s b X)(hs:wY n n a s){K:Nat}(hn:n<=64)(ha:∀i,i<n->∀j,j<n->LI K (a i j))(hb:∀i,i<n->LI K (b i)){c i:Nat}(hc:c<=n)(hi:i<n):LI (67+65*K) (X c i):=by
 have d:∀c i,c<=i->i<n->LI (67+65*K) (X c i):=λc i hc hi=>by
  have hL:=oz (n:=n) (m:=n+1) (a:=uQ n a b) (s:=uQ n s λk=>X k k) za (λk hk=>by unfold uQ;rw [if_pos hk];exact h.ne k hk) (λi hi j hj=>by
   by_cases e:j<n
   ·rw [show uQ n a b i j=a i j by unfold uQ;rw [if_pos e],hs.all hi e];refine yj λk hk=>?_;rw [rP hk e];by_cases q:k<=i/\k<=j
    ·rw [if_pos q,if_pos ⟨QQ _,q⟩]
    ·rw [if_neg q,if_neg λx=>q x.2]
   ·have e2:j=n:=za;subst e2;rw [show uQ j a b i j=b i by unfold uQ;rw [if_neg e],h.eq j (qX _) i hi,if_neg za,xE];refine yj λk hk=>?_;rw [Sf hk];by_cases q:k<=i
    ·rw [if_pos q,if_pos ⟨QQ _,q,za⟩]
    ·rw [if_neg q,if_neg λx=>q x.2.1]) c za
  have hx:X c i=uG n (uQ n s λk=>X k k) c i n:=by
   unfold uG;rw [if_pos ⟨hc,za⟩,Wh za];have h1:=h.eq c za i hi;have h2:=h.eq n (qX _) i hi;have hp:=h.pr (k:=c) za;rw [if_pos hc] at h1;rw [if_neg za,xE] at h2;have e1:zv n (λk=>if k<=i then s i k*X k k*(s k k*zK s k)⁻¹ else 0)=zv n (λk=>if k<c then(if k<=i then s i k*X k k*(s k k*zK s k)⁻¹ else 0) else 0)+zv n (λk=>if c<=k/\k<=i/\k<=n then wA (uQ n s λk=>X k k) i n k else 0):=by
    rw [<-sF];refine yj λk hk=>?_;rw [Sf hk];by_cases q:k<c
    ·rw [if_pos q,if_neg (by omega:¬(c<=k/\_)),xE]
    ·rw [if_neg q,YY];by_cases q2:k<=i
     ·rw [if_pos q2,if_pos ⟨za,q2,za⟩]
     ·rw [if_neg q2,if_neg λx=>q2 x.2.1]
   have e2:zv n (λk=>if k<c then(if k<=i then s i k*X k k*(s k k*zK s k)⁻¹ else 0) else 0)=zv c (λk=>if k<=i then s i k*X k k*(s k k*zK s k)⁻¹ else 0):=by
    rw [oB (m:=c) za λk h1 _=>if_neg za];exact yj λk hk=>if_pos hk
   rw [e1,e2] at h2;generalize zv n (λk=>if c<=k/\k<=i/\k<=n then wA (uQ n s λk=>X k k) i n k else 0)=u at h2⊢;generalize zv c (λk=>if k<=i then s i k*X k k*(s k k*zK s k)⁻¹ else 0)=v at h1 h2;have:(zK s c)⁻¹*X c i=u:=by grind
   rw [<-this];grind
  rw [hx];exact hL.at_ hn (λi hi j hj=>by
   unfold uQ
   split
   ·next e=>exact ha i hi j e
   ·exact hb i hi) hc hi za za
 by_cases e:c<=i
 ·exact d c i e hi
 ·rw [h.late' hi za hc];exact d i i (qX i) hi
theorem so.solves (h:so n s b X)(hs:wY n n a s){D:Rat}{z:Nat->Rat}(hz:∀k,k<n->zv n (λj=>if k<=j then s k j*z j else 0)=D*X k k):∀i,i<n->zv n (λj=>a i j*z j)=D*b i:=λi hi=>by
 have e1:zv n (λj=>a i j*z j)=zv n λj=>zv n λk=>if k<=i/\k<=j then wA s i j k*z j else 0:=yj λj hj=>by
  rw [hs.all hi hj,NU];refine yj λk _=>?_
  split
  ·rfl
  ·exact yX _
 rw [e1,Y2,h.eq n (qX _) i hi,if_neg za,xE,vL];refine yj λk hk=>?_;by_cases e:k<=i
 ·rw [if_pos e];have e2:zv n (λj=>if k<=i/\k<=j then wA s i j k*z j else 0)=s i k*(s k k*zK s k)⁻¹*zv n (λj=>if k<=j then s k j*z j else 0):=by
   rw [vL];refine yj λj _=>?_;by_cases q:k<=j
   ·rw [if_pos ⟨e,q⟩,if_pos q];unfold wA;grind
   ·rw [if_neg λx=>q x.2,if_neg q,XQ]
  rw [e2,hz k hk];grind
 ·rw [if_neg e,u3 λj _=>if_neg λx=>e x.1,XQ]
theorem OK {z:Nat->Rat}(hn:n<=64)(ha:∀i,i<n->∀j,j<n->LI K (a i j))(hb:∀i,i<n->LI K (b i))(hD:zD n a≠0)(hz:∀i,i<n->zv n (λj=>a i j*z j)=zD n a*b i){k:Nat}(hk:k<n):z k=zD n (zP a k b)/\LI (65+64*K) (z k):=by
 have e1:=fm a hk z (λl i=>a i l) n;have e2:(zv n λl=>z l*zD n (zP a k λi=>a i l))=zv n λl=>(if l=k then 1 else 0)*(z l*zD n a):=yj λl hl=>by
  by_cases e:l=k
  ·rw [if_pos e,e,gW,XD]
  ·rw [if_neg e,dL hk hl (Ne.symm e)];grind
 rw [e2,iN hk (λl=>z l*zD n a)] at e1;have e3:zD n (zP a k λi=>zv n λl=>z l*a i l)=zD n a*zD n (zP a k b):=by
  rw [<-dK a hk];refine uz λi hi j _=>?_;unfold zP
  split
  ·show zv n (λl=>z l*a i l)=zD n a*b i;rw [<-hz i hi];exact yj λl _=>YW _ _
  ·rfl
 rw [e3] at e1;have e4:z k=zD n (zP a k b):=by grind
 refine⟨e4,?_⟩;rw [e4];refine(LI.det_ (K:=K) hn λi hi j hj=>?_).up ?_
 ·unfold zP
  split
  ·exact hb i hi
  ·exact ha i hi j hj
 ·have:n*(K+1)<=64*(K+1):=qE _ hn;omega
end
