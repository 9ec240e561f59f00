/- What this claim leans on. -/
import Derived.Test.YtghpdeciaaagnaaGreatDoorQEDetT
namespace Go.Proofs.YtghpdeciaaagnaaGreatDoor
open Go Go.RowKit Go.Proofs.Tryz
set_option maxHeartbeats 16000000
set_option maxRecDepth 100000
set_option linter.unusedVariables false
set_option linter.unusedSimpArgs false
theorem zaC.drop_ {α:Type}{R:RP α}{w:World}{A:oA9}{n r:Nat}{Ls:List (List α)}(h:zaC R w A n Ls)(hr:r<=n):zaC R w (Option.map (λx=>x.add r) A) (n - r) (Ls.drop r):=by
 refine⟨by rw [List.length_drop,h.len],λi L hi=>?_⟩;rw [List.getElem?_drop] at hi;obtain⟨ad,B,d,rfl,h1,h2,h3⟩:=h.num _ L hi;exact⟨_,B,d,rfl,by rw [zah];exact h1,by rw [zef];exact h2,h3⟩
theorem EOk.msz {n m c K:Nat}{a0:Nat->Nat->Rat}{S:List (List Rat)}{ld:List Nat}{p:Rat}(hd:zaY S n m)(hi:∃a,SRel n a0 a/\zcy n m c a (atM S) ld p)(hn:n<=64)(h0:∀i,i<n->∀j,j<m->LI K (a0 i j)):zaO (67+65*K) S:=λL hL x hx=>by
 obtain⟨a,hs,hi⟩:=hi;obtain⟨i,b,rfl⟩:=List.mem_iff_getElem.1 hL;obtain⟨j,d,rfl⟩:=List.mem_iff_getElem.1 hx;have h1:=hd.rows;have h2:=hd.cols _ hL;have:=(hi.sz hn (hs.li h0) (i:=i) (j:=j) om9 om9).szq om9;have e:atM S i j=S[i][j]:=by
  unfold atM;rw [List.getD_eq_getElem?_getD (l:=S),List.getElem?_eq_getElem b];show S[i].getD j 0=_;rw [List.getD_eq_getElem?_getD,List.getElem?_eq_getElem d];rfl
 rw [e] at this;exact this
section
variable {P:Program}{ops:Array Oper}{Q:Exit->Act->World->Prop}{S:World->Prop}{fuel:Nat}{l:Array Bool}{a:Act}{w:World}
end
theorem tab_lt {w:World}(h:zai w):0<w.heap.size:=World.block_lt_of_cell? w ⟨0,0,none⟩ (h 0 de9)
theorem ElS.ownA {w:World}{g:Nat}{st:ESt}{rd:Rat}{A:oA9}{n cA:Nat}{B:oA9}{k cB:Nat}{x0 x1 x2 y0 y1 y2:Value}(h:ElS w g st rd A n cA B k cB x0 x1 x2 y0 y1 y2):∀q,(Value.slice A n cA).ownBlock=some q->g<=q:=λq hq=>by
 obtain⟨-,-,-,-,-,h1⟩:=h.cap;cases hA:A with
 |none=>rw [hA] at hq;simp [Value.ownBlock] at hq
 |some ad=>
   rw [hA] at hq;simp [Value.ownBlock] at hq;have:=h1 ad hA;omega
theorem zkL:∀{M:List (List Rat)} {r:Rat},r≠0->M.foldl (λr row=>r*zao row) r≠0
 |[],_,h=>h
 |L::M,r,h=>by
   rw [List.foldl_cons];refine zkL λe=>?_;rcases Rat.mul_eq_zero.1 e with e|e
   ·exact h e
   ·exact zld L e
theorem zoN (M:List (List Rat)):zbJ M≠0:=zkL (by decide+kernel)
section
variable {w:World}{A:oA9}{n c m K K0:Nat}{MM:List (List Rat)}
end
theorem zbn.up {K K':Nat}{M:List (List Rat)}(h:zbn K M)(e:K<=K'):zbn K' M:=⟨λrow hr=>(h.q row hr).up e,λrow hr x hx=>(h.x row hr x hx).up e⟩
theorem RF.congr {n m:Nat}{M M' R:Nat->Nat->Rat}{ld:List Nat}(h:RF n m M ld R)(e:∀i,i<n->∀j,j<m->M i j=M' i j):RF n m M' ld R:=
 ⟨h.len,h.up,h.lt,h.piv,h.zero,h.fore,λi hi j hj=>by
  rw [<-e i hi j hj,h.sum i hi j hj];exact zal λl hl=>by rw [e i hi _ (h.lt l hl)],λl hl=>by
  obtain⟨y,hy⟩:=h.span l hl;exact⟨y,λj hj=>(hy j hj).trans (zal λi hi=>by rw [e i hi j hj])⟩⟩
theorem zmr {n:Nat}(M:Nat->Nat->Rat){k:Nat}(hk:k<n)(a:Rat)(u:Nat->Rat):zaJ n (zbl M k λj=>a*u j)=a*zaJ n (zbl M k u):=by
 have h:=zeP M hk a 0 u u;have e:(λj=>a*u j+0*u j)=λj=>a*u j:=by funext j;grind
 rw [e] at h;rw [h];grind
theorem zkT (M:Nat->Nat->Rat)(k:Nat):zbl M k (M k)=M:=by
 funext i j
 unfold zbl;by_cases e:i=k
 ·rw [if_pos e,e]
 ·rw [if_neg e]
theorem zjF {m:Nat}{X:List (List Rat)}(h:zaY X m m):∀t,t<=m->zaJ m (λi j=>if i<t then zao (X.getD i [])*atM X i j else atM X i j)=zbJ (X.take t)*zaJ m (atM X)
 |0,_=>by
   have e:(λi j=>if i<0 then zao (X.getD i [])*atM X i j else atM X i j)=atM X:=by
    funext i j;rw [if_neg om9]
   rw [e];show _=(1:Rat)*_;rw [Rat.one_mul]
 |t+1,ht=>by
   have hl:=h.rows;have ih:=zjF h t om9;rw [zga om9];have e1:(λi j=>if i<t+1 then zao (X.getD i [])*atM X i j else atM X i j)=zbl (λi j=>if i<t then zao (X.getD i [])*atM X i j else atM X i j) t λj=>zao (X.getD t [])*atM X t j:=by
    funext i j
    unfold zbl;by_cases p:i=t
    ·rw [if_pos p,if_pos om9,p]
    ·rw [if_neg p];by_cases p2:i<t
     ·show _=if i<t then _ else _
      rw [if_pos p2,if_pos om9]
     ·show _=if i<t then _ else _
      rw [if_neg p2,if_neg om9]
   have e2:zbl (λi j=>if i<t then zao (X.getD i [])*atM X i j else atM X i j) t (λj=>atM X t j)=λi j=>if i<t then zao (X.getD i [])*atM X i j else atM X i j:=by
    funext i j
    unfold zbl;by_cases p:i=t
    ·rw [if_pos p,p,if_neg om9]
    ·rw [if_neg p]
   rw [e1,zmr _ om9,e2,ih]
   grind
theorem zrz {m:Nat}{X:List (List Rat)}(h:zaY X m m):zaJ m (atM (zcb X))=zbJ X*zaJ m (atM X):=by
 have e:=zjF h m (Nat.le_refl _);rw [List.take_of_length_le (by rw [h.rows];exact Nat.le_refl _)] at e;rw [<-e];exact zbd λi hi j _=>by rw [if_pos hi];exact zid h hi j
theorem detF_ker {m:Nat}{M:Nat->Nat->Rat}{v:Nat->Rat}{c:Nat}(hc:c<m)(hv:v c=1)(h:∀i,i<m->zav m (λj=>M i j*v j)=0):zaJ m M=0:=by
 have e1:=zeR M hc v (λl i=>M i l) m;have e2:(zav m λl=>v l*zaJ m (zaP M c λi=>M i l))=zav m λl=>(if l=c then 1 else 0)*(v l*zaJ m M):=zal λl hl=>by
  by_cases e:l=c
  ·rw [if_pos e,e,zec,Rat.one_mul]
  ·rw [if_neg e,zei hc hl (Ne.symm e)];grind
 rw [e2,zep hc (λl=>v l*zaJ m M),hv,Rat.one_mul] at e1;rw [<-e1,zbd (N:=zaP M c λi=>0*(λ_=>(0:Rat)) i) λi hi j _=>?_,zeh M hc,Rat.zero_mul];by_cases e:j=c
 ·rw [e,zbw,zbw];show zav m (λl=>v l*M i l)=0*0;rw [zal (g:=λl=>M i l*v l) λl _=>Rat.mul_comm _ _,h i hi];grind
 ·rw [zbC _ e,zbC _ e]
theorem zlt {xs:List Rat}{n j:Nat}:(xs.drop n).getD j 0=xs.getD (n+j) 0:=by
 rw [List.getD_eq_getElem?_getD,List.getD_eq_getElem?_getD,List.getElem?_drop]
def prF (s:Nat->Nat->Rat)(k:Nat):Rat:=if k=0 then 1 else s (k - 1) (k - 1)
theorem zfW (s:Nat->Nat->Rat)(k:Nat):prF s (k+1)=s k k:=rfl
def tmF (s:Nat->Nat->Rat)(i j k:Nat):Rat:=s i k*s k j*(s k k*prF s k)⁻¹
structure zdR (n c:Nat)(a s:Nat->Nat->Rat):Prop where
 cn:c<=n
 ne:∀k,k<c->s k k≠0
 eq:∀i,i<n->∀j,j<n->a i j=zav c (λk=>if k<=i/\k<=j then tmF s i j k else 0)+if c<=i/\c<=j then(prF s c)⁻¹*s i j else 0
theorem zdR.pr {n c:Nat}{a s:Nat->Nat->Rat}(h:zdR n c a s){k:Nat}(hk:k<=c):prF s k≠0:=by
 cases k with
 |zero=>show(1:Rat)≠0;decide+kernel
 |succ k=>exact h.ne k om9
theorem zdR.start (n:Nat)(a:Nat->Nat->Rat):zdR n 0 a a where
 cn:=Nat.zero_le _
 ne:=λk hk=>by cases hk
 eq:=λi _ j _=>by
  rw [zeX,if_pos ⟨Nat.zero_le _,Nat.zero_le _⟩];show a i j=0+(1:Rat)⁻¹*a i j
  grind
def zfR (c:Nat)(s:Nat->Nat->Rat):Nat->Nat->Rat:=λi j=>if c<i/\c<j then(prF s c)⁻¹*(s c c*s i j+ -s i c*s c j) else s i j
theorem zpw {c k:Nat}(s:Nat->Nat->Rat)(h:k<=c+1):prF (zfR c s) k=prF s k:=by
 unfold prF zfR
 split
 ·rfl
 ·rw [if_neg om9]
theorem zdR.step {n c:Nat}{a s:Nat->Nat->Rat}(h:zdR n c a s)(hc:c<n)(h0:s c c≠0):zdR n (c+1) a (zfR c s) where
 cn:=hc
 ne:=λk hk=>by
  unfold zfR;rw [if_neg om9];by_cases e:k=c
  ·rw [e];exact h0
  ·exact h.ne k om9
 eq:=λi hi j hj=>by
  have hp:=h.pr (Nat.le_refl c);have tm:∀k,k<=c->k<=i/\k<=j->tmF (zfR c s) i j k=tmF s i j k:=λk hk _=>by
   unfold tmF;rw [zpw s om9];unfold zfR;rw [if_neg om9,if_neg om9,if_neg om9]
  rw [h.eq i hi j hj,zaD];have e1:zav c (λk=>if k<=i/\k<=j then tmF (zfR c s) i j k else 0)=zav c (λk=>if k<=i/\k<=j then tmF s i j k else 0):=zal λk hk=>by
   split
   ·next e=>exact tm k om9 e
   ·rfl
  rw [e1];by_cases e:c<=i/\c<=j
  ·rw [if_pos e,if_pos e,tm c (Nat.le_refl c) e];unfold tmF;by_cases e2:c+1<=i/\c+1<=j
   ·rw [if_pos e2,zpw s (Nat.le_refl _),zfW];unfold zfR;rw [if_pos om9]
    grind
   ·rw [if_neg e2];by_cases e3:i=c
    ·subst e3;grind
    ·have e4:j=c:=om9;subst e4;grind
  ·rw [if_neg e,if_neg e,if_neg om9];grind
def xch (r q:Nat)(s:Nat->Nat->Rat):Nat->Nat->Rat:=λi j=>if i=r then s q j else if i=q then s r j else s i j
theorem zdR.xch_ {n c q:Nat}{a s:Nat->Nat->Rat}(h:zdR n c a s)(h1:c<q)(h2:q<n):zdR n c (xch c q a) (xch c q s) where
 cn:=h.cn
 ne:=λk hk=>by
  unfold xch;rw [if_neg om9,if_neg om9];exact h.ne k hk
 eq:=λi hi j hj=>by
  have d:∀k,k<=c->prF (xch c q s) k=prF s k:=λk hk=>by
   unfold prF xch
   split
   ·rfl
   ·rw [if_neg om9,if_neg om9]
  have hk:∀k,k<c->xch c q s k=s k:=λk hk=>by funext j;unfold xch;rw [if_neg om9,if_neg om9]
  have b:∀i',i'<n->(∀j,xch c q s i j=s i' j)->xch c q a i j=a i' j->(i'=i\/(c<=i/\c<=i'))->xch c q a i j=zav c (λk=>if k<=i/\k<=j then tmF (xch c q s) i j k else 0)+if c<=i/\c<=j then(prF (xch c q s) c)⁻¹*xch c q s i j else 0:=λi' f e1 e2 e3=>by
   rw [e2,h.eq i' f j hj,d c (Nat.le_refl c),e1 j];congr 1
   ·refine zal λk g=>?_;have:(k<=i'/\k<=j)↔(k<=i/\k<=j):=om9;simp only [this]
    split
    ·unfold tmF;rw [e1 k,hk k g,d k om9]
    ·rfl
   ·have:(c<=i'/\c<=j)↔(c<=i/\c<=j):=om9;simp only [this]
  by_cases e:i=c
  ·exact b q h2 (λj=>by unfold xch;rw [if_pos e]) (by unfold xch;rw [if_pos e]) om9
  ·by_cases e2:i=q
   ·exact b c om9 (λj=>by unfold xch;rw [if_neg e,if_pos e2]) (by unfold xch;rw [if_neg e,if_pos e2]) om9
   ·exact b i hi (λj=>by unfold xch;rw [if_neg e,if_neg e2]) (by unfold xch;rw [if_neg e,if_neg e2]) (Or.inl rfl)
theorem zcy.xch_ {n m c:Nat}{a s:Nat->Nat->Rat}{ld:List Nat}{p:Rat}(h:zcy n m c a s ld p){q:Nat}(h1:ld.length<q)(h2:q<n):zcy n m c (xch ld.length q a) (xch ld.length q s) ld p where
 len:=h.len
 cm:=h.cm
 up:=h.up
 lt:=h.lt
 ne:=h.ne
 piv:=λl hl i hi=>by
  unfold xch;by_cases e1:i=ld.length
  ·rw [if_pos e1,if_neg om9,h.piv l hl q h2,if_neg om9]
  ·rw [if_neg e1];by_cases e2:i=q
   ·rw [if_pos e2,if_neg om9,h.piv l hl ld.length om9,if_neg om9]
   ·rw [if_neg e2,h.piv l hl i hi]
 low:=λi hi f j hj=>by
  unfold xch
  split
  ·exact h.low q om9 h2 j hj
  ·split
   ·exact h.low ld.length (Nat.le_refl _) om9 j hj
   ·exact h.low i hi f j hj
 fore:=λl hl j hj=>by
  unfold xch;rw [if_neg om9,if_neg om9];exact h.fore l hl j hj
 back:=λi hi j hj=>by
  have hs:∀l,l<ld.length->xch ld.length q s l=s l:=λl hl=>by funext j;unfold xch;rw [if_neg om9,if_neg om9]
  have b:∀i',i'<n->(∀j,xch ld.length q a i j=a i' j)->(∀j,xch ld.length q s i j=s i' j)->(i'=i\/(ld.length<=i/\ld.length<=i'))->p*xch ld.length q a i j=zav ld.length (λl=>xch ld.length q a i (ld.getD l 0)*xch ld.length q s l j)+if ld.length<=i then xch ld.length q s i j else 0:=λi' d e1 e2 e3=>by
   rw [e1,e2,h.back i' d j hj];congr 1
   ·exact zal λl hl=>by rw [e1,hs l hl]
   ·have:(ld.length<=i')↔(ld.length<=i):=om9;simp only [this]
  by_cases e:i=ld.length
  ·exact b q h2 (λj=>by unfold xch;rw [if_pos e]) (λj=>by unfold xch;rw [if_pos e]) om9
  ·by_cases e2:i=q
   ·exact b ld.length om9 (λj=>by unfold xch;rw [if_neg e,if_pos e2]) (λj=>by unfold xch;rw [if_neg e,if_pos e2]) om9
   ·exact b i hi (λj=>by unfold xch;rw [if_neg e,if_neg e2]) (λj=>by unfold xch;rw [if_neg e,if_neg e2]) (Or.inl rfl)
 det:=by
  rw [h.det];exact zbd λi hi j _=>by unfold xch;rw [if_neg om9,if_neg om9]
def LSz (n m c:Nat)(a s:Nat->Nat->Rat):Prop:=∃t,zcy n m c a t (List.range c) (prF s c)/\∀i,c<=i->i<n->∀j,c<=j->j<m->t i j=s i j
theorem LSz.start (n m:Nat)(a:Nat->Nat->Rat):LSz n m 0 a a:=⟨a,zcy.start n m a,λ_ _ _ _ _ _=>rfl⟩
theorem LSz.xch_ {n m c q:Nat}{a s:Nat->Nat->Rat}(h:LSz n m c a s)(h1:c<q)(h2:q<n):LSz n m c (xch c q a) (xch c q s):=by
 obtain⟨t,h3,h4⟩:=h;have e:prF (xch c q s) c=prF s c:=by
  unfold prF xch
  split
  ·rfl
  ·rw [if_neg om9,if_neg om9]
 have h5:=h3.xch_ (q:=q) (by rw [List.length_range];exact h1) h2;rw [List.length_range] at h5;refine⟨_,by rw [e];exact h5,λi hi d j hj b=>?_⟩;unfold xch
 split
 ·exact h4 q om9 h2 j hj b
 ·split
  ·exact h4 c (Nat.le_refl c) om9 j hj b
  ·exact h4 i hi d j hj b
theorem LSz.step {n m c:Nat}{a s s':Nat->Nat->Rat}(h:LSz n m c a s)(hc:c<n)(hm:c<m)(h0:s c c≠0)(e:∀i,c<i->i<n->∀j,c<j->j<m->s' i j=(prF s c)⁻¹*(s c c*s i j+ -s i c*s c j))(e0:s' c c=s c c):LSz n m (c+1) a s':=by
 obtain⟨t,h3,h4⟩:=h;have b:=h4 c (Nat.le_refl c) hc c (Nat.le_refl c) hm;have h5:=h3.clear hm (by rw [List.length_range];exact hc) (by rw [List.length_range,b];exact h0);rw [List.length_range,b,<-List.range_succ] at h5;refine⟨_,by rw [zfW,e0];exact h5,λi hi d j hj f=>?_⟩;unfold clr;rw [if_neg om9,e i hi d j hj f,b,h4 i om9 d j om9 f,h4 i om9 d c (Nat.le_refl c) hm,h4 c (Nat.le_refl c) hc j om9 f]
theorem LSz.at_ {n m c K:Nat}{a s:Nat->Nat->Rat}(h:LSz n m c a s)(hn:n<=64)(ha:∀i,i<n->∀j,j<m->LI K (a i j)){i j:Nat}(h1:c<=i)(h2:i<n)(h3:c<=j)(h4:j<m):LI (67+65*K) (s i j):=by
 obtain⟨t,h5,h6⟩:=h;rw [<-h6 i h1 h2 j h3 h4];exact h5.sz hn ha h2 h4
theorem LSz.det {n m:Nat}{a s:Nat->Nat->Rat}(h:LSz n m n a s):prF s n=zaJ n a:=by
 obtain⟨t,h5,_⟩:=h;rw [h5.det,List.length_range];exact zbd λi _ j hj=>by rw [List.getD_eq_getElem?_getD,List.getElem?_range hj];rfl
theorem LSz.none {n c:Nat}{a s:Nat->Nat->Rat}(h:LSz n n c a s)(hc:c<n)(h0:∀i,c<=i->i<n->s i c=0):zaJ n a=0:=by
 obtain⟨t,h5,h6⟩:=h;have hp:=h5.ne;have hg:∀l,l<c->(List.range c).getD l 0=l:=λl hl=>by rw [List.getD_eq_getElem?_getD,List.getElem?_range hl];rfl
 refine detF_ker (v:=λj=>if j=c then 1 else if j<c then -(prF s c)⁻¹*t j c else 0) hc (if_pos rfl) λi hi=>?_;have hb:=h5.back i hi c hc;rw [List.length_range] at hb;have e0:(if c<=i then t i c else 0)=0:=by
  split
  ·next e=>rw [h6 i e hi c (Nat.le_refl c) hc];exact h0 i e hi
  ·rfl
 rw [e0,Rat.add_zero] at hb;have e1:zav n (λj=>a i j*(if j=c then 1 else if j<c then -(prF s c)⁻¹*t j c else 0))=zav n (λj=>(if j=c then 1 else 0)*a i j) - zav n (λj=>if j<c then(prF s c)⁻¹*(a i j*t j c) else 0):=by
  rw [<-sumN_sub];refine zal λj _=>?_;by_cases e:j=c
  ·rw [if_pos e,if_pos e,if_neg om9];grind
  ·rw [if_neg e,if_neg e]
   split<;>grind
 rw [e1,zep hc (λj=>a i j)];have cut:∀d,zav (c+d) (λj=>if j<c then(prF s c)⁻¹*(a i j*t j c) else 0)=zav c (λj=>(prF s c)⁻¹*(a i j*t j c)):=λd=>by
  induction d with
  |zero=>exact zal λj hj=>if_pos hj
  |succ d ih=>rw [<-Nat.add_assoc,zaD,ih,if_neg om9,Rat.add_zero]
 have:=cut (n - c);rw [show c+(n - c)=n by omega] at this;rw [this,<-zaZ,zal (g:=λl=>a i ((List.range c).getD l 0)*t l c) λl hl=>by rw [hg l hl],<-hb]
 grind
theorem sumN_cut {n m:Nat}(h:m<=n){f:Nat->Rat}(h0:∀k,m<=k->k<n->f k=0):zav n f=zav m f:=by
 obtain⟨d,rfl⟩:=Nat.le.dest h;clear h
 induction d with
 |zero=>rfl
 |succ d ih=>rw [<-Nat.add_assoc,zaD,h0 (m+d) om9 om9,Rat.add_zero,ih λk h1 h2=>h0 k h1 om9]
theorem zdR.all {n:Nat}{a s:Nat->Nat->Rat}(h:zdR n n a s){i j:Nat}(hi:i<n)(hj:j<n):a i j=zav n λk=>if k<=i/\k<=j then tmF s i j k else 0:=by
 rw [h.eq i hi j hj,if_neg om9,Rat.add_zero]
theorem zdR.turn {n:Nat}{a s:Nat->Nat->Rat}(h:zdR n n a s):zdR n n (λi j=>a j i) (λi j=>s j i) where
 cn:=h.cn
 ne:=h.ne
 eq:=λi hi j hj=>by
  rw [if_neg om9,Rat.add_zero,h.all hj hi];refine zal λk _=>?_;have hp:prF (λi j=>s j i) k=prF s k:=rfl;by_cases e:k<=i/\k<=j
  ·rw [if_pos e,if_pos ⟨e.2,e.1⟩];unfold tmF;rw [hp];grind
  ·rw [if_neg e,if_neg λx=>e ⟨x.2,x.1⟩]
theorem LSz.turn {n:Nat}{a s:Nat->Nat->Rat}(h:prF s n=zaJ n a):prF (λi j=>s j i) n=zaJ n (λi j=>a j i):=by
 rw [zqk,<-h];rfl
theorem zhc.rows {E:El Rat}{w:World}{lo:Nat}{v:Value}{M:List (List Rat)}{vs:List Value}(h:zhc E w lo v M vs):zbN (zaM E) w lo 70 v M vs:=
 ⟨h.own,h.sl,λi L hi=>by
  obtain⟨u,us,h1,h2⟩:=h.num i L hi;obtain⟨B,d,rfl,h3,-⟩:=h2.shape;exact⟨B,d,h1,h3⟩⟩
theorem zhc.new {E:El Rat}{w:World}{lo:Nat}{v:Value}{M:List (List Rat)}{vs:List Value}{u:Value}(h:zhc E w lo v M vs)(a:u.ownBlock=none\/u.ownBlock=some w.heap.size):(∀(i:Nat) (u':Value) (b:Nat),vs[i]?=some u'->u'.ownBlock=some b->u.ownBlock≠some b)/\∀b,u.ownBlock=some b->v.ownBlock≠some b:=by
 have hl:=h.len;refine⟨λi u' b hi e e2=>?_,λb e e2=>?_⟩
 ·have hlt:=(List.getElem?_eq_some_iff.1 hi).1;obtain⟨z,zs,h1,h2⟩:=h.num i _ (List.getElem?_eq_getElem om9);rw [hi] at h1;injection h1 with h1;subst h1;have:=(h2.own.lt b e).2;rcases a with a|a
  ·rw [a] at e2;cases e2
  ·rw [a] at e2;injection e2 with e2;omega
 ·have:=(h.own.lt b e2).2;rcases a with a|a
  ·rw [a] at e;cases e
  ·rw [a] at e;injection e with e;omega
theorem zbc.pre {W:World}{A:oA9}{n c k:Nat}{R:ziV}(h:zbc W A n c R)(hk:k<=n):zbc W A k c R:=⟨Nat.le_trans hk h.fits,h.small,λr hr=>h.row r om9⟩
theorem zor {z:Nat}{A:oA9}{n c:Nat}{w:World}(hz:z<=255)(hc:n<=c)(hc2:c<=1048576):
  Calls prog 40 #[.agg #[.int .u8 (z:Int),.slice A n c],.int .i64 6] w (λe w'=>e=.returned (.agg #[.int .u8 ((z%7:Nat):Int),.slice A (min n (z%7)) c])/\Below w.heap.size w w'):=by
 obtain⟨m,hm⟩:∃m,z%7=m:=⟨_,rfl⟩;have h:(z:Int)%7=(m:Int):=om9;have hzt:(z:Int).tmod 7=(m:Int):=by rw [Int.tmod_eq_emod_of_nonneg om9];exact h
 rw [hm];have bm:m<=6:=om9;have i0:(0:Int)<=(m:Int):=om9;obtain⟨d,a,f,-⟩:=zbO w 24 24 #[.int .u8 (z:Int),.slice A n c] #[.int .u8 0,.slice none 0 0];obtain⟨p0,p1⟩:=a.c2;have sf0:=a.frozen 0;have k1:=a.set_ 0 (.int .u8 (m:Int));have k1:Blk _ _ _ #[.int .u8 (m:Int),.slice A n c]:=k1;obtain⟨q0,q1⟩:=k1.c2;have sf1:=k1.frozen 1;have j1:=Blk.far (p:=⟨w.heap.size,0,none⟩) f (by show w.heap.size+1≠w.heap.size;omega) (.int .u8 (m:Int));have g:=zae (p:=⟨w.heap.size,0,none⟩) (.int .u8 (m:Int)) (Nat.le_refl w.heap.size) d;by_cases hlt:m<n
 ·rw [show min n m=m by omega];have d1:decide ((n:Int)>(m:Int))=true:=decide_eq_true om9;have d2:decide ((m:Int)<(n:Int))=true:=decide_eq_true om9;have i1:(m:Int)<=(c:Int):=om9;have i2:(m:Int)<=(n:Int):=om9;have i3:m<=c:=om9;have k2:=k1.set_ 1 (.slice A m c);have k2:Blk _ _ _ #[.int .u8 (m:Int),.slice A m c]:=k2;obtain⟨q2,q3⟩:=k2.c2;have j2:=Blk.far (p:=⟨w.heap.size,1,none⟩) j1 (by show w.heap.size+1≠w.heap.size;omega) (.slice A m c);have i:=zae (p:=⟨w.heap.size,1,none⟩) (.slice A m c) (Nat.le_refl w.heap.size) g;obtain⟨j,l,k,o⟩:=st2 j2 (.int .u8 (m:Int));obtain⟨r0,r1⟩:=(sn2 j2 (.int .u8 (m:Int)) (.slice A m c)).c2;have b:=lh9 (zbO w 24 24 #[.int .u8 (m:Int),.slice A m c] #[.int .u8 (m:Int),.slice A m c]).1;clear d a f k1 k2 j1 j2 g i hm h hz;go_enter func40,ntmps40;go_wp2;refine bodyPost_ret (v:=.agg #[.int .u8 (m:Int),.slice A m c]) (by simp [results,results40,go_sem,r0,r1]) rfl ?_;exact⟨rfl,b.out⟩
 ·rw [show min n m=n by omega];have d1:decide ((n:Int)>(m:Int))=false:=decide_eq_false om9;have d2:decide ((m:Int)<(n:Int))=false:=decide_eq_false om9;obtain⟨j,l,k,o⟩:=st2 j1 (.int .u8 (m:Int));obtain⟨r0,r1⟩:=(sn2 j1 (.int .u8 (m:Int)) (.slice A n c)).c2;have b:=lh9 (zbO w 24 24 #[.int .u8 (m:Int),.slice A n c] #[.int .u8 (m:Int),.slice A n c]).1;clear d a f k1 j1 g hm h hz;go_enter func40,ntmps40;go_wp2;refine bodyPost_ret (v:=.agg #[.int .u8 (m:Int),.slice A n c]) (by simp [results,results40,go_sem,r0,r1]) rfl ?_;exact⟨rfl,b.out⟩
