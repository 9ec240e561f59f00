/- What this claim leans on. -/
import Derived.Test.YtghpdeciaaagnaaGreatDoorQEElim
import Derived.Test.YtghpdeciaaagnaaGreatDoorQBun7
namespace Go.Proofs.YtghpdeciaaagnaaGreatDoor
open Go Go.RowKit Go.Proofs.Tryz
open Go.ChangeShapes Go.WideShapes Go.ChangeAt
set_option maxHeartbeats 16000000
set_option linter.unusedVariables false
namespace UA
set_option maxHeartbeats 16000000
theorem one_le {H:Type}(d:DataW H):1<=Rows.uptoBulk d:=by
 cases d with
 |lit l=>cases l<;>simp [Rows.uptoBulk]
 |nil=>simp [Rows.uptoBulk]
 |ptr d=>simp [Rows.uptoBulk]
 |slice elems spare=>simp [Rows.uptoBulk]
 |agg parts=>simp [Rows.uptoBulk]
 |iface t d=>simp [Rows.uptoBulk]
 |map entries=>simp [Rows.uptoBulk]
 |held h=>simp [Rows.uptoBulk]
theorem zkx {H:Type}(l:List (DataW H)):l.length<=Rows.uptoBulkAll l:=by
 induction l with
 |nil=>simp [Rows.uptoBulkAll]
 |cons x r ih=>have:=one_le x;simp only [Rows.uptoBulkAll,List.length_cons];omega
theorem slice_le {H:Type}(a b:List (DataW H)):a.length+b.length+1<=Rows.uptoBulk (.slice a b):=by
 have h1:=zkx a;have h2:=zkx b;simp only [Rows.uptoBulk];omega
end UA
open Go Go.RowKit Go.Proofs.Tryz
open Go.ChangeShapes Go.WideShapes Go.ChangeAt Go.Deep
set_option maxHeartbeats 16000000
set_option linter.unusedVariables false
open Go Go.RowKit Go.Proofs.Tryz
open Go.ChangeShapes Go.WideShapes Go.ChangeAt Go.Deep
set_option maxHeartbeats 16000000
set_option linter.unusedVariables false
open Go Go.RowKit Go.Proofs.Tryz
set_option maxHeartbeats 16000000
set_option linter.unusedVariables false
def Sp (n m:Nat)(M:Nat->Nat->Rat)(v:Nat->Rat):Prop:=∃y:Nat->Rat,∀j,j<m->v j=zav n λi=>y i*M i j
theorem Sp.zero {n m:Nat}{M:Nat->Nat->Rat}:Sp n m M λ_=>0:=⟨λ_=>0,λj _=>(zbq λi _=>Rat.zero_mul _).symm⟩
theorem Sp.comb {n m:Nat}{M:Nat->Nat->Rat}{u v:Nat->Rat}(a b:Rat)(h:Sp n m M u)(k:Sp n m M v):Sp n m M λj=>a*u j+b*v j:=by
 obtain⟨y,hy⟩:=h;obtain⟨z,hz⟩:=k;refine⟨λi=>a*y i+b*z i,λj hj=>?_⟩;show a*u j+b*v j=_;rw [hy j hj,hz j hj,zaZ,zaZ,<-zcj];exact zal λi _=>by grind
theorem Sp.scale {n m:Nat}{M:Nat->Nat->Rat}{u v:Nat->Rat}(a:Rat)(h:Sp n m M u)(e:∀j,j<m->v j=a*u j):Sp n m M v:=by
 obtain⟨y,hy⟩:=h;refine⟨λi=>a*y i,λj hj=>?_⟩;rw [e j hj,hy j hj,zaZ];exact zal λi _=>by grind
theorem Sp.congr {n m:Nat}{M:Nat->Nat->Rat}{u v:Nat->Rat}(h:Sp n m M u)(e:∀j,j<m->v j=u j):Sp n m M v:=by
 obtain⟨y,hy⟩:=h;exact⟨y,λj hj=>(e j hj).trans (hy j hj)⟩
theorem zep {k c:Nat}(hc:c<k)(f:Nat->Rat):zav k (λi=>(if i=c then 1 else 0)*f i)=f c:=by
 induction k with
 |zero=>cases hc
 |succ k ih=>
   rw [zaD];by_cases h:c=k
   ·subst h;rw [if_pos rfl,Rat.one_mul,zbq λi hi=>by rw [if_neg om9,Rat.zero_mul],Rat.zero_add]
   ·rw [if_neg om9,Rat.zero_mul,Rat.add_zero,ih om9]
theorem Sp.row {n m:Nat}{M:Nat->Nat->Rat}{i:Nat}(hi:i<n):Sp n m M (M i):=⟨λq=>if q=i then 1 else 0,λj _=>(zep hi λq=>M q j).symm⟩
theorem Sp.sum {n m:Nat}{M:Nat->Nat->Rat}{u:Nat->Nat->Rat}(f:Nat->Rat){q:Nat}(h:∀l,l<q->Sp n m M (u l)):Sp n m M λj=>zav q λl=>f l*u l j:=by
 induction q with
 |zero=>exact Sp.zero
 |succ q ih=>
   refine((ih λl hl=>h l om9).comb 1 (f q) (h q om9)).congr λj _=>?_;rw [zaD,Rat.one_mul]
theorem Sp.trans {n m n':Nat}{M M':Nat->Nat->Rat}{v:Nat->Rat}(h:Sp n' m M' v)(k:∀i,i<n'->Sp n m M (M' i)):Sp n m M v:=by
 obtain⟨y,hy⟩:=h;exact(Sp.sum y k).congr hy
structure RF (n m:Nat)(M:Nat->Nat->Rat)(ld:List Nat)(R:Nat->Nat->Rat):Prop where
 len:ld.length<=n
 up:∀l l',l<l'->l'<ld.length->ld.getD l 0<ld.getD l' 0
 lt:∀l,l<ld.length->ld.getD l 0<m
 piv:∀l,l<ld.length->∀i,i<n->R i (ld.getD l 0)=if i=l then 1 else 0
 zero:∀i,ld.length<=i->i<n->∀j,j<m->R i j=0
 fore:∀l,l<ld.length->∀j,j<ld.getD l 0->R l j=0
 sum:∀i,i<n->∀j,j<m->M i j=zav ld.length λl=>M i (ld.getD l 0)*R l j
 span:∀l,l<ld.length->Sp n m M (R l)
theorem RF.of_elim {n m:Nat}{a0 M:Nat->Nat->Rat}{e:ESt}(h:EOk n m m a0 e)(ht:∀i,i<n->∃t:Rat,t≠0/\∀j,j<m->a0 i j=t*M i j):RF n m M e.ld λi j=>e.p⁻¹*atM e.S i j:=by
 obtain⟨hd,a,hs,hi⟩:=h;have hp:=hi.ne
 -- rows of either are multiples of the other's
 have r1:∀i,i<n->∃i',i'<n/\∃t:Rat,∀j,j<m->a i j=t*M i' j:=λi b=>by
  obtain⟨i',k1,e,_,k3⟩:=hs.rows.1 i b;obtain⟨t,_,k4⟩:=ht i' k1;exact⟨i',k1,e*t,λj hj=>by rw [k3 j,k4 j hj];grind⟩
 have r2:∀i,i<n->∃i',i'<n/\∃t:Rat,∀j,j<m->M i j=t*a i' j:=λi b=>by
  obtain⟨i',k1,e,_,k3⟩:=hs.rows.2 i b;obtain⟨t,k2,k4⟩:=ht i b;exact⟨i',k1,t⁻¹*e,λj hj=>by have q1:=k3 j;have q2:=k4 j hj;grind⟩
 refine⟨hi.len,hi.up,hi.lt,λl hl i b=>?_,λi h1 h2 j hj=>by show e.p⁻¹*atM e.S i j=0;rw [hi.low i h1 h2 j hj,Rat.mul_zero],λl hl j hj=>by show e.p⁻¹*atM e.S l j=0;rw [hi.fore l hl j hj,Rat.mul_zero],λi b j hj=>?_,λl hl=>?_⟩
 ·show e.p⁻¹*atM e.S i (e.ld.getD l 0)=_;rw [hi.piv l hl i b]
  split<;>grind
 ·obtain⟨i',k1,t,k2⟩:=r2 i b;have e1:=hi.back i' k1 j hj;have e2:(if e.ld.length<=i' then atM e.S i' j else 0)=0:=by
   split
   ·next h=>exact hi.low i' h k1 j hj
   ·rfl
  rw [e2,Rat.add_zero] at e1;have e3:zav e.ld.length (λl=>M i (e.ld.getD l 0)*(e.p⁻¹*atM e.S l j))=t*e.p⁻¹*zav e.ld.length (λl=>a i' (e.ld.getD l 0)*atM e.S l j):=by
   rw [zaZ];exact zal λl hl=>by rw [k2 _ (by have:=hi.lt l hl;omega)];grind
  show M i j=zav e.ld.length (λl=>M i (e.ld.getD l 0)*(e.p⁻¹*atM e.S l j));rw [e3,k2 j hj,<-e1]
  grind
 ·have hk:=hi.len;have e1:∀j,j<m->atM e.S l j=zav e.ld.length λq=>zaJ e.ld.length (zaP (λi j=>a i (e.ld.getD j 0)) l λi=>if i=q then 1 else 0)*a q j:=λj hj=>by
   rw [hi.col hl hj];have:zaJ e.ld.length (zaP (λi j=>a i (e.ld.getD j 0)) l λi=>a i j)=zaJ e.ld.length (zaP (λi j=>a i (e.ld.getD j 0)) l λi=>zav e.ld.length λq=>a q j*if i=q then 1 else 0):=zbd λi b j' _=>by
    by_cases e:j'=l
    ·rw [e,zbw,zbw,<-zep b (λq=>a q j)];exact zal λq _=>by
      rw [Rat.mul_comm];congr 1;by_cases h:q=i
      ·rw [if_pos h,if_pos h.symm]
      ·rw [if_neg h,if_neg (Ne.symm h)]
    ·rw [zbC _ e,zbC _ e]
   rw [this,zeR _ hl (λq=>a q j) (λq i=>if i=q then 1 else 0)];exact zal λq _=>Rat.mul_comm _ _
  have e2:∀q,q<e.ld.length->Sp n m M (a q):=λq hq=>by
   obtain⟨i',k1,t,k2⟩:=r1 q om9;exact(Sp.row k1).scale t k2
  exact(Sp.sum _ e2).scale e.p⁻¹ λj hj=>by rw [<-e1 j hj]
theorem RF.of_span {n m:Nat}{M R:Nat->Nat->Rat}{ld:List Nat}(h:RF n m M ld R){v:Nat->Rat}(hv:Sp n m M v):∀j,j<m->v j=zav ld.length λl=>v (ld.getD l 0)*R l j:=by
 obtain⟨y,hy⟩:=hv;intro j hj;rw [hy j hj];have e1:zav n (λi=>y i*M i j)=zav n (λi=>zav ld.length λl=>y i*M i (ld.getD l 0)*R l j):=zal λi hi=>by
  rw [h.sum i hi j hj,zaZ];exact zal λl _=>by grind
 rw [e1,zic];refine zal λl hl=>?_;rw [hy _ (h.lt l hl),Rat.mul_comm,zaZ];exact zal λi _=>Rat.mul_comm _ _
theorem RF.begins {n m:Nat}{M R:Nat->Nat->Rat}{ld:List Nat}(h:RF n m M ld R){v:Nat->Rat}(hv:Sp n m M v){c:Nat}(hc:c<m)(h0:∀j,j<c->v j=0)(h1:v c≠0):∃l,l<ld.length/\ld.getD l 0=c:=by
 refine Classical.byContradiction λhn=>h1 ?_;rw [h.of_span hv c hc];refine zbq λl hl=>?_;rcases Nat.lt_trichotomy (ld.getD l 0) c with a|a|a
 ·rw [h0 _ a,Rat.zero_mul]
 ·exact absurd ⟨l,hl,a⟩ hn
 ·rw [h.fore l hl c a,Rat.mul_zero]
theorem zkQ:∀{xs ys:List Nat},xs.Pairwise (·<·)->ys.Pairwise (·<·)->(∀x,x ∈ xs↔x ∈ ys)->xs=ys
 |[],[],_,_,_=>rfl
 |[],y::ys,_,_,h=>by have:=(h y).2 List.mem_cons_self;cases this
 |x::xs,[],_,_,h=>by have:=(h x).1 List.mem_cons_self;cases this
 |x::xs,y::ys,h1,h2,h=>by
   rw [List.pairwise_cons] at h1 h2;have e:x=y:=by
    rcases List.mem_cons.1 ((h x).1 List.mem_cons_self) with a|a
    ·exact a
    ·rcases List.mem_cons.1 ((h y).2 List.mem_cons_self) with b|b
     ·exact b.symm
     ·have:=h1.1 y b;have:=h2.1 x a;omega
   subst e;congr 1;refine zkQ h1.2 h2.2 λz=>⟨λhz=>?_,λhz=>?_⟩
   ·rcases List.mem_cons.1 ((h z).1 (List.mem_cons_of_mem _ hz)) with a|a
    ·have:=h1.1 z hz;omega
    ·exact a
   ·rcases List.mem_cons.1 ((h z).2 (List.mem_cons_of_mem _ hz)) with a|a
    ·have:=h2.1 z hz;omega
    ·exact a
theorem zdG {xs:List Nat}{l:Nat}(h:l<xs.length):xs.getD l 0 ∈ xs:=by
 rw [List.getD_eq_getElem?_getD,List.getElem?_eq_getElem h];exact List.getElem_mem h
theorem zjx {xs:List Nat}{x:Nat}(h:x ∈ xs):∃l,l<xs.length/\xs.getD l 0=x:=by
 obtain⟨l,hl,e⟩:=List.mem_iff_getElem.1 h;exact⟨l,hl,by rw [List.getD_eq_getElem?_getD,List.getElem?_eq_getElem hl];exact e⟩
theorem RF.rising {n m:Nat}{M R:Nat->Nat->Rat}{ld:List Nat}(h:RF n m M ld R):ld.Pairwise (·<·):=by
 rw [List.pairwise_iff_getElem];intro i j hi hj a;have:=h.up i j a hj;rw [List.getD_eq_getElem?_getD,List.getD_eq_getElem?_getD,List.getElem?_eq_getElem hi,List.getElem?_eq_getElem hj] at this;exact this
theorem RF.one {n m n':Nat}{M R M' R':Nat->Nat->Rat}{ld a:List Nat}(h:RF n m M ld R)(k:RF n' m M' a R')(h1:∀i,i<n'->Sp n m M (M' i))(h2:∀i,i<n->Sp n' m M' (M i)):ld=a/\∀l,l<ld.length->∀j,j<m->R l j=R' l j:=by
 have s1:∀l,l<a.length->Sp n m M (R' l):=λl hl=>(k.span l hl).trans h1;have s2:∀l,l<ld.length->Sp n' m M' (R l):=λl hl=>(h.span l hl).trans h2;have e:ld=a:=by
  refine zkQ h.rising k.rising λx=>⟨λhx=>?_,λhx=>?_⟩
  ·obtain⟨l,hl,rfl⟩:=zjx hx;obtain⟨q,hq,e⟩:=k.begins (s2 l hl) (h.lt l hl) (h.fore l hl) (by rw [h.piv l hl l (by have:=h.len;omega),if_pos rfl];decide+kernel);rw [<-e];exact zdG hq
  ·obtain⟨l,hl,rfl⟩:=zjx hx;obtain⟨q,hq,e⟩:=h.begins (s1 l hl) (k.lt l hl) (k.fore l hl) (by rw [k.piv l hl l (by have:=k.len;omega),if_pos rfl];decide+kernel);rw [<-e];exact zdG hq
 subst e;refine⟨rfl,λl hl j hj=>?_⟩;have hk:=h.len;rw [k.of_span (s2 l hl) j hj];have:zav ld.length (λq=>R l (ld.getD q 0)*R' q j)=zav ld.length (λq=>(if q=l then 1 else 0)*R' q j):=zal λq hq=>by
  rw [h.piv q hq l om9];by_cases e:q=l
  ·rw [if_pos e,if_pos e.symm]
  ·rw [if_neg e,if_neg (Ne.symm e)]
 rw [this,zep hl]
theorem RF.inj {n m:Nat}{M R:Nat->Nat->Rat}{ld:List Nat}(h:RF n m M ld R){l q:Nat}(hl:l<ld.length)(hq:q<ld.length)(e:ld.getD l 0=ld.getD q 0):l=q:=by
 rcases Nat.lt_trichotomy l q with a|a|a
 ·have:=h.up l q a hq;omega
 ·exact a
 ·have:=h.up q l a hl;omega
theorem sumN_sub (k:Nat)(f g:Nat->Rat):zav k (λi=>f i - g i)=zav k f - zav k g:=by
 have:=zcj k f (λi=> -g i);rw [zjS] at this;rw [Rat.sub_eq_add_neg,<-this];exact zal λi _=>Rat.sub_eq_add_neg _ _
theorem RF.some (n m:Nat)(G:Nat->Nat->Rat):∃ld R,RF n m G ld R:=by
 have h:=zpt (zbW n m G) (Nat.le_refl m);refine⟨_,_,RF.of_elim h λi hi=>⟨1,by decide+kernel,λj hj=>by rw [zcW hi hj,Rat.one_mul]⟩⟩
open Go Go.RowKit Go.Proofs.Tryz
set_option maxHeartbeats 16000000
set_option linter.unusedVariables false
def zdf (w:World)(x:Nat)(e:Ending)(w':World):Prop:=∃(A:oA9) (n c:Nat),e=.returned (.agg #[.slice A n c])/\zad w' x A n c/\Below w.heap.size w w'
def zli (w:World)(x y:Nat)(e:Ending)(w':World):Prop:=∃(A:oA9) (n c:Nat) (B:oA9) (m d:Nat),e=.returned (.tuple #[.agg #[.slice A n c],.agg #[.slice B m d]])/\zad w' x A n c/\zad w' y B m d/\Below w.heap.size w w'
theorem Sz.gcd {K K' x y:Nat}(h:Sz K x)(h':Sz K' y):Sz (K+K') (Nat.gcd x y):=by
 rcases Nat.eq_zero_or_pos x with e|e
 ·rw [e,Nat.gcd_zero_left];exact h'.up om9
 ·exact(h.of_le (Nat.gcd_le_left y e)).up om9
structure GcdC:Prop where
 of:∀(x y:Nat) (A D:oA9) (n m c d:Nat) (w:World),zad w x A n c->zad w y D m d->n<=1073741824->m<=1073741824->zai w->Calls prog 159 #[.agg #[.slice A n c],.agg #[.slice D m d]] w (zdf w (Nat.gcd x y))
 reduce:∀(x y:Nat) (A D:oA9) (n m c d:Nat) (w:World),zad w x A n c->zad w y D m d->n<=1073741824->m<=1073741824->zai w->Calls prog 103 #[.agg #[.slice A n c],.agg #[.slice D m d]] w (zli w (x / Nat.gcd x y) (y / Nat.gcd x y))
open Go Go.RowKit Go.Proofs.Tryz
set_option maxHeartbeats 16000000
set_option maxRecDepth 100000
set_option linter.unusedVariables false
set_option linter.unusedSimpArgs false
open Go Go.RowKit Go.Proofs.Tryz
set_option maxHeartbeats 16000000
set_option maxRecDepth 100000
set_option linter.unusedVariables false
set_option linter.unusedSimpArgs false
open Go Go.RowKit Go.Proofs.Tryz
set_option maxHeartbeats 16000000
set_option linter.unusedVariables false
theorem zca {T:World->Prop}:IntC T where
 new s x A n c w _ hA hn:=zmH s x A n c w hA om9
 of z w _ h1 h2:=zon z w h1 h2
 belowI z b A n c w _ hA hn:=zke z b A n c w hA
 abs z b A n c w _ hA hn:=(zmD z b A n c w hA om9).mono λ_ _ ⟨A',n',c',he,hw,hb,_⟩=>⟨A',n',c',he,hw,hb⟩
 sign z b A n c w _ hA hn:=zlx z b A n c w hA
 cmp x y b b' A D n m c d w _ hA hD hn hm:=zmF x y b b' A D n m c d w hA hD om9 om9
 add x y b b' A D n m c d w _ hA hD hn hm:=zmE x y b b' A D n m c d w hA hD om9 om9
 mul x y b b' A D n m c d w _ hA hD hn hm:=zmG x y b b' A D n m c d w hA hD om9 om9
open Go Go.RowKit Go.Proofs.Tryz
set_option maxHeartbeats 16000000
set_option maxRecDepth 100000
set_option linter.unusedVariables false
theorem cop2 {q:Nat}(h:q%2≠0):Nat.gcd 2 q=1:=by
 have h1:Nat.gcd 2 q ∣ 2:=Nat.gcd_dvd_left 2 q;have h2:=Nat.le_of_dvd de9 h1;have h3:Nat.gcd 2 q≠0:=λe=>by rw [e] at h1;exact absurd (Nat.eq_zero_of_zero_dvd h1) de9
 have h4:Nat.gcd 2 q≠2:=λe=>h (Nat.mod_eq_zero_of_dvd (by rw [<-e];exact Nat.gcd_dvd_right 2 q));omega
theorem zgR {p q:Nat}(hp:p%2=0)(hq:q%2≠0):Nat.gcd (p / 2) q=Nat.gcd p q:=by
 have e:p=2*(p / 2):=om9;have h:Nat.Coprime 2 q:=cop2 hq;rw [show Nat.gcd p q=Nat.gcd (2*(p / 2)) q from by rw [<-e]];exact(h.gcd_mul_left_cancel (p / 2)).symm
theorem gcd_take {p q:Nat}(h:q<=p):Nat.gcd (p - q) q=Nat.gcd p q:=by
 obtain⟨s,rfl⟩:∃s,p=q+s:=⟨p - q,om9⟩;rw [Nat.add_sub_cancel_left,Nat.gcd_self_add_left]
open Go Go.RowKit Go.Proofs.Tryz
set_option maxHeartbeats 16000000
set_option linter.unusedVariables false
def zck (l:Rat)(row:List Rat):Rat:=row.foldl (λl x=>l*(((l*x).den:Nat):Rat)) l
def zao (row:List Rat):Rat:=zck 1 row
def zfH (x:Rat):Prop:=∃z:Int,x=(z:Rat)
theorem zfH.mul {x y:Rat}(h:zfH x)(k:zfH y):zfH (x*y):=by
 obtain⟨z,rfl⟩:=h;obtain⟨t,rfl⟩:=k;exact⟨z*t,(Rat.intCast_mul z t).symm⟩
theorem zfH.nat (n:Nat):zfH (n:Rat):=⟨n,(Rat.intCast_natCast n).symm⟩
theorem den_ne (x:Rat):((x.den:Nat):Rat)≠0:=λh=>x.den_nz (by
 have:((x.den:Nat):Rat)=((0:Nat):Rat):=h;exact Rat.natCast_inj.1 this)
theorem den_int (x:Rat):zfH (((x.den:Nat):Rat)*x):=⟨x.num,by rw [Rat.mul_comm];exact zdK x⟩
theorem zer (l x:Rat)(row:List Rat):zck l (x::row)=zck (l*(((l*x).den:Nat):Rat)) row:=rfl
theorem zhG:∀{row:List Rat} {l:Rat},l≠0->zck l row≠0
 |[],_,h=>h
 |x::row,l,h=>by
   rw [zer];refine zhG λe=>?_;rcases Rat.mul_eq_zero.1 e with e|e
   ·exact h e
   ·exact den_ne _ e
theorem zhH:∀{row:List Rat} {l:Rat},∃q:Rat,zfH q/\zck l row=q*l
 |[],l=>⟨1,⟨1,by decide+kernel⟩,(Rat.one_mul l).symm⟩
 |x::row,l=>by
   obtain⟨q,hq,e⟩:=zhH (row:=row) (l:=l*(((l*x).den:Nat):Rat));exact⟨q*(((l*x).den:Nat):Rat),hq.mul (zfH.nat _),by rw [zer,e];grind⟩
theorem zlc:∀{row:List Rat} {l:Rat},∀x ∈ row,zfH (zck l row*x)
 |x::row,l,y,h=>by
   rcases List.mem_cons.1 h with rfl|h
   ·obtain⟨q,hq,e⟩:=zhH (row:=row) (l:=l*(((l*y).den:Nat):Rat));rw [zer,e];have:=hq.mul (den_int (l*y));rw [show q*(l*(((l*y).den:Nat):Rat))*y=q*((((l*y).den:Nat):Rat)*(l*y)) by grind];exact this
   ·rw [zer];exact zlc y h
theorem den_dvd {q z:Int}{r:Rat}(h:(q:Rat)*r=(z:Rat)):(r.den:Int)∣ q:=by
 have h1:(q:Rat)*(r*((r.den:Nat):Rat))=(z:Rat)*((r.den:Nat):Rat):=by rw [<-h];grind
 rw [zdK,<-Rat.intCast_mul,<-Rat.intCast_natCast,<-Rat.intCast_mul] at h1;have h2:q*r.num=z*(r.den:Int):=Rat.intCast_inj.1 h1;have h3:r.den ∣ q.natAbs*r.num.natAbs:=by
  rw [<-Int.natAbs_mul,h2,Int.natAbs_mul];exact⟨z.natAbs,by rw [Nat.mul_comm];rfl⟩
 have h4:r.den ∣ q.natAbs:=Nat.Coprime.dvd_of_dvd_mul_right r.reduced.symm h3;exact Int.ofNat_dvd_left.2 h4
theorem LI.int {K:Nat}{x:Rat}(h:LI K x):zfH x:=by obtain⟨z,e,_⟩:=h;exact⟨z,e⟩
theorem LI.of_mul {K:Nat}{q x y:Rat}(h:LI K y)(hq:zfH q)(hx:zfH x)(e:y=q*x)(h0:q≠0):LI K x:=by
 obtain⟨z,rfl⟩:=hq;obtain⟨t,rfl⟩:=hx;obtain⟨v,rfl,hv⟩:=h;refine⟨t,rfl,hv.of_le ?_⟩;rw [<-Rat.intCast_mul] at e;rw [Rat.intCast_inj.1 e,Int.natAbs_mul];have:z≠0:=λhz=>h0 (by rw [hz];rfl);exact Nat.le_mul_of_pos_left _ (Int.natAbs_pos.2 this)
theorem zrA {row:List Rat}{l:Rat}(h:zfH l):zfH (zck l row):=by
 obtain⟨q,hq,e⟩:=zhH (row:=row) (l:=l);rw [e];exact hq.mul h
theorem one_int:zfH 1:=⟨1,by decide+kernel⟩
theorem zld (row:List Rat):zao row≠0:=zhG (by decide+kernel)
theorem znF:∀{row:List Rat} {l:Rat} {K L:Nat},LI L l->(∀x ∈ row,SzQ K x)->LI (L+row.length*K) (zck l row)
 |[],l,K,L,hl,_=>by rw [List.length_nil,Nat.zero_mul];exact hl
 |x::row,l,K,L,hl,h=>by
   rw [zer];have h1:LI K (((l*x).den:Nat):Rat):=by
    obtain⟨z,hz,_⟩:=hl;have hd:(l*x).den ∣ x.den:=by
     have:((x.den:Int):Rat)*(l*x)=((z*x.num:Int):Rat):=by
      rw [Rat.intCast_mul,<-hz,<-zdK x,Rat.intCast_natCast];grind
     exact Int.natCast_dvd_natCast.1 (den_dvd this)
    exact⟨((l*x).den:Int),(Rat.intCast_natCast _).symm,((h x List.mem_cons_self).den).of_le (Nat.le_of_dvd (Nat.pos_of_ne_zero x.den_nz) hd)⟩
   refine(znF (K:=K) (hl.mul h1) λy hy=>h y (List.mem_cons_of_mem _ hy)).up ?_;rw [List.length_cons,Nat.succ_mul];omega
theorem num_le {l x:Rat}{L K:Nat}(hl:LI L l)(hx:SzQ K x)(hi:zfH (l*x)):LI (L+K) (l*x):=by
 obtain⟨z,hz,a⟩:=hl;obtain⟨t,ht⟩:=hi;refine⟨t,ht,?_⟩
 -- t*den=z*num
 have h1:t*(x.den:Int)=z*x.num:=by
  have:(t:Rat)*((x.den:Nat):Rat)=(z:Rat)*(x.num:Rat):=by
   rw [<-ht,hz,<-zdK x];grind
  rw [<-Rat.intCast_natCast,<-Rat.intCast_mul,<-Rat.intCast_mul] at this;exact Rat.intCast_inj.1 this
 have h2:t.natAbs*x.den=z.natAbs*x.num.natAbs:=by
  rw [<-Int.natAbs_mul,<-h1,Int.natAbs_mul];rfl
 refine(a.mul hx.num).of_le ?_;rw [<-h2];exact Nat.le_mul_of_pos_right _ (Nat.pos_of_ne_zero x.den_nz)
theorem zed {row:List Rat}{K n:Nat}(hn:row.length<=n)(h:∀x ∈ row,SzQ K x):LI (1+(n+1)*K) (zao row)/\∀x ∈ row,LI (1+(n+1)*K) (zao row*x):=by
 have h1:=znF (K:=K) LI.one h;have hm:row.length*K<=n*K:=Nat.mul_le_mul_right _ hn;have hs:(n+1)*K=n*K+K:=Nat.succ_mul n K;exact⟨h1.up om9,λx hx=>(num_le h1 (h x hx) (zlc x hx)).up om9⟩
theorem zph {row:List Rat}{K k:Nat}(h:LI K (zao row)):LI K (zao (row.take k)):=by
 obtain⟨q,hq,e⟩:=zhH (row:=row.drop k) (l:=zao (row.take k));have e2:zck (zao (row.take k)) (row.drop k)=zao row:=by
  unfold zao zck;rw [<-List.foldl_append,List.take_append_drop]
 rw [e2] at e;exact h.of_mul hq (zrA one_int) e λhz=>zld row (by rw [e,hz,Rat.zero_mul])
theorem zpg {row:List Rat}{k:Nat}(h:k<row.length):zao (row.take (k+1))=zao (row.take k)*(((zao (row.take k)*row.getD k 0).den:Nat):Rat):=by
 unfold zao zck;rw [List.take_succ_eq_append_getElem h,List.foldl_append,List.getD_eq_getElem?_getD,List.getElem?_eq_getElem h];rfl
theorem num_div {x:Rat}(h:x.den≠1):(x.num:Rat) / x=((x.den:Nat):Rat):=by
 have hx:x≠0:=λe=>h (by rw [e];rfl);have:=zdK x;rw [<-this]
 grind
