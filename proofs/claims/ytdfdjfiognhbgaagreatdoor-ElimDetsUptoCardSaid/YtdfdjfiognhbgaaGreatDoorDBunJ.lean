/- What this claim leans on. -/
import Derived.Test.YtdfdjfiognhbgaaGreatDoorDBunI
set_option linter.unusedVariables false
set_option linter.unusedSimpArgs false
namespace Go.Proofs.YtdfdjfiognhbgaaGreatDoor
open Go Go.RowKit Go.Proofs.Tryz
set_option maxHeartbeats 16000000
set_option maxRecDepth 100000
variable {S:List (List Rat)}{ld:List Nat}{xs:List Rat}{K K' c i j k m n:Nat}{a a0 s:Nat->Nat->Rat}{p x y:Rat}
theorem Yt (x y:Nat)(A D:ze)(n m c d:Nat)(w:World)(hA:zn w x A n c)(hD:zn w y D m d)(hn:n<=274877906944)(hm:m<=274877906944):
  Calls prog 163 #[.agg #[.slice A n c],.agg #[.slice D m d]] w (jI w (x / y) (decide (y≠0))):=by
 by_cases hy:y=0
 ·have e:x / y=0:=by rw [hy,Nat.div_zero]
  have e2:decide (y≠0)=false:=by simp [hy]
  rw [e,e2];exact cP 0 0 false A D n m c d w (λw' hb=>Z8 x y A D n m c d w' (hA.below hb) (hD.below hb) hy)
 ·have e2:decide (y≠0)=true:=by simp [hy]
  rw [e2];exact cP (x / y) (x%y) true A D n m c d w (λw' hb=>fV x y A D n m c d w' (hA.below hb) (hD.below hb) zb zb hy)
theorem S7 (x y:Nat)(A D:ze)(n m c d:Nat)(w:World)(hA:zn w x A n c)(hD:zn w y D m d)(hn:n<=1073741824)(hm:m<=1073741824)(hT:zu w):
  Calls prog 133 #[.agg #[.slice A n c],.agg #[.slice D m d]] w (Zm w (x / Nat.gcd x y) (y / Nat.gcd x y)):=by
 have HO:=zj w (λw' hb=>rt x y A D n m c d w' (hA.below hb) (hD.below hb) hn hm (hT.on hb));obtain⟨g,hg⟩:∃g,Nat.gcd x y=g:=⟨_,rfl⟩;have lg:(dg 18446744073709551616 g).length<=2147483648:=by
  rw [<-hg];rcases QT x with e|e
  ·rw [e,XE,hD.len];omega
  ·exact qL (tm zg (Nat.gcd_le_left y e)) (by rw [hA.len];omega)
 rw [hg] at HO⊢;have t:=zj w (λw' hb A1 n1 c1 (h1:zn w' g A1 n1 c1)=>Yt x g A A1 n n1 c c1 w' (hA.below hb) h1 zb (by rw [<-h1.len];omega));have u:=zj w (λw' hb A1 n1 c1 (h1:zn w' g A1 n1 c1)=>Yt y g D A1 m n1 d c1 w' (hD.below hb) h1 zb (by rw [<-h1.len];omega));obtain⟨X,hX⟩:∃g',x / g=g':=⟨_,rfl⟩;obtain⟨Y,hY⟩:∃g',y / g=g':=⟨_,rfl⟩;obtain⟨bb,a⟩:∃g':Bool,decide (g≠0)=g':=⟨_,rfl⟩;rw [hX,a] at t;rw [hY,a] at u;rw [hX,hY];clear hA hD hT hg lg hX hY a;go_enter func133,ntmps133;go_wp2_with fail;obtain⟨b1,b2,b3,b4,b5⟩:=yn w 37 37 37 #[.slice A n c] #[.slice D m d] #[.slice none 0 0];obtain⟨W3,s⟩:∃W,((w.alloc (.cells #[.slice A n c] 37)).alloc (.cells #[.slice D m d] 37)).alloc (.cells #[.slice none 0 0] 37)=W:=⟨_,rfl⟩;rw [s] at b1 b2 b3 b4 b5⊢;have z:W3.heap.size=w.heap.size+1+1+1:=by rw [<-s];simp
 have kA:=b2.one.alloc (.cells #[.slice none 0 0] 37);have kD:=b3.one.alloc (.cells #[.slice none 0 0] 37);have kx:=b4.one.alloc (.cells #[.slice none 0 0] 37);have ky:=xg.new W3 37 (.slice none 0 0);rw [z] at ky;have hB:=b1.alloc b1.size (.cells #[.slice none 0 0] 37);clear b1 b2 b3 b4 b5 s z;generalize W3.alloc (.cells #[.slice none 0 0] 37)=W4 at*;obtain⟨p,hp⟩:∃p,w.heap.size=p:=⟨_,rfl⟩;have hpw:w.heap.size<=p:=zb;refine(HO.o _ hB).mono ?_;rw [hp] at kA kD kx ky⊢;clear hp;rintro e w1 ⟨A1,n1,c1,rfl,i,hb⟩;obtain⟨d1,d2,d3⟩:=zw w1 37 #[.slice A1 n1 c1];have a:=zc hb d1;have kA:=kA.keep a;have kD:=kD.keep a;have kx:=kx.keep a;have ky:=ky.keep a;have hB:=zc hB a;have i:=i.below d1;have kg:=d2.one;clear d1 d2 d3 hb a;have e1:=kA.cell;have e2:=kg.cell;go_wp2_with fail;generalize F:w1.alloc (.cells #[.slice A1 n1 c1] 37)=W5 at*;generalize w1.heap.size=z1 at*;clear F;refine(t.o _ hB A1 n1 c1 i).mono ?_;clear e1 e2;rintro e w2 ⟨A2,n2,c2,rfl,j,hb⟩;have hz2:=(ky.keep hb).lt;obtain⟨d1,d2,d3⟩:=zw w2 37 #[.slice A2 n2 c2];have a:=zc hb d1;have kD:=kD.keep a;have kx:=kx.keep a;have ky:=ky.keep a;have kg:=kg.keep a;have hB:=zc hB a;have i:=i.below a;have j:=j.below d1;have k7:=d2.one;clear d1 d2 d3 hb a kA;have e1:=kD.cell;have e2:=kg.cell;go_wp2_with fail;generalize G:w2.alloc (.cells #[.slice A2 n2 c2] 37)=W6 at*;generalize w2.heap.size=z2 at*;clear G;refine(u.o _ hB A1 n1 c1 i).mono ?_;clear e1 e2;rintro e w3 ⟨A3,n3,c3,rfl,o,hb⟩;have hz3:=(ky.keep hb).lt;obtain⟨d1,d2,d3⟩:=zw w3 37 #[.slice A3 n3 c3];have a:=zc hb d1;have kx:=kx.keep a;have ky:=ky.keep a;have k7:=k7.keep a;have hB:=zc hB a;have j:=j.below a;have o:=o.below d1;have k9:=d2.one;clear d1 d2 d3 hb a kD kg i;go_wp2_with fail;generalize H:w3.alloc (.cells #[.slice A3 n3 c3] 37)=W7 at*;generalize w3.heap.size=z3 at*;clear H;have q7:W7.cell? ⟨z2,0,none⟩=some (.slice A2 n2 c2):=k7.cell;have q9:W7.cell? ⟨z3,0,none⟩=some (.slice A3 n3 c3):=k9.cell;have qx:W7.cell? ⟨p+1+1,0,none⟩=some (.slice none 0 0):=kx.cell;have qy:W7.cell? ⟨p+1+1+1,0,none⟩=some (.slice none 0 0):=ky.cell;have fx:W7.frozen? ⟨p+1+1,0,none⟩=false:=kx.frozen;have fy:W7.frozen? ⟨p+1+1+1,0,none⟩=false:=ky.frozen;have q9':=zR (q:=⟨p+1+1,0,none⟩) (.slice A2 n2 c2) (by show z3≠p+1+1;omega) q9;have E:=kx.set_ (.slice A2 n2 c2);have k:=ky.far (p:=⟨p+1+1,0,none⟩) (by show p+1+1+1≠p+1+1;omega) (.slice A2 n2 c2);have qy':=k.cell;have fy':=k.frozen;have B:=wf j kx (.slice A2 n2 c2);have C:=wf o kx (.slice A2 n2 c2);have rx:=(E.far (p:=⟨p+1+1+1,0,none⟩) (by show p+1+1≠p+1+1+1;omega) (.slice A3 n3 c3)).cell;have ry:=(k.set_ (.slice A3 n3 c3)).cell;have HE : zd (Zm w X Y (.returned (.tuple #[.agg #[.slice A2 n2 c2],.agg #[.slice A3 n3 c3]])) ((W7.setCell ⟨p + 1 + 1,0,none⟩ (.slice A2 n2 c2)).setCell ⟨p + 1 + 1 + 1,0,none⟩ (.slice A3 n3 c3)).drew) :=
  ⟨_,_,_,_,_,_,rfl,wf B k _,wf C k _,(hB.setCell (p:=⟨p+1+1,0,none⟩) (by show w.heap.size<=p+1+1;omega) _).setCell (p:=⟨p+1+1+1,0,none⟩) (by show w.heap.size<=p+1+1+1;omega) _|>.drew⟩
 clear k7 k9 kx ky hB j o E k B C;go_region
 all_goals
  go_wp2
  refine bodyPost_ret (v:=.tuple #[.agg #[.slice A2 n2 c2],.agg #[.slice A3 n3 c3]]) (by simp [results,results133,go_sem,rx,ry]) rfl ?_
  exact HE.o
theorem Sz.of_words {w:World}{x:Nat}{A:ze}(h:zn w x A n c)(hn:n<=K):Sz K x:=by
 have h1:=ym (b:=18446744073709551616) zg x;rw [h.len] at h1;exact qJ h1 (qV zg hn)
theorem gQ:dO where
 of x y A D n m c d w hA hD hn hm hT:=rt x y A D n m c d w hA hD hn hm hT
 reduce x y A D n m c d w hA hD hn hm hT:=S7 x y A D n m c d w hA hD hn hm hT
def sg (c:Nat):Rat:=if c%2=0 then 1 else -1
def yw (c j:Nat):Nat:=if j<c then j else j+1
def yv (M:Nat->Nat->Rat)(c:Nat):Nat->Nat->Rat:=λi j=>M (i+1) (yw c j)
def zI:Nat->(Nat->Nat->Rat)->Rat
 |0,_=>1
 |n+1,M=>zC (n+1) λc=>sg c*M 0 c*zI n (yv M c)
theorem vr (n:Nat)(M:Nat->Nat->Rat):zI (n+1) M=zC (n+1) λc=>sg c*M 0 c*zI n (yv M c):=rfl
theorem U6 (c:Nat):sg (c+1)= -sg c:=by
 unfold sg;by_cases h:c%2=0
 ·rw [if_neg zb,if_pos h]
 ·rw [if_pos zb,if_neg h,Rat.neg_neg]
theorem jV {c:Nat}(hj:j<n):yw c j<n+1:=by unfold yw;split<;>omega
theorem jm (c j:Nat):yw c j≠c:=by unfold yw;split<;>omega
theorem uq:∀{n:Nat} {M N:Nat->Nat->Rat},(∀i,i<n->∀j,j<n->M i j=N i j)->zI n M=zI n N
 |0,_,_,_=>rfl
 |n+1,M,N,h=>by
   rw [vr,vr];refine yt λc hc=>?_;rw [h 0 zb c hc,uq (n:=n) (M:=yv M c) (N:=yv N c) λi hi j hj=>h (i+1) zb _ (jV hj)]
def zL (M:Nat->Nat->Rat)(k:Nat)(v:Nat->Rat):Nat->Nat->Rat:=λi j=>if j=k then v i else M i j
theorem wV (M:Nat->Nat->Rat)(k:Nat)(v:Nat->Rat)(i:Nat):zL M k v i k=v i:=if_pos rfl
theorem va (M:Nat->Nat->Rat){k j:Nat}(h:j≠k)(v:Nat->Rat)(i:Nat):zL M k v i j=M i j:=if_neg h
theorem fi (M:Nat->Nat->Rat)(k:Nat):zL M k (λi=>M i k)=M:=by
 funext i j;unfold zL;split
 ·next h=>rw [h]
 ·rfl
theorem cN (M:Nat->Nat->Rat)(k:Nat)(v:Nat->Rat):yv (zL M k v) k=yv M k:=by
 funext i j;show(if yw k j=k then _ else _)=_;rw [if_neg (jm k j)];rfl
def th (c k:Nat):Nat:=if k<c then k else k - 1
theorem Zu (h:k≠c):yw c j=k↔j=th c k:=by unfold yw th;split<;>split<;>omega
theorem jr (h:k≠c)(hk:k<n+1)(hc:c<n+1):th c k<n:=by unfold th;split<;>omega
theorem aO {M:Nat->Nat->Rat}(h:k≠c)(v:Nat->Rat):yv (zL M k v) c=zL (yv M c) (th c k) (λi=>v (i+1)):=by
 funext i j
 show(if yw c j=k then _ else _)=(if j=th c k then _ else _);by_cases e:j=th c k
 ·rw [if_pos e,if_pos ((Zu h).2 e)]
 ·rw [if_neg e,if_neg λq=>e ((Zu h).1 q)];rfl
theorem mU:∀{n:Nat} (M:Nat->Nat->Rat) {k:Nat} (_:k<n) (a b:Rat) (u v:Nat->Rat),zI n (zL M k λi=>a*u i+b*v i)=a*zI n (zL M k u)+b*zI n (zL M k v)
 |n+1,M,k,hk,a,b,u,v=>by
   rw [vr,vr,vr,wU,wU,<-sc];refine yt λc hc=>?_;by_cases h:k=c
   ·subst h;rw [cN,cN,cN];simp only [zL,if_true]
    grind
   ·rw [aO h,aO h,aO h,mU (yv M c) (jr h hk hc) a b (λi=>u (i+1)) (λi=>v (i+1))];simp only [zL,if_neg (λe:c=k=>h e.symm)]
    grind
theorem ee {n:Nat}(M:Nat->Nat->Rat){k:Nat}(hk:k<n)(a:Rat)(u:Nat->Rat):zI n (zL M k λi=>a*u i)=a*zI n (zL M k u):=by
 have h:=mU M hk a 0 u u;rw [yV,XJ] at h;rw [<-h];congr 2
 funext i
 grind
theorem fw {n:Nat}(M:Nat->Nat->Rat){k:Nat}(hk:k<n)(f:Nat->Rat)(u:Nat->Nat->Rat):∀q,zI n (zL M k λi=>zC q λl=>f l*u l i)=zC q λl=>f l*zI n (zL M k (u l))
 |0=>by
   have:=ee M hk 0 (λ_=>0);have e:(λi:Nat=>(0:Rat)*(λ_=>0) i)=λ_=>0:=by funext i;exact yV _
   rw [e] at this;show zI n (zL M k λi=>0)=0;rw [this,yV]
 |q+1=>by
   rw [wj,<-fw M hk f u q];have:=mU M hk 1 (f q) (λi=>zC q λl=>f l*u l i) (u q);rw [XA] at this;rw [<-this];congr 2
   funext i
   rw [wj,XA]
theorem V4 {f:Nat->Rat}{k:Nat}(h2:f k+f (k+1)=0):∀{n:Nat},k+1<n->(∀c,c<n->c≠k->c≠k+1->f c=0)->zC n f=0
 |n+1,hk,h1=>by
   rw [wj];by_cases e:n=k+1
   ·subst e;rw [wj,tj λi hi=>h1 i zb zb zb,YM,h2]
   ·rw [V4 h2 (n:=n) zb (λc hc=>h1 c zb),h1 n zb zb zb,XJ]
theorem cK:∀{n:Nat} {M:Nat->Nat->Rat} {k:Nat},k+1<n->(∀i,i<n->M i k=M i (k+1))->zI n M=0
 |n+1,M,k,hk,h=>by
   rw [vr];have h1:∀c,c<n+1->c≠k->c≠k+1->sg c*M 0 c*zI n (yv M c)=0:=λc hc e1 e2=>by
    have:zI n (yv M c)=0:=by
     refine cK (k:=th c k) ?_ λi hi=>?_
     ·unfold th;split<;>omega
     ·have a1:yw c (th c k)=k:=(Zu (Ne.symm e1)).2 rfl;have a2:yw c (th c k+1)=k+1:=by unfold yw th;split<;>split<;>omega
      show M (i+1) (yw c (th c k))=M (i+1) (yw c (th c k+1));rw [a1,a2];exact h (i+1) zb
    rw [this,xI]
   have h2:sg k*M 0 k*zI n (yv M k)+sg (k+1)*M 0 (k+1)*zI n (yv M (k+1))=0:=by
    have:zI n (yv M k)=zI n (yv M (k+1)):=uq λi hi j hj=>by
     show M (i+1) (yw k j)=M (i+1) (yw (k+1) j);by_cases e:j=k
     ·subst e;have a1:yw j j=j+1:=by unfold yw;split<;>omega
      have a2:yw (j+1) j=j:=by unfold yw;split<;>omega
      rw [a1,a2];exact(h (i+1) zb).symm
     ·have:yw k j=yw (k+1) j:=by unfold yw;split<;>split<;>omega
      rw [this]
    rw [this,U6,<-h 0 zb]
    grind
   exact V4 (f:=λc=>sg c*M 0 c*zI n (yv M c)) h2 zb h1
theorem Q2 (M:Nat->Nat->Rat){k:Nat}(hk:k+1<n)(u v:Nat->Rat):zI n (zL (zL M k u) (k+1) v)= -zI n (zL (zL M k v) (k+1) u):=by
 have z:∀x:Nat->Rat,zI n (zL (zL M k x) (k+1) x)=0:=λx=>cK hk λi _=>by
  rw [va _ zb,wV,wV]
 have sw:∀x y:Nat->Rat,zL (zL M k x) (k+1) y=zL (zL M (k+1) y) k x:=λx y=>by
  funext i j;simp only [zL];by_cases a:j=k+1
  ·rw [if_pos a,if_neg zb,if_pos a]
  ·rw [if_neg a];by_cases b:j=k
   ·rw [if_pos b,if_pos b]
   ·rw [if_neg b,if_neg b,if_neg a]
 have e1:=z (λi=>1*u i+1*v i);rw [mU _ hk,sw,sw,mU _ (by omega:k<n),mU _ (by omega:k<n),<-sw,<-sw,<-sw,<-sw,z,z] at e1
 grind
theorem bO:∀(d:Nat) {n:Nat} {M:Nat->Nat->Rat} {k:Nat},k+1+d<n->(∀i,i<n->M i k=M i (k+1+d))->zI n M=0
 |0,n,M,k,hk,h=>cK hk h
 |d+1,n,M,k,hk,h=>by
   have e:M=zL (zL M (k+1+d) λi=>M i (k+1+d)) (k+1+d+1) λi=>M i (k+1+d+1):=by rw [fi,fi]
   rw [e,Q2 M zb,bO d (k:=k) zb,Rat.neg_zero];intro i hi;rw [va _ zb,va _ zb,va _ zb,wV];exact h i hi
theorem ef {M:Nat->Nat->Rat}{l:Nat}(hk:k<n)(hl:l<n)(hne:k≠l):zI n (zL M k λi=>M i l)=0:=by
 rcases xY k l with h|h
 ·obtain⟨d,rfl⟩:∃d,l=k+1+d:=⟨l - k - 1,zb⟩;exact bO d zb λi _=>by rw [wV,va _ zb]
 ·obtain⟨d,rfl⟩:∃d,k=l+1+d:=⟨k - l - 1,zb⟩;exact bO d (k:=l) zb λi _=>by rw [va _ zb,wV]
theorem cV:∀(n:Nat) {M:Nat->Nat->Rat},(∀i,i<n->M i n=0)->zI (n+1) M=M n n*zI n M
 |0,M,_=>by
   show zC 1 _=_;rw [wj,eG];show 0+1*M 0 0*1=M 0 0*1
   grind
 |n+1,M,h=>by
   rw [vr,wj,h 0 zb,xI,yV,XJ,vr n,wU];refine yt λc hc=>?_;rw [cV n (M:=yv M c) (λi hi=>by
    show M (i+1) (yw c n)=0;rw [show yw c n=n+1 by unfold yw;split<;>omega];exact h (i+1) zb)]
   have:yv M c n n=M (n+1) (n+1):=by show M (n+1) (yw c n)=_;rw [show yw c n=n+1 by unfold yw;split<;>omega]
   rw [this]
   grind
structure x6 (n m c:Nat)(a s:Nat->Nat->Rat)(ld:List Nat)(p:Rat):Prop where
 len:ld.length<=n
 cm:c<=m
 up:∀l l',l<l'->l'<ld.length->ld.getD l 0<ld.getD l' 0
 lt:∀l,l<ld.length->ld.getD l 0<c
 ne:p≠0
 piv:∀l,l<ld.length->∀i,i<n->s i (ld.getD l 0)=if i=l then p else 0
 low:∀i,ld.length<=i->i<n->∀j,j<c->s i j=0
 fore:∀l,l<ld.length->∀j,j<ld.getD l 0->s l j=0
 back:∀i,i<n->∀j,j<m->p*a i j=zC ld.length (λl=>a i (ld.getD l 0)*s l j)+if ld.length<=i then s i j else 0
 det:p=zI ld.length λi j=>a i (ld.getD j 0)
theorem x6.start (n m:Nat)(a:Nat->Nat->Rat):x6 n m 0 a a [] 1 where
 len:=qN _
 cm:=qN _
 up:=λl l' _ h=>by cases h
 lt:=λl h=>by cases h
 ne:=by decide+kernel
 piv:=λl h=>by cases h
 low:=λi _ _ j h=>by cases h
 fore:=λl h=>by cases h
 back:=λi _ j _=>by
  show 1*a i j=zC 0 _+if 0<=i then a i j else 0
  rw [if_pos (qN _),eG];grind
 det:=rfl
theorem x6.skip (h:x6 n m c a s ld p)(hc:c<m)(h0:∀i,ld.length<=i->i<n->s i c=0):x6 n m (c+1) a s ld p:=
 { h with
  cm:=hc
  lt:=λl hl=>Nat.lt_succ_of_lt (h.lt l hl)
  low:=λi h1 h2 j hj=>by
   rcases xY j c with e|e
   ·exact h.low i h1 h2 j e
   ·rw [show j=c by omega];exact h0 i h1 h2}
def wi (r q:Nat)(s:Nat->Nat->Rat):Nat->Nat->Rat:=λi j=>if i=r then s q j else if i=q then -s r j else s i j
theorem Zj (k:Nat)(f:Nat->Rat):zC k (λi=> -f i)= -zC k f:=by
 have:=wU k (-1) f;rw [show(-1:Rat)*zC k f= -zC k f by grind] at this;rw [this];exact yt λi _=>by grind
theorem x6.swap (h:x6 n m c a s ld p){q:Nat}(h1:ld.length<q)(h2:q<n):x6 n m c (wi ld.length q a) (wi ld.length q s) ld p where
 len:=h.len
 cm:=h.cm
 up:=h.up
 lt:=h.lt
 ne:=h.ne
 piv:=λl hl i hi=>by
  unfold wi;by_cases e1:i=ld.length
  ·rw [if_pos e1,if_neg zb,h.piv l hl q h2,if_neg zb]
  ·rw [if_neg e1];by_cases e2:i=q
   ·rw [if_pos e2,if_neg zb,h.piv l hl ld.length zb,if_neg zb,Rat.neg_zero]
   ·rw [if_neg e2,h.piv l hl i hi]
 low:=λi hi d j hj=>by
  unfold wi
  split
  ·exact h.low q zb h2 j hj
  ·split
   ·rw [h.low ld.length (qY _) zb j hj,Rat.neg_zero]
   ·exact h.low i hi d j hj
 fore:=λl hl j hj=>by
  unfold wi;rw [if_neg zb,if_neg zb];exact h.fore l hl j hj
 back:=λi hi j hj=>by
  have hs:∀i,zC ld.length (λl=>wi ld.length q a i (ld.getD l 0)*wi ld.length q s l j)=zC ld.length (λl=>wi ld.length q a i (ld.getD l 0)*s l j):=λi=>yt λl hl=>by
   rw [show wi ld.length q s l j=s l j by unfold wi;rw [if_neg zb,if_neg zb]]
  rw [hs];by_cases e1:i=ld.length
  ·subst e1;have:=h.back q h2 j hj;rw [if_pos zb] at this⊢;simp only [wi,if_true];exact this
  ·by_cases e2:i=q
   ·subst e2;have:=h.back ld.length zb j hj;rw [if_pos zb] at this⊢;simp only [wi,if_neg e1,if_true];have e:zC ld.length (λl=> -a ld.length (ld.getD l 0)*s l j)= -zC ld.length (λl=>a ld.length (ld.getD l 0)*s l j):=by
     rw [<-Zj];exact yt λl _=>by grind
    rw [e]
    grind
   ·have:=h.back i hi j hj;simp only [wi,if_neg e1,if_neg e2];exact this
 det:=by
  rw [h.det];exact uq λi hi j _=>by unfold wi;rw [if_neg zb,if_neg zb]
def ot (k c:Nat)(p:Rat)(s:Nat->Nat->Rat):Nat->Nat->Rat:=λi j=>if i=k then s k j else p⁻¹*(s k c*s i j+ -s i c*s k j)
theorem js {l:Nat}(h:l<ld.length):(ld++[c]).getD l 0=ld.getD l 0:=by
 rw [qQ,qQ,QR h]
theorem im (ld:List Nat)(c:Nat):(ld++[c]).getD ld.length 0=c:=by
 rw [qQ,QK (qY _),yJ];rfl
theorem lX (ld:List Nat)(c:Nat):(ld++[c]).length=ld.length+1:=zE
theorem x6.col (h:x6 n m c a s ld p){l j:Nat}(hl:l<ld.length)(hj:j<m):s l j=zI ld.length (zL (λi j=>a i (ld.getD j 0)) l λi=>a i j):=by
 have e1:=ee (n:=ld.length) (λi j=>a i (ld.getD j 0)) hl p (λi=>a i j);have e2:zI ld.length (zL (λi j=>a i (ld.getD j 0)) l λi=>p*a i j)=zI ld.length (zL (λi j=>a i (ld.getD j 0)) l λi=>zC ld.length λq=>s q j*a i (ld.getD q 0)):=uq λi hi j' _=>by
  by_cases e:j'=l
  ·subst e;rw [wV,wV,h.back i (by have:=h.len;omega) j hj,if_neg zb,XJ];exact yt λq _=>YN _ _
  ·rw [va _ e,va _ e]
 rw [e2,fw _ hl (λq=>s q j) (λq i=>a i (ld.getD q 0))] at e1;have e3:∀q,q<ld.length->s q j*zI ld.length (zL (λi j=>a i (ld.getD j 0)) l λi=>a i (ld.getD q 0))=(s l j*p)*if q=l then 1 else 0:=λq hq=>by
  by_cases e:q=l
  ·subst e;rw [if_pos rfl,fi (λi j=>a i (ld.getD j 0)) q,<-h.det,Rat.mul_one]
  ·rw [if_neg e,ef (M:=λi j=>a i (ld.getD j 0)) hl hq (Ne.symm e),xI,xI]
 rw [yt e3] at e1;have e4:zC ld.length (λq=>(s l j*p)*if q=l then 1 else 0)=s l j*p:=by
  clear e1 e2 e3;have:∀k,l<k->zC k (λq=>(s l j*p)*if q=l then 1 else 0)=s l j*p:=by
   intro k
   induction k with
   |zero=>intro h;cases h
   |succ k ih=>
     intro hk;rw [wj];by_cases e:k=l
     ·subst e;rw [if_pos rfl,tj λi hi=>by rw [if_neg zb,xI],YM,Rat.mul_one]
     ·rw [if_neg e,xI,XJ,ih zb]
  exact this _ hl
 rw [e4] at e1;have:=h.ne
 grind
theorem x6.lead (h:x6 n m c a s ld p)(hc:c<m)(hk:ld.length<n):s ld.length c=zI (ld.length+1) λi j=>a i ((ld++[c]).getD j 0):=by
 have hB:∀(f:Nat->Nat->Rat),(f=λi j=>a i ((ld++[c]).getD j 0))->s ld.length c=zI (ld.length+1) f:=by
  intro f hf;have d:ld.length<ld.length+1:=Nat.lt_succ_self _;have e1:=ee (n:=ld.length+1) f d p (λi=>f i ld.length);rw [fi f] at e1;have ff:∀i l,l<ld.length->f i l=a i (ld.getD l 0):=λi l hl=>by rw [hf];show a i _=_;rw [js hl]
  have fc:∀i,f i ld.length=a i c:=λi=>by rw [hf];show a i _=_;rw [im]
  have e2:zI (ld.length+1) (zL f ld.length λi=>p*f i ld.length)=zI (ld.length+1) (zL f ld.length λi=>1*(zC ld.length λq=>s q c*f i q)+s ld.length c*if i=ld.length then 1 else 0):=uq λi hi j' _=>by
   by_cases e:j'=ld.length
   ·subst e;rw [wV,wV,fc,h.back i zb c hc,XA];congr 1
    ·exact yt λq hq=>by rw [ff i q hq,YN]
    ·by_cases e:i=ld.length
     ·rw [if_pos zb,if_pos e,e,Rat.mul_one]
     ·rw [if_neg zb,if_neg e,xI]
   ·rw [va _ e,va _ e]
  rw [e2,mU f d 1 (s ld.length c) (λi=>zC ld.length λq=>s q c*f i q) (λi=>if i=ld.length then 1 else 0),fw f d (λq=>s q c) (λq i=>f i q)] at e1;rw [tj λq hq=>by rw [ef d zb zb,xI]] at e1;rw [cV ld.length (M:=zL f ld.length λi=>if i=ld.length then 1 else 0) (λi hi=>by rw [wV,if_neg zb]),wV,if_pos rfl] at e1;have e3:zI ld.length (zL f ld.length λi=>if i=ld.length then 1 else 0)=p:=by
   rw [h.det];exact uq λi hi j hj=>by rw [va _ zb,ff i j hj]
  rw [e3] at e1;have:=h.ne
  grind
 exact hB _ rfl
theorem x6.clear (h:x6 n m c a s ld p)(hc:c<m)(hk:ld.length<n)(h0:s ld.length c≠0):x6 n m (c+1) a (ot ld.length c p s) (ld++[c]) (s ld.length c) where
 len:=by rw [lX];omega
 cm:=hc
 up:=λl l' h1 h2=>by
  rw [lX] at h2;rw [js zb];by_cases e:l'=ld.length
  ·subst e;rw [im];exact h.lt l h1
  ·rw [js zb];exact h.up l l' h1 zb
 lt:=λl hl=>by
  rw [lX] at hl;by_cases e:l=ld.length
  ·subst e;rw [im];omega
  ·rw [js zb];exact Nat.lt_succ_of_lt (h.lt l zb)
 ne:=h0
 piv:=λl hl i hi=>by
  have k:=h.ne;rw [lX] at hl;unfold ot;by_cases e:l=ld.length
  ·subst e;rw [im];by_cases e2:i=ld.length
   ·rw [if_pos e2,if_pos e2]
   ·rw [if_neg e2,if_neg e2];grind
  ·have d:l<ld.length:=zb;rw [js d];have e3:=h.piv l d ld.length hk;rw [if_neg zb] at e3;by_cases e2:i=ld.length
   ·rw [if_pos e2,if_neg zb,e3]
   ·rw [if_neg e2,e3,h.piv l d i hi];by_cases e4:i=l
    ·rw [if_pos e4,if_pos e4];grind
    ·rw [if_neg e4,if_neg e4];grind
 low:=λi hi g j hj=>by
  rw [lX] at hi;unfold ot;rw [if_neg zb];by_cases e:j=c
  ·subst e;grind
  ·rw [h.low i zb g j zb,h.low ld.length (qY _) hk j zb];grind
 fore:=λl hl j hj=>by
  rw [lX] at hl;unfold ot;by_cases e:l=ld.length
  ·subst e;rw [im] at hj;rw [if_pos rfl];exact h.low _ (qY _) hk j hj
  ·have d:l<ld.length:=zb;rw [js d] at hj;have:=h.lt l d;rw [if_neg e,h.fore l d j hj,h.low ld.length (qY _) hk j zb];grind
 back:=λi hi j hj=>by
  have k:=h.ne;have e1:=h.back i hi j hj;have e2:=h.back i hi c hc;rw [lX,wj,im];have e3:zC ld.length (λl=>a i ((ld++[c]).getD l 0)*ot ld.length c p s l j)=p⁻¹*(s ld.length c*zC ld.length (λl=>a i (ld.getD l 0)*s l j)+ -(s ld.length j)*zC ld.length (λl=>a i (ld.getD l 0)*s l c)):=by
   rw [wU,wU,<-sc,wU];refine yt λl hl=>?_;rw [js hl];unfold ot;rw [if_neg zb]
   grind
  have e4:ot ld.length c p s ld.length j=s ld.length j:=if_pos rfl;rw [e3,e4];generalize zC ld.length (λl=>a i (ld.getD l 0)*s l j)=x at*;generalize zC ld.length (λl=>a i (ld.getD l 0)*s l c)=y at*;by_cases e5:ld.length+1<=i
  ·rw [if_pos e5];rw [if_pos zb] at e1 e2;unfold ot;rw [if_neg zb];generalize a i j=u at*;generalize a i c=v at*;generalize s i j=z at*;generalize s i c=t at*;generalize s ld.length j=r at*;generalize s ld.length c=q at*
   grind
  ·rw [if_neg e5];by_cases e6:i=ld.length
   ·subst e6;rw [if_pos (qY _)] at e1 e2
    grind
   ·rw [if_neg zb] at e1 e2
    grind
 det:=by
  rw [lX];exact h.lead hc hk
def LI (K:Nat)(x:Rat):Prop:=∃z:Int,x=(z:Rat)/\Sz K z.natAbs
theorem LI.up (h:LI K x)(hk:K<=K'):LI K' x:=by
 obtain⟨z,e,hz⟩:=h;exact⟨z,e,hz.up hk⟩
theorem LI.one:LI 1 1:=⟨1,by decide+kernel,by show 1<18446744073709551616^1;rw [Nat.pow_one];decide⟩
theorem LI.zero (K:Nat):LI K 0:=⟨0,by decide+kernel,XH zg⟩
theorem LI.mul (h:LI K x)(k:LI K' y):LI (K+K') (x*y):=by
 obtain⟨z,rfl,hz⟩:=h;obtain⟨t,rfl,ht⟩:=k;exact⟨z*t,(yB z t).symm,by rw [xO];exact hz.mul ht⟩
theorem LI.neg (h:LI K x):LI K (-x):=by
 obtain⟨z,rfl,hz⟩:=h;exact⟨-z,(Rat.intCast_neg z).symm,by rw [Int.natAbs_neg];exact hz⟩
theorem LI.add (h:LI K x)(k:LI K y):LI (K+1) (x+y):=by
 obtain⟨z,rfl,hz⟩:=h;obtain⟨t,rfl,ht⟩:=k;refine⟨z+t,(Rat.intCast_add z t).symm,?_⟩;have:=Int.natAbs_add_le z t;unfold Sz at*;rw [qP];omega
theorem LI.sub (h:LI K x)(k:LI K y):LI (K+1) (x - y):=by
 rw [Rat.sub_eq_add_neg];exact h.add k.neg
theorem LI.sum {f:Nat->Rat}(hk:k<=18446744073709551616)(h:∀i,i<k->LI K (f i)):LI (K+1) (zC k f):=by
 have:∀q,q<=k->∃z:Int,zC q f=(z:Rat)/\z.natAbs<=q*(18446744073709551616^K - 1):=by
  intro q
  induction q with
  |zero=>intro _;exact⟨0,by rw [eG];decide+kernel,zb⟩
  |succ q ih=>
    intro hq;obtain⟨z,e,hz⟩:=ih zb;obtain⟨t,e2,ht⟩:=h q zb;refine⟨z+t,by rw [wj,e,e2,Rat.intCast_add],?_⟩;have h1:=Int.natAbs_add_le z t;unfold Sz at ht;rw [Nat.succ_mul];omega
 obtain⟨z,e,hz⟩:=this k (qY _);refine⟨z,e,?_⟩;unfold Sz;rw [qP,qS];have h0:0<18446744073709551616^K:=XH zg;refine QU hz (QU (qW _ hk) ?_);exact Nat.mul_lt_mul_of_pos_left zb zg
theorem LI.sg_ (h:LI K x):LI K (sg c*x):=by
 unfold sg
 split
 ·rw [XA];exact h
 ·rw [Rat.neg_mul,XA];exact h.neg
theorem LI.det_ {K:Nat}:∀{n:Nat} {M:Nat->Nat->Rat},n<=64->(∀i,i<n->∀j,j<n->LI K (M i j))->LI (1+n*(K+1)) (zI n M)
 |0,_,_,_=>LI.one.up zb
 |n+1,M,hn,h=>by
   rw [vr];refine(LI.sum (K:=K+(1+n*(K+1))) zb λc hc=>?_).up (by rw [Nat.succ_mul];omega);exact(LI.sg_ (h 0 zb c hc)).mul (LI.det_ zb λi hi j hj=>h (i+1) zb _ (jV hj))
theorem x6.lead_sz (h:x6 n m c a s ld p)(hn:n<=64)(ha:∀i,i<n->∀j,j<m->LI K (a i j)):LI (1+64*(K+1)) p:=by
 have h1:=h.len;rw [h.det];refine(LI.det_ (K:=K) zb λi hi j hj=>ha i zb _ ?_).up (YY (qW _ zb) _);have:=h.lt j hj;have:=h.cm;omega
theorem x6.top_sz (h:x6 n m c a s ld p)(hn:n<=64)(ha:∀i,i<n->∀j,j<m->LI K (a i j)){l j:Nat}(hl:l<ld.length)(hj:j<m):LI (1+64*(K+1)) (s l j):=by
 have h1:=h.len;rw [h.col hl hj];refine(LI.det_ (K:=K) zb λi hi j' d=>?_).up (YY (qW _ zb) _);by_cases e:j'=l
 ·rw [e,wV];exact ha i zb j hj
 ·rw [va _ e];refine ha i zb _ ?_;have:=h.lt j' d;have:=h.cm;omega
theorem x6.sz (h:x6 n m c a s ld p)(hn:n<=64)(ha:∀i,i<n->∀j,j<m->LI K (a i j)){i j:Nat}(hi:i<n)(hj:j<m):LI (67+65*K) (s i j):=by
 have h1:=h.len;by_cases hl:i<ld.length
 ·exact(h.top_sz hn ha hl hj).up zb
 ·have e:=h.back i hi j hj;rw [if_pos zb] at e;have e2:s i j=p*a i j - zC ld.length (λl=>a i (ld.getD l 0)*s l j):=by grind
  rw [e2];have b1:=(h.lead_sz hn ha).mul (ha i hi j hj);have b2:LI (K+(1+64*(K+1))+1) (zC ld.length (λl=>a i (ld.getD l 0)*s l j)):=LI.sum zb λl hl=>(ha i hi _ (by have:=h.lt l hl;have:=h.cm;omega)).mul (h.top_sz hn ha hl hj);exact((b1.up (K':=K+(1+64*(K+1))+1) zb).sub b2).up zb
theorem x6.lead_sz' (h:x6 n m c a s ld p)(hn:n<=64)(ha:∀i,i<n->∀j,j<m->LI K (a i j)):LI (67+65*K) p:=(h.lead_sz hn ha).up zb
inductive su (n : Nat) (a0 : Nat → Nat → Rat) : (Nat → Nat → Rat) → Prop
 |refl:su n a0 a0
 |sw {a r q}:su n a0 a->r<q->q<n->su n a0 (wi r q a)
theorem su.li (h:su n a0 a)(h0:∀i,i<n->∀j,j<m->LI K (a0 i j)):∀i,i<n->∀j,j<m->LI K (a i j):=by
 induction h with
 |refl=>exact h0
 |sw h1 h2 h3 ih=>
   intro i hi j hj;unfold wi
   split
   ·exact ih _ h3 j hj
   ·split
    ·exact(ih _ zb j hj).neg
    ·exact ih i hi j hj
theorem su.rows (h:su n a0 a):(∀i,i<n->∃i',i'<n/\∃e:Rat,e*e=1/\∀j,a i j=e*a0 i' j)/\(∀i,i<n->∃i',i'<n/\∃e:Rat,e*e=1/\∀j,a0 i j=e*a i' j):=by
 induction h with
 |refl=>exact⟨λi hi=>⟨i,hi,1,by decide+kernel,λj=>(XA _).symm⟩,λi hi=>⟨i,hi,1,by decide+kernel,λj=>(XA _).symm⟩⟩
 | @sw a r q h1 h2 h3 ih=>
   constructor
   ·intro i hi;by_cases e1:i=r
    ·obtain⟨i',k1,e,k2,k3⟩:=ih.1 q h3;exact⟨i',k1,e,k2,λj=>by unfold wi;rw [if_pos e1];exact k3 j⟩
    ·by_cases e2:i=q
     ·obtain⟨i',k1,e,k2,k3⟩:=ih.1 r zb;exact⟨i',k1,-e,by grind,λj=>by unfold wi;rw [if_neg e1,if_pos e2,k3 j,Rat.neg_mul]⟩
     ·obtain⟨i',k1,e,k2,k3⟩:=ih.1 i hi;exact⟨i',k1,e,k2,λj=>by unfold wi;rw [if_neg e1,if_neg e2];exact k3 j⟩
   ·intro i hi;obtain⟨i',k1,e,k2,k3⟩:=ih.2 i hi;by_cases e1:i'=q
    ·exact⟨r,zb,e,k2,λj=>by unfold wi;rw [if_pos rfl,k3 j,e1]⟩
    ·by_cases e2:i'=r
     ·exact⟨q,h3,-e,by grind,λj=>by unfold wi;rw [if_neg zb,if_pos rfl,k3 j,e2];grind⟩
     ·exact⟨i',k1,e,k2,λj=>by unfold wi;rw [if_neg e2,if_neg e1];exact k3 j⟩
structure wn where
 S:List (List Rat)
 ld:List Nat
 p:Rat
def ue (r q:Nat)(S:List (List Rat)):List (List Rat):=(S.set r (S.getD q [])).set q (y6 (-1) (S.getD r []))
def tL (p:Rat)(row by_:List Rat)(c:Nat):List Rat:=y6 p⁻¹ (kB (y6 (by_.getD c 0) row) (-row.getD c 0) by_)
def tS (r c:Nat)(p:Rat)(S:List (List Rat)):List (List Rat):=S.mapIdx λi row=>if i=r then row else tL p row (S.getD r []) c
def wm (c:Nat)(e:wn):Nat:=(e.S.drop e.ld.length).findIdx λrow=> !decide (row.getD c 0=0)
def oc (c:Nat)(e:wn):List (List Rat):=if wm c e=0 then e.S else ue e.ld.length (e.ld.length+wm c e) e.S
def p9 (c:Nat)(e:wn):wn:=
 if wm c e<e.S.length - e.ld.length then⟨tS e.ld.length c e.p (oc c e),e.ld++[c],zv (oc c e) e.ld.length c⟩ else e
theorem cX {r:Nat}(v:List Rat)(h:i≠r):(S.set r v).getD i []=S.getD i []:=by
 rw [qQ,XL (Ne.symm h),<-qQ]
theorem Y3 {r:Nat}(v:List Rat)(h:r<S.length):(S.set r v).getD r []=v:=by
 rw [qQ,XR h];rfl
theorem fh {r:Rat}(j:Nat):(y6 r xs).getD j 0=r*xs.getD j 0:=by
 unfold y6;rw [qQ,qQ,QQ];cases xs[j]? with
 |none=>exact(xI r).symm
 |some x=>rfl
theorem sP {r:Rat}{ys:List Rat}(hx:j<xs.length)(hy:j<ys.length):(kB xs r ys).getD j 0=xs.getD j 0+r*ys.getD j 0:=by
 unfold kB;rw [qQ,qQ,qQ,List.getElem?_zipWith,qX hx,qX hy];rfl
theorem PD {r q:Nat}(h:zM S n m)(hr:r<n)(hq:q<n):zM (ue r q S) n m:=by
 refine⟨by unfold ue;rw [xB,xB];exact h.rows,λL hL=>?_⟩;unfold ue at hL;rcases XQ hL with hL|rfl
 ·rcases XQ hL with hL|rfl
  ·exact h.cols L hL
  ·exact h.row hq
 ·unfold y6;rw [xV];exact h.row hr
theorem mH {S:List (List Rat)}{r q:Nat}(hr:r<S.length)(hq:q<S.length)(a:r≠q):zv (ue r q S)=wi r q (zv S):=by
 funext i j
 unfold zv ue wi;by_cases e1:i=r
 ·subst e1;rw [if_pos rfl,cX _ a,Y3 _ hr]
 ·rw [if_neg e1];by_cases e2:i=q
  ·subst e2;rw [if_pos rfl,Y3 _ (by rw [xB];exact hq),fh,Rat.neg_mul,XA]
  ·rw [if_neg e2,cX _ e2,cX _ e1]
theorem Xv {row a:List Rat}(h:row.length=m)(k:a.length=m):(tL p row a c).length=m:=by
 unfold tL y6 kB;rw [xV,List.length_zipWith,xV,h,k,Nat.min_self]
theorem Qw {r:Nat}(h:zM S n m)(hr:r<n):zM (tS r c p S) n m:=by
 refine⟨by unfold tS;rw [List.length_mapIdx];exact h.rows,λL hL=>?_⟩;unfold tS at hL;obtain⟨i,hi,rfl⟩:=List.mem_mapIdx.1 hL
 split
 ·exact h.cols _ (xS _)
 ·exact Xv (h.cols _ (xS _)) (h.row hr)
theorem VO {r:Nat}(hi:i<S.length):(tS r c p S).getD i []=if i=r then S.getD i [] else tL p (S.getD i []) (S.getD r []) c:=by
 unfold tS;rw [qQ,List.getElem?_mapIdx,qX hi];show(if i=r then _ else _)=_;rw [show S.getD i []=S[i] by rw [qQ,qX hi];rfl]
theorem o8 {r:Nat}(h:zM S n m)(hr:r<n)(hi:i<n)(hj:j<m):zv (tS r c p S) i j=ot r c p (zv S) i j:=by
 unfold zv ot;rw [VO (by rw [h.rows];exact hi)];by_cases e:i=r
 ·rw [if_pos e,if_pos e,e]
 ·rw [if_neg e,if_neg e];unfold tL;rw [fh,sP (by unfold y6;rw [xV,h.row hi];exact hj) (by rw [h.row hr];exact hj),fh]
theorem x6.congr {s s':Nat->Nat->Rat}(h:x6 n m c a s ld p)(e:∀i,i<n->∀j,j<m->s' i j=s i j):x6 n m c a s' ld p:=
 have hk:=h.len
 have hm:=h.cm
 { h with
  piv:=λl hl i hi=>by rw [e i hi _ (by have:=h.lt l hl;omega)];exact h.piv l hl i hi
  low:=λi h1 h2 j hj=>by rw [e i h2 j zb];exact h.low i h1 h2 j hj
  fore:=λl hl j hj=>by rw [e l zb j (by have:=h.lt l hl;omega)];exact h.fore l hl j hj
  back:=λi hi j hj=>by
   rw [h.back i hi j hj,e i hi j hj];congr 1;exact yt λl hl=>by rw [e l zb j hj]}
structure wh (n m c:Nat)(a0:Nat->Nat->Rat)(e:wn):Prop where
 dims:zM e.S n m
 inv:∃a,su n a0 a/\x6 n m c a (zv e.S) e.ld e.p
theorem wh.start (h:zM S n m):wh n m 0 (zv S) ⟨S,[],1⟩:=⟨h,_,.refl,x6.start _ _ _⟩
theorem Yj {r:Nat}(h:i<(S.drop r).length):(S.drop r)[i]=S.getD (r+i) []:=by
 rw [XX] at h;rw [List.getElem_drop,qQ,qX zb];rfl
theorem SD {e:wn}(h:¬ wm c e<e.S.length - e.ld.length){i:Nat}(h1:e.ld.length<=i)(h2:i<e.S.length):zv e.S i c=0:=by
 have hl:(e.S.drop e.ld.length).length=e.S.length - e.ld.length:=XX;have:=List.not_of_lt_findIdx (p:=λrow:List Rat=> !decide (row.getD c 0=0)) (xs:=e.S.drop e.ld.length) (i:=i - e.ld.length) (by show _<wm c e;omega);rw [Yj zb,show e.ld.length+(i - e.ld.length)=i by omega] at this;simpa [zv] using this
theorem SE {e:wn}(h:wm c e<e.S.length - e.ld.length):zv e.S (e.ld.length+wm c e) c≠0:=by
 have hl:(e.S.drop e.ld.length).length=e.S.length - e.ld.length:=XX;have:=List.findIdx_getElem (p:=λrow:List Rat=> !decide (row.getD c 0=0)) (xs:=e.S.drop e.ld.length) (w:=by show wm c e<_;omega);rw [Yj (by show wm c e<_;omega)] at this;simpa [zv,wm] using this
theorem wh.pick {e:wn}(h:wh n m c a0 e)(hb:wm c e<n - e.ld.length):zM (oc c e) n m/\(∃a,su n a0 a/\x6 n m c a (zv (oc c e)) e.ld e.p)/\zv (oc c e) e.ld.length c≠0:=by
 obtain⟨hd,a,hs,hi⟩:=h;have g:wm c e<e.S.length - e.ld.length:=by rw [hd.rows];exact hb
 have d:=SE g;unfold oc;by_cases h0:wm c e=0
 ·rw [if_pos h0];rw [h0,xN] at d;exact⟨hd,⟨a,hs,hi⟩,d⟩
 ·rw [if_neg h0];have hr:=hd.rows;have e1:=mH (S:=e.S) (r:=e.ld.length) (q:=e.ld.length+wm c e) zb zb zb;refine⟨PD hd zb zb,⟨wi e.ld.length (e.ld.length+wm c e) a,hs.sw zb zb,by rw [e1];exact hi.swap zb zb⟩,?_⟩;rw [e1];unfold wi;rw [if_pos rfl];exact d
theorem wh.next {e:wn}(h:wh n m c a0 e)(hc:c<m):wh n m (c+1) a0 (p9 c e):=by
 have hr:=h.dims.rows;unfold p9;by_cases hb:wm c e<e.S.length - e.ld.length
 ·rw [if_pos hb];obtain⟨hd,⟨a,hs,hi⟩,g⟩:=h.pick (by rw [<-hr];exact hb);exact⟨Qw hd zb,a,hs,(hi.clear hc zb g).congr λi d j hj=>o8 hd zb d hj⟩
 ·rw [if_neg hb];obtain⟨hd,a,hs,hi⟩:=h;exact⟨hd,a,hs,hi.skip hc λi h1 h2=>SD hb h1 zb⟩
def tO (c:Nat)(S:List (List Rat)):wn:=(List.range c).foldl (λe c=>p9 c e) ⟨S,[],1⟩
theorem Xy (c:Nat)(S:List (List Rat)):tO (c+1) S=p9 c (tO c S):=by
 unfold tO;rw [yA,yR];rfl
theorem eW {n m:Nat}{S:List (List Rat)}(h:zM S n m):∀{c:Nat},c<=m->wh n m c (zv S) (tO c S)
 |0,_=>wh.start h
 |c+1,hc=>by rw [Xy];exact(eW h zb).next zb
