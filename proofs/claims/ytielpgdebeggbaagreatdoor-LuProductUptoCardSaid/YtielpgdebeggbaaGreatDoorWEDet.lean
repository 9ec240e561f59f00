/- What this claim leans on. -/
import Derived.Test.YtielpgdebeggbaaGreatDoorWBunI
set_option linter.unusedVariables false
set_option linter.unusedSimpArgs false
namespace Go.Proofs.YtielpgdebeggbaaGreatDoor
open Go Go.RowKit Go.Proofs.Tryz
set_option maxHeartbeats 16000000
variable {vs:List Value}{c g j k n:Nat}{t:TypeId}{v:Value}{w w':World}
def sg (c:Nat):Rat:=if c%2=0 then 1 else -1
def yF (c j:Nat):Nat:=if j<c then j else j+1
def xj (M:Nat->Nat->Rat)(c:Nat):Nat->Nat->Rat:=λi j=>M (i+1) (yF c j)
def zH:Nat->(Nat->Nat->Rat)->Rat
 |0,_=>1
 |n+1,M=>zq (n+1) λc=>sg c*M 0 c*zH n (xj M c)
theorem vu (n:Nat)(M:Nat->Nat->Rat):zH (n+1) M=zq (n+1) λc=>sg c*M 0 c*zH n (xj M c):=rfl
theorem UW (c:Nat):sg (c+1)= -sg c:=by
 unfold sg;by_cases h:c%2=0
 ·rw [if_neg zb,if_pos h]
 ·rw [if_pos zb,if_neg h,Rat.neg_neg]
theorem pH (hj:j<n):yF c j<n+1:=by unfold yF;split<;>omega
theorem kI (c j:Nat):yF c j≠c:=by unfold yF;split<;>omega
theorem uh:∀{n:Nat} {M N:Nat->Nat->Rat},(∀i,i<n->∀j,j<n->M i j=N i j)->zH n M=zH n N
 |0,_,_,_=>rfl
 |n+1,M,N,h=>by
   rw [vu,vu];refine ya λc hc=>?_;rw [h 0 zb c hc,uh (n:=n) (M:=xj M c) (N:=xj N c) λi hi j hj=>h (i+1) zb _ (pH hj)]
def zL (M:Nat->Nat->Rat)(k:Nat)(v:Nat->Rat):Nat->Nat->Rat:=λi j=>if j=k then v i else M i j
theorem vo (M:Nat->Nat->Rat)(k:Nat)(v:Nat->Rat)(i:Nat):zL M k v i k=v i:=if_pos rfl
theorem vv (M:Nat->Nat->Rat){k j:Nat}(h:j≠k)(v:Nat->Rat)(i:Nat):zL M k v i j=M i j:=if_neg h
theorem ic (M:Nat->Nat->Rat)(k:Nat):zL M k (λi=>M i k)=M:=by
 funext i j;unfold zL;split
 ·next h=>rw [h]
 ·rfl
theorem bJ (M:Nat->Nat->Rat)(k:Nat)(v:Nat->Rat):xj (zL M k v) k=xj M k:=by
 funext i j;show(if yF k j=k then _ else _)=_;rw [if_neg (kI k j)];rfl
def tB (c k:Nat):Nat:=if k<c then k else k - 1
theorem ZL (h:k≠c):yF c j=k↔j=tB c k:=by unfold yF tB;split<;>split<;>omega
theorem kR (h:k≠c)(hk:k<n+1)(hc:c<n+1):tB c k<n:=by unfold tB;split<;>omega
theorem Zg {M:Nat->Nat->Rat}(h:k≠c)(v:Nat->Rat):xj (zL M k v) c=zL (xj M c) (tB c k) (λi=>v (i+1)):=by
 funext i j
 show(if yF c j=k then _ else _)=(if j=tB c k then _ else _);by_cases e:j=tB c k
 ·rw [if_pos e,if_pos ((ZL h).2 e)]
 ·rw [if_neg e,if_neg λq=>e ((ZL h).1 q)];rfl
theorem lB:∀{n:Nat} (M:Nat->Nat->Rat) {k:Nat} (_:k<n) (a b:Rat) (u v:Nat->Rat),zH n (zL M k λi=>a*u i+b*v i)=a*zH n (zL M k u)+b*zH n (zL M k v)
 |n+1,M,k,hk,a,b,u,v=>by
   rw [vu,vu,vu,wM,wM,<-tY];refine ya λc hc=>?_;by_cases h:k=c
   ·subst h;rw [bJ,bJ,bJ];simp only [zL,if_true]
    grind
   ·rw [Zg h,Zg h,Zg h,lB (xj M c) (kR h hk hc) a b (λi=>u (i+1)) (λi=>v (i+1))];simp only [zL,if_neg (λe:c=k=>h e.symm)]
    grind
theorem gX {n:Nat}(M:Nat->Nat->Rat){k:Nat}(hk:k<n)(a:Rat)(u:Nat->Rat):zH n (zL M k λi=>a*u i)=a*zH n (zL M k u):=by
 have h:=lB M hk a 0 u u;rw [XR,xK] at h;rw [<-h];congr 2
 funext i
 grind
theorem jO {n:Nat}(M:Nat->Nat->Rat){k:Nat}(hk:k<n)(f:Nat->Rat)(u:Nat->Nat->Rat):∀q,zH n (zL M k λi=>zq q λl=>f l*u l i)=zq q λl=>f l*zH n (zL M k (u l))
 |0=>by
   have:=gX M hk 0 (λ_=>0);have e:(λi:Nat=>(0:Rat)*(λ_=>0) i)=λ_=>0:=by funext i;exact XR _
   rw [e] at this;show zH n (zL M k λi=>0)=0;rw [this,XR]
 |q+1=>by
   rw [xw,<-jO M hk f u q];have:=lB M hk 1 (f q) (λi=>zq q λl=>f l*u l i) (u q);rw [XG] at this;rw [<-this];congr 2
   funext i
   rw [xw,XG]
theorem VP {f:Nat->Rat}{k:Nat}(h2:f k+f (k+1)=0):∀{n:Nat},k+1<n->(∀c,c<n->c≠k->c≠k+1->f c=0)->zq n f=0
 |n+1,hk,h1=>by
   rw [xw];by_cases e:n=k+1
   ·subst e;rw [xw,uE λi hi=>h1 i zb zb zb,yD,h2]
   ·rw [VP h2 (n:=n) zb (λc hc=>h1 c zb),h1 n zb zb zb,xK]
theorem bM:∀{n:Nat} {M:Nat->Nat->Rat} {k:Nat},k+1<n->(∀i,i<n->M i k=M i (k+1))->zH n M=0
 |n+1,M,k,hk,h=>by
   rw [vu];have h1:∀c,c<n+1->c≠k->c≠k+1->sg c*M 0 c*zH n (xj M c)=0:=λc hc e1 e2=>by
    have:zH n (xj M c)=0:=by
     refine bM (k:=tB c k) ?_ λi hi=>?_
     ·unfold tB;split<;>omega
     ·have a1:yF c (tB c k)=k:=(ZL (Ne.symm e1)).2 rfl;have a2:yF c (tB c k+1)=k+1:=by unfold yF tB;split<;>split<;>omega
      show M (i+1) (yF c (tB c k))=M (i+1) (yF c (tB c k+1));rw [a1,a2];exact h (i+1) zb
    rw [this,xO]
   have h2:sg k*M 0 k*zH n (xj M k)+sg (k+1)*M 0 (k+1)*zH n (xj M (k+1))=0:=by
    have:zH n (xj M k)=zH n (xj M (k+1)):=uh λi hi j hj=>by
     show M (i+1) (yF k j)=M (i+1) (yF (k+1) j);by_cases e:j=k
     ·subst e;have a1:yF j j=j+1:=by unfold yF;split<;>omega
      have a2:yF (j+1) j=j:=by unfold yF;split<;>omega
      rw [a1,a2];exact(h (i+1) zb).symm
     ·have:yF k j=yF (k+1) j:=by unfold yF;split<;>split<;>omega
      rw [this]
    rw [this,UW,<-h 0 zb]
    grind
   exact VP (f:=λc=>sg c*M 0 c*zH n (xj M c)) h2 zb h1
theorem RM (M:Nat->Nat->Rat){k:Nat}(hk:k+1<n)(u v:Nat->Rat):zH n (zL (zL M k u) (k+1) v)= -zH n (zL (zL M k v) (k+1) u):=by
 have z:∀x:Nat->Rat,zH n (zL (zL M k x) (k+1) x)=0:=λx=>bM hk λi _=>by
  rw [vv _ zb,vo,vo]
 have sw:∀x y:Nat->Rat,zL (zL M k x) (k+1) y=zL (zL M (k+1) y) k x:=λx y=>by
  funext i j;simp only [zL];by_cases a:j=k+1
  ·rw [if_pos a,if_neg zb,if_pos a]
  ·rw [if_neg a];by_cases b:j=k
   ·rw [if_pos b,if_pos b]
   ·rw [if_neg b,if_neg b,if_neg a]
 have e1:=z (λi=>1*u i+1*v i);rw [lB _ hk,sw,sw,lB _ (by omega:k<n),lB _ (by omega:k<n),<-sw,<-sw,<-sw,<-sw,z,z] at e1
 grind
theorem aE:∀(d:Nat) {n:Nat} {M:Nat->Nat->Rat} {k:Nat},k+1+d<n->(∀i,i<n->M i k=M i (k+1+d))->zH n M=0
 |0,n,M,k,hk,h=>bM hk h
 |d+1,n,M,k,hk,h=>by
   have e:M=zL (zL M (k+1+d) λi=>M i (k+1+d)) (k+1+d+1) λi=>M i (k+1+d+1):=by rw [ic,ic]
   rw [e,RM M zb,aE d (k:=k) zb,Rat.neg_zero];intro i hi;rw [vv _ zb,vv _ zb,vv _ zb,vo];exact h i hi
theorem gZ {M:Nat->Nat->Rat}{l:Nat}(hk:k<n)(hl:l<n)(hne:k≠l):zH n (zL M k λi=>M i l)=0:=by
 rcases XQ k l with h|h
 ·obtain⟨d,rfl⟩:∃d,l=k+1+d:=⟨l - k - 1,zb⟩;exact aE d zb λi _=>by rw [vo,vv _ zb]
 ·obtain⟨d,rfl⟩:∃d,k=l+1+d:=⟨k - l - 1,zb⟩;exact aE d (k:=l) zb λi _=>by rw [vv _ zb,vo]
theorem bP:∀(n:Nat) {M:Nat->Nat->Rat},(∀i,i<n->M i n=0)->zH (n+1) M=M n n*zH n M
 |0,M,_=>by
   show zq 1 _=_;rw [xw,gT];show 0+1*M 0 0*1=M 0 0*1
   grind
 |n+1,M,h=>by
   rw [vu,xw,h 0 zb,xO,XR,xK,vu n,wM];refine ya λc hc=>?_;rw [bP n (M:=xj M c) (λi hi=>by
    show M (i+1) (yF c n)=0;rw [show yF c n=n+1 by unfold yF;split<;>omega];exact h (i+1) zb)]
   have:xj M c n n=M (n+1) (n+1):=by show M (n+1) (yF c n)=_;rw [show yF c n=n+1 by unfold yF;split<;>omega]
   rw [this]
   grind
set_option maxRecDepth 100000
theorem Yv (x y:Nat)(A D:ze)(n m c d:Nat)(w:World)(hA:zp w x A n c)(hD:zp w y D m d)(hn:n<=274877906944)(hm:m<=274877906944):
  Calls prog 125 #[.agg #[.slice A n c],.agg #[.slice D m d]] w (jh w (x / y) (decide (y≠0))):=by
 by_cases hy:y=0
 ·have e:x / y=0:=by rw [hy,Nat.div_zero]
  have e2:decide (y≠0)=false:=by simp [hy]
  rw [e,e2];exact bX 0 0 false A D n m c d w (λw' hb=>Yq x y A D n m c d w' (hA.below hb) (hD.below hb) hy)
 ·have e2:decide (y≠0)=true:=by simp [hy]
  rw [e2];exact bX (x / y) (x%y) true A D n m c d w (λw' hb=>fQ x y A D n m c d w' (hA.below hb) (hD.below hb) zb zb hy)
theorem SB (x y:Nat)(A D:ze)(n m c d:Nat)(w:World)(hA:zp w x A n c)(hD:zp w y D m d)(hn:n<=1073741824)(hm:m<=1073741824)(hT:zt w):
  Calls prog 95 #[.agg #[.slice A n c],.agg #[.slice D m d]] w (Zu w (x / Nat.gcd x y) (y / Nat.gcd x y)):=by
 have HO:=zj w (λw' hb=>rT x y A D n m c d w' (hA.below hb) (hD.below hb) hn hm (hT.on hb));obtain⟨g,hg⟩:∃g,Nat.gcd x y=g:=⟨_,rfl⟩;have lg:(dg 18446744073709551616 g).length<=2147483648:=by
  rw [<-hg];rcases xQ x with e|e
  ·rw [e,yT,hD.len];omega
  ·exact qH (mP zf (Nat.gcd_le_left y e)) (by rw [hA.len];omega)
 rw [hg] at HO⊢;have s:=zj w (λw' hb A1 n1 c1 (h1:zp w' g A1 n1 c1)=>Yv x g A A1 n n1 c c1 w' (hA.below hb) h1 zb (by rw [<-h1.len];omega));have t:=zj w (λw' hb A1 n1 c1 (h1:zp w' g A1 n1 c1)=>Yv y g D A1 m n1 d c1 w' (hD.below hb) h1 zb (by rw [<-h1.len];omega));obtain⟨X,hX⟩:∃g',x / g=g':=⟨_,rfl⟩;obtain⟨Y,hY⟩:∃g',y / g=g':=⟨_,rfl⟩;obtain⟨bb,a⟩:∃g':Bool,decide (g≠0)=g':=⟨_,rfl⟩;rw [hX,a] at s;rw [hY,a] at t;rw [hX,hY];clear hA hD hT hg lg hX hY a;go_enter func95,ntmps95;go_wp2_with fail;obtain⟨b1,b2,b3,b4,b5⟩:=y9 w 48 48 48 #[.slice A n c] #[.slice D m d] #[.slice none 0 0];obtain⟨W3,o⟩:∃W,((w.alloc (.cells #[.slice A n c] 48)).alloc (.cells #[.slice D m d] 48)).alloc (.cells #[.slice none 0 0] 48)=W:=⟨_,rfl⟩;rw [o] at b1 b2 b3 b4 b5⊢;have u:W3.heap.size=w.heap.size+1+1+1:=by rw [<-o];simp
 have kA:=b2.one.alloc (.cells #[.slice none 0 0] 48);have kD:=b3.one.alloc (.cells #[.slice none 0 0] 48);have kx:=b4.one.alloc (.cells #[.slice none 0 0] 48);have ky:=xf.new W3 48 (.slice none 0 0);rw [u] at ky;have hB:=b1.alloc b1.size (.cells #[.slice none 0 0] 48);clear b1 b2 b3 b4 b5 o u;generalize W3.alloc (.cells #[.slice none 0 0] 48)=W4 at*;obtain⟨p,hp⟩:∃p,w.heap.size=p:=⟨_,rfl⟩;have hpw:w.heap.size<=p:=zb;refine(HO.o _ hB).mono ?_;rw [hp] at kA kD kx ky⊢;clear hp;rintro e w1 ⟨A1,n1,c1,rfl,h,hb⟩;obtain⟨d1,d2,d3⟩:=zu w1 48 #[.slice A1 n1 c1];have a:=zc hb d1;have kA:=kA.keep a;have kD:=kD.keep a;have kx:=kx.keep a;have ky:=ky.keep a;have hB:=zc hB a;have h:=h.below d1;have kg:=d2.one;clear d1 d2 d3 hb a;have e1:=kA.cell;have e2:=kg.cell;go_wp2_with fail;generalize E:w1.alloc (.cells #[.slice A1 n1 c1] 48)=W5 at*;generalize w1.heap.size=z1 at*;clear E;refine(s.o _ hB A1 n1 c1 h).mono ?_;clear e1 e2;rintro e w2 ⟨A2,n2,c2,rfl,i,hb⟩;have hz2:=(ky.keep hb).lt;obtain⟨d1,d2,d3⟩:=zu w2 48 #[.slice A2 n2 c2];have a:=zc hb d1;have kD:=kD.keep a;have kx:=kx.keep a;have ky:=ky.keep a;have kg:=kg.keep a;have hB:=zc hB a;have h:=h.below a;have i:=i.below d1;have k7:=d2.one;clear d1 d2 d3 hb a kA;have e1:=kD.cell;have e2:=kg.cell;go_wp2_with fail;generalize F:w2.alloc (.cells #[.slice A2 n2 c2] 48)=W6 at*;generalize w2.heap.size=z2 at*;clear F;refine(t.o _ hB A1 n1 c1 h).mono ?_;clear e1 e2;rintro e w3 ⟨A3,n3,c3,rfl,k,hb⟩;have hz3:=(ky.keep hb).lt;obtain⟨d1,d2,d3⟩:=zu w3 48 #[.slice A3 n3 c3];have a:=zc hb d1;have kx:=kx.keep a;have ky:=ky.keep a;have k7:=k7.keep a;have hB:=zc hB a;have i:=i.below a;have k:=k.below d1;have k9:=d2.one;clear d1 d2 d3 hb a kD kg h;go_wp2_with fail;generalize G:w3.alloc (.cells #[.slice A3 n3 c3] 48)=W7 at*;generalize w3.heap.size=z3 at*;clear G;have q7:W7.cell? ⟨z2,0,none⟩=some (.slice A2 n2 c2):=k7.cell;have q9:W7.cell? ⟨z3,0,none⟩=some (.slice A3 n3 c3):=k9.cell;have qx:W7.cell? ⟨p+1+1,0,none⟩=some (.slice none 0 0):=kx.cell;have qy:W7.cell? ⟨p+1+1+1,0,none⟩=some (.slice none 0 0):=ky.cell;have fx:W7.frozen? ⟨p+1+1,0,none⟩=false:=kx.frozen;have fy:W7.frozen? ⟨p+1+1+1,0,none⟩=false:=ky.frozen;have q9':=yn (q:=⟨p+1+1,0,none⟩) (.slice A2 n2 c2) (by show z3≠p+1+1;omega) q9;have C:=kx.set_ (.slice A2 n2 c2);have j:=ky.far (p:=⟨p+1+1,0,none⟩) (by show p+1+1+1≠p+1+1;omega) (.slice A2 n2 c2);have qy':=j.cell;have fy':=j.frozen;have z:=wg i kx (.slice A2 n2 c2);have B:=wg k kx (.slice A2 n2 c2);have rx:=(C.far (p:=⟨p+1+1+1,0,none⟩) (by show p+1+1≠p+1+1+1;omega) (.slice A3 n3 c3)).cell;have ry:=(j.set_ (.slice A3 n3 c3)).cell;have HE : zd (Zu w X Y (.returned (.tuple #[.agg #[.slice A2 n2 c2],.agg #[.slice A3 n3 c3]])) ((W7.setCell ⟨p + 1 + 1,0,none⟩ (.slice A2 n2 c2)).setCell ⟨p + 1 + 1 + 1,0,none⟩ (.slice A3 n3 c3)).drew) :=
  ⟨_,_,_,_,_,_,rfl,wg z j _,wg B j _,(hB.setCell (p:=⟨p+1+1,0,none⟩) (by show w.heap.size<=p+1+1;omega) _).setCell (p:=⟨p+1+1+1,0,none⟩) (by show w.heap.size<=p+1+1+1;omega) _|>.drew⟩
 clear k7 k9 kx ky hB i k C j z B;go_region
 all_goals
  go_wp2
  refine bodyPost_ret (v:=.tuple #[.agg #[.slice A2 n2 c2],.agg #[.slice A3 n3 c3]]) (by simp [results,results95,go_sem,rx,ry]) rfl ?_
  exact HE.o
theorem Sz.of_words {x K:Nat}{A:ze}(h:zp w x A n c)(hn:n<=K):Sz K x:=by
 have h1:=wh (b:=18446744073709551616) zf x;rw [h.len] at h1;exact qJ h1 (qR zf hn)
theorem gM:cQ where
 of x y A D n m c d w hA hD hn hm hT:=rT x y A D n m c d w hA hD hn hm hT
 reduce x y A D n m c d w hA hD hn hm hT:=SB x y A D n m c d w hA hD hn hm hT
def vR (u:Value):Prop:=∀k z,u≠.int k z
def wH (w:World)(v:Value):Prop:=∀g,v.ownBlock=some g->∃(cur:Array Value) (e:TypeId),w.heap[g]?=some (.cells cur e (0,0))/\∀u ∈ cur.toList,vR u
theorem wH.nil (w:World)(c:Nat):wH w (.slice none 0 c):=λg h=>by simp [Value.ownBlock] at h
theorem wH.block (h:wH w v)(hg:∀g,v.ownBlock=some g->w'.heap[g]?=w.heap[g]?):wH w' v:=λg e=>by
 obtain⟨a,t,h1,h2⟩:=h g e;exact⟨a,t,(hg g e).trans h1,h2⟩
theorem wH.below (h:wH w v)(hb:Below w.heap.size w w'):wH w' v:=λg e=>by
 obtain⟨a,t,h1,h2⟩:=h g e;exact⟨a,t,(hb.block g (Array.getElem?_eq_some_iff.1 h1).1).trans h1,h2⟩
theorem To {z:Array Value}{u:Value}(hz:0<z.size)(hu:u ∈(Builtin.zeroCells z k).toList):u ∈ z.toList:=by
 unfold Builtin.zeroCells at hu;rw [yN,Array.mem_map] at hu;obtain⟨i,_,rfl⟩:=hu;have a:i%z.size<z.size:=xG _ hz;rw [getElem!_pos z (i%z.size) a,yN];exact Array.getElem_mem a
section
variable {P:Program}(w:World)
theorem Yr (o:Nat)(t ty e:TypeId)(i:TypeInfo)(z:Value)(size bytes:Nat)(ht:P.underlying t=some (.slice e))(hi:P.info? e=some i)(hz:i.zero=some z)
  (I:i.size=size) (Q:i.bytes=bytes) (T:z.cells.size=size) (hsz:0<size)
  (v:Value) (n:Nat) (xs:List Value) (h:w.ownsRow o e size v n xs)
  (a:Addr) (m c:Nat) (d:List Value) (hl:d.length=m*size) (A:∀j u,d[j]?=some u->w.cell? (a.add j)=some u) (h1:∀u ∈ d,u.oneCell'=true)
  (K:n+m<=maxLen) (B:(n+m)*bytes<=140737488355328) (E:o<=w.heap.size)
  (hv:wH w v) (S:∀u ∈ z.cells.toList,vR u) (O:∀u ∈ d,vR u):
  ∃ v' w',(Builtin.append_ #[t,t] ty #[v,.slice (some a) m c]).run P w = .ok v' w' ∧ w'.ownsRow o e size v' (n + m) (xs ++ d) ∧ w.grownBy w' v.ownBlock ∧
   (v'.ownBlock=v.ownBlock\/v'.ownBlock=some w.heap.size)/\wH w' v':=by
 subst I;subst Q;have hsmall:n+m<=9223372036854775807:=by simp only [maxLen] at K;omega
 have C:(xs++d).length=(n+m)*i.size:=by rw [qB,h.1,hl,QE]
 have grown : ∀ (old : Nat),old < n + m → (∀ u ∈ xs,vR u) → ∀ (row : Option Nat),
   (w.drew.alloc (.cells (xs.toArray ++ d.toArray ++ Builtin.zeroCells z.cells (grownCap w (n + m) old e - (n + m))) e)).ownsRow o e i.size
     (.slice (some ⟨w.heap.size,0,none⟩) (n+m) (grownCap w (n+m) old e)) (n+m) (xs++d)/\
   w.grownBy (w.drew.alloc (.cells (xs.toArray++d.toArray++Builtin.zeroCells z.cells (grownCap w (n+m) old e - (n+m))) e)) row/\
   wH (w.drew.alloc (.cells (xs.toArray++d.toArray++Builtin.zeroCells z.cells (grownCap w (n+m) old e - (n+m))) e)) (.slice (some ⟨w.heap.size,0,none⟩) (n+m) (grownCap w (n+m) old e)):=by
  intro old ho J row;have R:=grownCap_ge w (n+m) old e;have F:grownCap w (n+m) old e<=maxLen:=grownCap_le_maxLen w (n+m) old e K;refine⟨⟨C,.inr ⟨w.heap.size,_,_,rfl,E,heap_alloc_new w.drew _,R,F,?_,?_⟩⟩,⟨rfl,rfl,rfl,zA,λk hk _=>heap_alloc_old w.drew _ hk⟩,?_⟩
  ·simp only [Array.size_append,XU,size_zeroCells,T,h.1,hl,<-QE];congr 1;omega
  ·simp only [YK,xX];rw [<-xX,<-C];exact jJ
  ·intro g hg;simp [Value.ownBlock] at hg;subst hg;refine⟨_,_,heap_alloc_new w.drew _,λu hu=>?_⟩;simp only [YK,XW] at hu;rcases hu with(hu|hu)|hu
   ·exact J u hu
   ·exact O u hu
   ·exact S u (To zb hu)
 rcases h.2 with⟨rfl,rfl⟩|⟨g,cap,cur,rfl,hbg,hg,hnc,F,hcs,htake⟩
 ·have hx:xs=[]:=QU (by simpa using h.1);subst hx;by_cases hm:m=0
  ·subst hm;have hn:d=[]:=QU (by simpa using hl);subst hn;refine⟨.slice none 0 0,w,?_,XO w o e i.size,⟨rfl,rfl,rfl,qX _,λ_ _ _=>rfl⟩,Or.inl rfl,wH.nil _ _⟩;simp [Builtin.append_,run_underlying ht,sizeOf,typeInfo,hi,Builtin.lenOf,Builtin.firstCells,loadCells,loadCellsFrom]
  ·have hr:=run_append_nil (P:=P) w t ty e i z ht hi hz a m c d hl A zb zb (by have hb:=B;simp only [xB] at hb;omega);have y:=grown 0 zb (λu hu=>by cases hu) (Value.ownBlock (.slice none 0 0));simp only [xB,XC,Array.empty_append] at y⊢;exact⟨_,_,hr,y.1,y.2.1,Or.inr rfl,y.2.2⟩
 ·obtain⟨s,e2,D,G⟩:=hv g rfl;have L:s=cur:=by
   rw [hg] at D;injection D with D;injection D with D;exact D.symm
  subst L;by_cases hroom:n+m<=cap
  ·have M:n*i.size+d.length<=s.size:=by rw [hl,hcs,<-QE];exact qS _ hroom
   have hr:=run_append_room (P:=P) w t ty e i ht hi g n cap s hg a m c d hl A h1 hroom M;refine⟨_,_,hr,⟨C,.inr ⟨g,cap,_,rfl,hbg,setRow_heap w g s _ e _ hg,hroom,F,?_,?_⟩⟩,⟨rfl,rfl,rfl,zA,λk _ hk=>setRow_other w g k _ (λe=>hk (by simp [Value.ownBlock,e]))⟩,Or.inl rfl,?_⟩
   ·simp only [XU,qB,qA,xZ,XP];omega
   ·rw [htake,<-C];exact jJ
   ·intro g' N;simp [Value.ownBlock] at N;subst N;refine⟨_,_,setRow_heap w g s _ e _ hg,λu hu=>?_⟩;rw [XW,XW] at hu;rcases hu with(hu|hu)|hu
    ·exact G u (xT hu)
    ·exact O u hu
    ·exact G u (XV hu)
  ·have H:∀j u,xs[j]?=some u->w.cell? ((⟨g,0,none⟩:Addr).add j)=some u:=h.cells (g:=g) rfl;have hr:=run_append_grow (P:=P) w t ty e i z ht hi hz ⟨g,0,none⟩ n cap xs h.1 H a m c d hl A zb zb (growslice_fits zb B);have J:∀u ∈ xs,vR u:=λu hu=>G u (xT (by rw [htake];exact hu));have y:=grown cap zb J (Value.ownBlock (.slice (some ⟨g,0,none⟩) n cap));exact⟨_,_,hr,y.1,y.2.1,Or.inr rfl,y.2.2⟩
theorem bG {D:Array Oper}{rest:List Oper}{o:Oper}{a:Act}{Q:Exit->Act->World->Prop}(G:o.guard=none)(s x:Operand)(t:TypeId)
  (ho:o.op=.call {callee:=.builtin .append,args:=#[s,x],argTypes:=#[t,t]})
  (g:Nat) (e:TypeId) (i:TypeInfo) (z:Value) (size bytes:Nat) (ht:P.underlying t=some (.slice e)) (hi:P.info? e=some i) (hz:i.zero=some z)
  (B:i.size=size) (F:i.bytes=bytes) (J:z.cells.size=size) (hsz:0<size)
  (v:Value) (n:Nat) (xs:List Value) (hs:a.eval s=v) (C:w.ownsRow g e size v n xs)
  (ad:Addr) (m c:Nat) (d:List Value) (hx:a.eval x=.slice (some ad) m c) (hl:d.length=m*size) (A:∀j u,d[j]?=some u->w.cell? (ad.add j)=some u) (h1:∀u ∈ d,u.oneCell'=true)
  (E:n+m<=maxLen) (k:(n+m)*bytes<=140737488355328) (y:g<=w.heap.size)
  (hv:wH w v) (I:∀u ∈ z.cells.toList,vR u) (H:∀u ∈ d,vR u)
  (h:∀v' w',w'.ownsRow g e size v' (n+m) (xs++d)->w.grownBy w' v.ownBlock->(v'.ownBlock=v.ownBlock\/v'.ownBlock=some w.heap.size)->wH w' v'->wpList P D Q rest (a.put o.dst v') w'):
  wpList P D Q (o::rest) a w:=by
 refine wpList_plain G λK hK=>?_;obtain⟨v',w',hr,h2,h3,h4,h5⟩:=Yr (P:=P) w g t o.type e i z size bytes ht hi hz B F J hsz v n xs C ad m c d hl A h1 E k y hv I H;unfold Oper.wp execOp;simp only [ho,resolve,invoke,builtin,Sem.run_bind,Sem.run_pure,Result.andThen_ok,YG,yK,List.map_nil,hs,hx,hr];exact hK _ _ (h v' w' h2 h3 h4 h5)
end
theorem wH.blk (h:wH w v)(hg:v.ownBlock=some g):∃(t:TypeId) (cs:Array Value),zh w g t cs/\zV cs:=by
 obtain⟨a,e,h1,h2⟩:=h g hg;exact⟨e,a,h1,λu hu k z=>h2 u hu k z⟩
theorem tG.grown {α:Type}{E:El α}(hE:tG E){w w':World}{v:Value}{x:α}{b:Bool}{A:ze}{n c:Nat}{F:ze}{k f:Nat}(h:E w x b A n c F k f)(hg:w.grownBy w' v.ownBlock)(hn:wH w v):E w' x b A n c F k f:=by
 cases hv:v.ownBlock with
 |none=>rw [hv] at hg;exact hE.below h (su hg)
 |some g=>
   rw [hv] at hg;obtain⟨t,cs,hk,hc⟩:=hn.blk hv;exact hE.offg h hk hc (zP.of_grown hg)
theorem p8 {cs:Array Value}{row:Option Nat}(h:zh w g t cs)(hg:w.grownBy w' row)(a:row≠some g):zh w' g t cs:=(hg.block g (zh.lt h) (λe=>a e.symm)).trans h
structure y6 {α:Type}(E:El α)(w:World)(base:Nat)(t:TypeId)(v:Value)(xs:List α)(vs:List Value):Prop where
 own:w.ownsRow base t 3 v xs.length vs
 nou:wH w v
 num:∀i x,xs[i]?=some x->∃(b:Bool) (B:ze) (m d:Nat) (F:ze) (u f:Nat),vs[i*3]?=some (.bool b)/\vs[i*3+1]?=some (.slice B m d)/\vs[i*3+2]?=some (.slice F u f)/\E w x b B m d F u f
section
variable {α:Type}{E:El α}
theorem y6.nil (w:World)(a:Nat)(t:TypeId):y6 E w a t (.slice none 0 0) [] []:=⟨XO _ _ _ _,wH.nil _ _,λi x hi=>by simp at hi⟩
theorem y6.len {a:Nat}{xs:List α}(h:y6 E w a t v xs vs):vs.length=xs.length*3:=h.own.1
theorem y6.shape {xs:List α}(h:y6 E w j t v xs vs):∃A c,v=.slice A xs.length c/\z8 E w A xs.length c xs/\∀ad,A=some ad->j<=ad.block:=by
 rcases h.own.2 with⟨rfl,h0⟩|⟨g,cap,cur,rfl,hbg,hg,hnc,hcm,hcs,htake⟩
 ·have hx:xs=[]:=QU h0;subst hx;exact⟨none,0,rfl,z8.nil w,λad e=>by cases e⟩
 ·have a:=h.own.cells (g:=g) rfl;refine⟨some ⟨g,0,none⟩,cap,rfl,⟨rfl,hnc,by unfold maxLen at hcm;omega,λi x hi=>?_⟩,λad e=>by injection e with e;subst e;exact hbg⟩;obtain⟨b,B,m,d,F,u,f,h1,h2,h3,h4⟩:=h.num i x hi;exact⟨_,b,B,m,d,F,u,f,rfl,(Array.getElem?_eq_some_iff.1 hg).1,a _ _ h1,a _ _ h2,a _ _ h3,h4⟩
theorem y6.below (hE:tG E){w w':World}{a:Nat}{t:TypeId}{v:Value}{xs:List α}{vs:List Value}(h:y6 E w a t v xs vs)(hb:Below w.heap.size w w'):y6 E w' a t v xs vs:=by
 refine⟨⟨h.own.1,?_⟩,h.nou.below hb,λi x hi=>?_⟩
 ·rcases h.own.2 with h1|⟨g,cap,cur,e1,e2,e3,e4⟩
  ·exact .inl h1
  ·exact .inr ⟨g,cap,cur,e1,e2,(hb.block g (zh.lt (t:=t) (cs:=cur) e3)).trans e3,e4⟩
 ·obtain⟨b,B,m,d,F,u,f,h1,h2,h3,h4⟩:=h.num i x hi;exact⟨b,B,m,d,F,u,f,h1,h2,h3,hE.below h4 hb⟩
theorem y6.grow (hE:tG E){w w':World}{a n:Nat}{t:TypeId}{v v':Value}{xs:List α}{vs:List Value}{x:α}{b:Bool}{B F:ze}{m d u f:Nat}(h:y6 E w a t v xs vs)(hx:E w x b B m d F u f)
  (ho:w'.ownsRow a t 3 v' n (vs++[.bool b,.slice B m d,.slice F u f])) (hn:n=xs.length+1) (hg:w.grownBy w' v.ownBlock) (g:wH w' v'):y6 E w' a t v' (xs++[x]) (vs++[.bool b,.slice B m d,.slice F u f]):=by
 have hl:=h.len;refine⟨by rw [qB,YA,<-hn];exact ho,g,λi y hi=>?_⟩;by_cases hlt:i<xs.length
 ·rw [QG hlt] at hi;obtain⟨b1,B1,m1,d1,F1,u1,f1,h1,h2,h3,h4⟩:=h.num i y hi;exact⟨b1,B1,m1,d1,F1,u1,f1,by rw [QG zb];exact h1,by rw [QG zb];exact h2,by rw [QG zb];exact h3,hE.grown h4 hg h.nou⟩
 ·rw [qT zb] at hi;have c:i=xs.length:=by
   have:=(List.getElem?_eq_some_iff.1 hi).1;simp at this;omega
  subst c;obtain rfl:x=y:=by
   rw [XH] at hi;injection hi
  exact⟨b,B,m,d,F,u,f,by rw [qT zb,hl,XH];rfl,by rw [qT zb,hl,yZ];rfl,by rw [qT zb,hl,yZ];rfl,hE.grown hx hg h.nou⟩
end
theorem Yo {P:Program}(w:World){o:Oper}{a:Act}{K:Act->World->Prop}{Q:Exit->Act->World->Prop}(s x:Operand)(t:TypeId)
  (ho:o.op=.call {callee:=.builtin .append,args:=#[s,x],argTypes:=#[t,t]})
  (g:Nat) (e:TypeId) (i:TypeInfo) (z:Value) (size bytes:Nat) (ht:P.underlying t=some (.slice e)) (hi:P.info? e=some i) (hz:i.zero=some z)
  (B:i.size=size) (E:i.bytes=bytes) (H:z.cells.size=size) (hsz:0<size)
  (v:Value) (n:Nat) (xs:List Value) (hs:a.eval s=v) (C:w.ownsRow g e size v n xs)
  (ad:Addr) (m c:Nat) (d:List Value) (hx:a.eval x=.slice (some ad) m c) (hl:d.length=m*size) (A:∀j u,d[j]?=some u->w.cell? (ad.add j)=some u) (h1:∀u ∈ d,u.oneCell'=true)
  (D:n+m<=maxLen) (k:(n+m)*bytes<=140737488355328) (y:g<=w.heap.size)
  (hv:wH w v) (G:∀u ∈ z.cells.toList,vR u) (F:∀u ∈ d,vR u)
  (h:∀v' w',w'.ownsRow g e size v' (n+m) (xs++d)->w.grownBy w' v.ownBlock->(v'.ownBlock=v.ownBlock\/v'.ownBlock=some w.heap.size)->wH w' v'->K (a.put o.dst v') w'):Oper.wp P o a w K Q:=by
 obtain⟨v',w',hr,h2,h3,h4,h5⟩:=Yr (P:=P) w g t o.type e i z size bytes ht hi hz B E H hsz v n xs C ad m c d hl A h1 D k y hv G F;unfold Oper.wp execOp;simp only [ho,resolve,invoke,builtin,Sem.run_bind,Sem.run_pure,Result.andThen_ok,YG,yK,List.map_nil,hs,hx,hr];exact h v' w' h2 h3 h4 h5
theorem Xq {b:Bool}{B F:ze}{m d u f:Nat}(h:zh w g t #[.bool b,.slice B m d,.slice F u f]):∀j v,[Value.bool b,.slice B m d,.slice F u f][j]?=some v->w.cell? ((⟨g,0,none⟩:Addr).add j)=some v:=λj v hv=>by
 rw [xk]
 match j,hv with
 |0,hv=>simp at hv;subst hv;exact h.cell 0
 |1,hv=>simp at hv;subst hv;exact h.cell 1
 |2,hv=>simp at hv;subst hv;exact h.cell 2
theorem V0 (b:Bool)(B F:ze)(m d u f:Nat):∀v ∈ [Value.bool b,.slice B m d,.slice F u f],v.oneCell'=true:=by intro v hv;simp at hv;rcases hv with rfl|rfl|rfl<;>rfl
theorem VY (b:Bool)(B F:ze)(m d u f:Nat):∀v ∈ [Value.bool b,.slice B m d,.slice F u f],vR v:=by intro v hv y z;simp at hv;rcases hv with rfl|rfl|rfl<;>(intro h9;cases h9)
theorem WP:∀u ∈(Value.agg #[.bool false,.slice none 0 0,.slice none 0 0]).cells.toList,vR u:=by intro u hu y z;simp [Value.cells] at hu;rcases hu with rfl|rfl<;>(intro h9;cases h9)
