/- What this claim leans on. -/
import Derived.Test.YtcojjcjgbepicaaGreatDoorKBunI
namespace Go.Proofs.YtcojjcjgbepicaaGreatDoor
open Go Go.RowKit
set_option maxHeartbeats 16000000
set_option maxRecDepth 100000
set_option linter.unusedVariables false
theorem zgI (x y:Nat)(A D:oA9)(n m c d:Nat)(w:World)(hA:zad w x A n c)(hD:zad w y D m d)(hn:n<=274877906944)(hm:m<=274877906944):
  Calls Tryz.prog 171 #[.agg #[.slice A n c],.agg #[.slice D m d]] w (zex w (x / y) (decide (y≠0))):=by
 by_cases hy:y=0
 ·have e:x / y=0:=by rw [hy,Nat.div_zero]
  have e2:decide (y≠0)=false:=by simp [hy]
  rw [e,e2]
  exact zfo 0 0 false A D n m c d w (λw' hb=>zfp x y A D n m c d w' (hA.below hb) (hD.below hb) hy)
 ·have e2:decide (y≠0)=true:=by simp [hy]
  rw [e2]
  exact zfo (x / y) (x%y) true A D n m c d w (λw' hb=>zdV x y A D n m c d w' (hA.below hb) (hD.below hb) (by omega) (by omega) hy)
theorem zmN (x y:Nat)(A D:oA9)(n m c d:Nat)(w:World)(hA:zad w x A n c)(hD:zad w y D m d)(hn:n<=1073741824)(hm:m<=1073741824)(hT:zai w):
  Calls Tryz.prog 122 #[.agg #[.slice A n c],.agg #[.slice D m d]] w (zkb w (x / Nat.gcd x y) (y / Nat.gcd x y)):=by
 have HO:=lh9 (λw' (hb:Below w.heap.size w w')=>gcd_of x y A D n m c d w' (hA.below hb) (hD.below hb) hn hm (hT.on hb))
 obtain⟨g,hg⟩:∃g,Nat.gcd x y=g:=⟨_,rfl⟩
 have lg:(dg 18446744073709551616 g).length<=2147483648:=by
  rw [<-hg]
  rcases Nat.eq_zero_or_pos x with e|e
  ·rw [e,Nat.gcd_zero_left,hD.len];omega
  ·exact Nat.le_trans (zbD (by decide) (Nat.gcd_le_left y e)) (by rw [hA.len];omega)
 rw [hg] at HO⊢
 have HDA:=lh9 (λw' (hb:Below w.heap.size w w') A1 n1 c1 (h1:zad w' g A1 n1 c1)=>zgI x g A A1 n n1 c c1 w' (hA.below hb) h1 (by omega) (by rw [<-h1.len];omega))
 have HDB:=lh9 (λw' (hb:Below w.heap.size w w') A1 n1 c1 (h1:zad w' g A1 n1 c1)=>zgI y g D A1 m n1 d c1 w' (hD.below hb) h1 (by omega) (by rw [<-h1.len];omega))
 obtain⟨X,hX⟩:∃g',x / g=g':=⟨_,rfl⟩
 obtain⟨Y,hY⟩:∃g',y / g=g':=⟨_,rfl⟩
 obtain⟨bb,hbb⟩:∃g':Bool,decide (g≠0)=g':=⟨_,rfl⟩
 rw [hX,hbb] at HDA
 rw [hY,hbb] at HDB
 rw [hX,hY]
 clear hA hD hT hg lg hX hY hbb
 go_enter Tryz.func122,Tryz.ntmps122
 go_wp2_with fail
 obtain⟨b1,b2,b3,b4,b5⟩:=zbA w 49 49 49 #[.slice A n c] #[.slice D m d] #[.slice none 0 0]
 obtain⟨W3,hW3⟩:∃W,((w.alloc (.cells #[.slice A n c] 49)).alloc (.cells #[.slice D m d] 49)).alloc (.cells #[.slice none 0 0] 49)=W:=⟨_,rfl⟩
 rw [hW3] at b1 b2 b3 b4 b5⊢
 have hs3:W3.heap.size=w.heap.size+1+1+1:=by rw [<-hW3];simp
 have kA:=b2.one.alloc (.cells #[.slice none 0 0] 49)
 have kD:=b3.one.alloc (.cells #[.slice none 0 0] 49)
 have kx:=b4.one.alloc (.cells #[.slice none 0 0] 49)
 have ky:=zbQ.new W3 49 (.slice none 0 0)
 rw [hs3] at ky
 have hB:=b1.alloc b1.size (.cells #[.slice none 0 0] 49)
 clear b1 b2 b3 b4 b5 hW3 hs3
 generalize W3.alloc (.cells #[.slice none 0 0] 49)=W4 at*
 obtain⟨p,hp⟩:∃p,w.heap.size=p:=⟨_,rfl⟩
 have hpw:w.heap.size<=p:=by omega
 refine(HO.out _ hB).mono ?_
 rw [hp] at kA kD kx ky⊢
 clear hp
 rintro e w1 ⟨A1,n1,c1,rfl,hg1,hb⟩
 obtain⟨d1,d2,d3⟩:=zax w1 49 #[.slice A1 n1 c1]
 have hbb:=zaa hb d1
 have kA:=kA.keep hbb
 have kD:=kD.keep hbb
 have kx:=kx.keep hbb
 have ky:=ky.keep hbb
 have hB:=zaa hB hbb
 have hg1:=hg1.below d1
 have kg:=d2.one
 clear d1 d2 d3 hb hbb
 have e1:=kA.cell
 have e2:=kg.cell
 go_wp2_with fail
 generalize hW5:w1.alloc (.cells #[.slice A1 n1 c1] 49)=W5 at*
 generalize w1.heap.size=z1 at*
 clear hW5
 refine(HDA.out _ hB A1 n1 c1 hg1).mono ?_
 clear e1 e2
 rintro e w2 ⟨A2,n2,c2,rfl,hx2,hb⟩
 have hz2:=(ky.keep hb).lt
 obtain⟨d1,d2,d3⟩:=zax w2 49 #[.slice A2 n2 c2]
 have hbb:=zaa hb d1
 have kD:=kD.keep hbb
 have kx:=kx.keep hbb
 have ky:=ky.keep hbb
 have kg:=kg.keep hbb
 have hB:=zaa hB hbb
 have hg1:=hg1.below hbb
 have hx2:=hx2.below d1
 have k7:=d2.one
 clear d1 d2 d3 hb hbb kA
 have e1:=kD.cell
 have e2:=kg.cell
 go_wp2_with fail
 generalize hW6:w2.alloc (.cells #[.slice A2 n2 c2] 49)=W6 at*
 generalize w2.heap.size=z2 at*
 clear hW6
 refine(HDB.out _ hB A1 n1 c1 hg1).mono ?_
 clear e1 e2
 rintro e w3 ⟨A3,n3,c3,rfl,hy3,hb⟩
 have hz3:=(ky.keep hb).lt
 obtain⟨d1,d2,d3⟩:=zax w3 49 #[.slice A3 n3 c3]
 have hbb:=zaa hb d1
 have kx:=kx.keep hbb
 have ky:=ky.keep hbb
 have k7:=k7.keep hbb
 have hB:=zaa hB hbb
 have hx2:=hx2.below hbb
 have hy3:=hy3.below d1
 have k9:=d2.one
 clear d1 d2 d3 hb hbb kD kg hg1
 go_wp2_with fail
 generalize hW7:w3.alloc (.cells #[.slice A3 n3 c3] 49)=W7 at*
 generalize w3.heap.size=z3 at*
 clear hW7
 have q7:W7.cell? ⟨z2,0,none⟩=some (.slice A2 n2 c2):=k7.cell
 have q9:W7.cell? ⟨z3,0,none⟩=some (.slice A3 n3 c3):=k9.cell
 have qx:W7.cell? ⟨p+1+1,0,none⟩=some (.slice none 0 0):=kx.cell
 have qy:W7.cell? ⟨p+1+1+1,0,none⟩=some (.slice none 0 0):=ky.cell
 have fx:W7.frozen? ⟨p+1+1,0,none⟩=false:=kx.frozen
 have fy:W7.frozen? ⟨p+1+1+1,0,none⟩=false:=ky.frozen
 have q9':=zag (q:=⟨p+1+1,0,none⟩) (.slice A2 n2 c2) (by show z3≠p+1+1;omega) q9
 have kx1:=kx.set_ (.slice A2 n2 c2)
 have ky1:=ky.far (p:=⟨p+1+1,0,none⟩) (by show p+1+1+1≠p+1+1;omega) (.slice A2 n2 c2)
 have qy':=ky1.cell
 have fy':=ky1.frozen
 have hx4:=zan hx2 kx (.slice A2 n2 c2)
 have hy4:=zan hy3 kx (.slice A2 n2 c2)
 have rx:=(kx1.far (p:=⟨p+1+1+1,0,none⟩) (by show p+1+1≠p+1+1+1;omega) (.slice A3 n3 c3)).cell
 have ry:=(ky1.set_ (.slice A3 n3 c3)).cell
 have HE : Hid (zkb w X Y (.returned (.tuple #[.agg #[.slice A2 n2 c2],.agg #[.slice A3 n3 c3]])) ((W7.setCell ⟨p + 1 + 1,0,none⟩ (.slice A2 n2 c2)).setCell ⟨p + 1 + 1 + 1,0,none⟩ (.slice A3 n3 c3)).drew) :=
  ⟨_,_,_,_,_,_,rfl,zan hx4 ky1 _,zan hy4 ky1 _,(hB.setCell (p:=⟨p+1+1,0,none⟩) (by show w.heap.size<=p+1+1;omega) _).setCell (p:=⟨p+1+1+1,0,none⟩) (by show w.heap.size<=p+1+1+1;omega) _|>.drew⟩
 clear k7 k9 kx ky hB hx2 hy3 kx1 ky1 hx4 hy4
 go_region
 all_goals
  go_wp2
  refine bodyPost_ret (v:=.tuple #[.agg #[.slice A2 n2 c2],.agg #[.slice A3 n3 c3]]) (by simp [results,Tryz.results122,go_sem,rx,ry]) rfl ?_
  exact HE.out
set_option linter.unusedSimpArgs false
theorem Sz.of_words {w:World}{x K n c:Nat}{A:oA9}(h:zad w x A n c)(hn:n<=K):Sz K x:=by
 have h1:=zbt (b:=18446744073709551616) (by decide) x
 rw [h.len] at h1
 exact Nat.lt_of_lt_of_le h1 (Nat.pow_le_pow_right (by decide) hn)
theorem zbR:GcdC where
 of x y A D n m c d w hA hD hn hm hT:=gcd_of x y A D n m c d w hA hD hn hm hT
 reduce x y A D n m c d w hA hD hn hm hT:=zmN x y A D n m c d w hA hD hn hm hT
def sg (c:Nat):Rat:=if c%2=0 then 1 else -1
def skp (c j:Nat):Nat:=if j<c then j else j+1
def mnr (M:Nat->Nat->Rat)(c:Nat):Nat->Nat->Rat:=λi j=>M (i+1) (skp c j)
def zbG:Nat->(Nat->Nat->Rat)->Rat
 |0,_=>1
 |n+1,M=>zaF (n+1) λc=>sg c*M 0 c*zbG n (mnr M c)
theorem zcv (n:Nat)(M:Nat->Nat->Rat):zbG (n+1) M=zaF (n+1) λc=>sg c*M 0 c*zbG n (mnr M c):=rfl
theorem sg_succ (c:Nat):sg (c+1)= -sg c:=by
 unfold sg
 by_cases h:c%2=0
 ·rw [if_neg (by omega),if_pos h]
 ·rw [if_pos (by omega),if_neg h,Rat.neg_neg]
theorem skp_lt {c j n:Nat}(hj:j<n):skp c j<n+1:=by unfold skp;split<;>omega
theorem skp_ne (c j:Nat):skp c j≠c:=by unfold skp;split<;>omega
theorem zcL:∀{n:Nat} {M N:Nat->Nat->Rat},(∀i,i<n->∀j,j<n->M i j=N i j)->zbG n M=zbG n N
 |0,_,_,_=>rfl
 |n+1,M,N,h=>by
   rw [zcv,zcv]
   refine zav λc hc=>?_
   rw [h 0 (by omega) c hc,zcL (n:=n) (M:=mnr M c) (N:=mnr N c) λi hi j hj=>h (i+1) (by omega) _ (skp_lt hj)]
def zbI (M:Nat->Nat->Rat)(k:Nat)(v:Nat->Rat):Nat->Nat->Rat:=λi j=>if j=k then v i else M i j
theorem zch (M:Nat->Nat->Rat)(k:Nat)(v:Nat->Rat)(i:Nat):zbI M k v i k=v i:=if_pos rfl
theorem zci (M:Nat->Nat->Rat){k j:Nat}(h:j≠k)(v:Nat->Rat)(i:Nat):zbI M k v i j=M i j:=if_neg h
theorem zfJ (M:Nat->Nat->Rat)(k:Nat):zbI M k (λi=>M i k)=M:=by
 funext i j;unfold zbI;split
 ·next h=>rw [h]
 ·rfl
theorem zed (M:Nat->Nat->Rat)(k:Nat)(v:Nat->Rat):mnr (zbI M k v) k=mnr M k:=by
 funext i j;show(if skp k j=k then _ else _)=_;rw [if_neg (skp_ne k j)];rfl
def uns (c k:Nat):Nat:=if k<c then k else k - 1
theorem zkL {c k j:Nat}(h:k≠c):skp c j=k↔j=uns c k:=by unfold skp uns;split<;>split<;>omega
theorem uns_lt {c k n:Nat}(h:k≠c)(hk:k<n+1)(hc:c<n+1):uns c k<n:=by unfold uns;split<;>omega
theorem ziC {M:Nat->Nat->Rat}{c k:Nat}(h:k≠c)(v:Nat->Rat):mnr (zbI M k v) c=zbI (mnr M c) (uns c k) (λi=>v (i+1)):=by
 funext i j
 show(if skp c j=k then _ else _)=(if j=uns c k then _ else _)
 by_cases e:j=uns c k
 ·rw [if_pos e,if_pos ((zkL h).2 e)]
 ·rw [if_neg e,if_neg λq=>e ((zkL h).1 q)];rfl
theorem zdE:∀{n:Nat} (M:Nat->Nat->Rat) {k:Nat} (_:k<n) (a b:Rat) (u v:Nat->Rat),zbG n (zbI M k λi=>a*u i+b*v i)=a*zbG n (zbI M k u)+b*zbG n (zbI M k v)
 |n+1,M,k,hk,a,b,u,v=>by
   rw [zcv,zcv,zcv,zaZ,zaZ,<-zfu]
   refine zav λc hc=>?_
   by_cases h:k=c
   ·subst h
    rw [zed,zed,zed]
    simp only [zbI,if_true]
    grind
   ·rw [ziC h,ziC h,ziC h,zdE (mnr M c) (uns_lt h hk hc) a b (λi=>u (i+1)) (λi=>v (i+1))]
    simp only [zbI,if_neg (λe:c=k=>h e.symm)]
    grind
theorem zgc {n:Nat}(M:Nat->Nat->Rat){k:Nat}(hk:k<n)(a:Rat)(u:Nat->Rat):zbG n (zbI M k λi=>a*u i)=a*zbG n (zbI M k u):=by
 have h:=zdE M hk a 0 u u
 rw [Rat.zero_mul,Rat.add_zero] at h
 rw [<-h]
 congr 2
 funext i
 grind
theorem zgx {n:Nat}(M:Nat->Nat->Rat){k:Nat}(hk:k<n)(f:Nat->Rat)(u:Nat->Nat->Rat):∀q,zbG n (zbI M k λi=>zaF q λl=>f l*u l i)=zaF q λl=>f l*zbG n (zbI M k (u l))
 |0=>by
   have:=zgc M hk 0 (λ_=>0)
   have e:(λi:Nat=>(0:Rat)*(λ_=>0) i)=λ_=>0:=by funext i;exact Rat.zero_mul _
   rw [e] at this
   show zbG n (zbI M k λi=>0)=0
   rw [this,Rat.zero_mul]
 |q+1=>by
   rw [zaP,<-zgx M hk f u q]
   have:=zdE M hk 1 (f q) (λi=>zaF q λl=>f l*u l i) (u q)
   rw [Rat.one_mul] at this
   rw [<-this]
   congr 2
   funext i
   rw [zaP,Rat.one_mul]
theorem zma {f:Nat->Rat}{k:Nat}(h2:f k+f (k+1)=0):∀{n:Nat},k+1<n->(∀c,c<n->c≠k->c≠k+1->f c=0)->zaF n f=0
 |n+1,hk,h1=>by
   rw [zaP]
   by_cases e:n=k+1
   ·subst e
    rw [zaP,zcc λi hi=>h1 i (by omega) (by omega) (by omega),Rat.zero_add,h2]
   ·rw [zma h2 (n:=n) (by omega) (λc hc=>h1 c (by omega)),h1 n (by omega) (by omega) (by omega),Rat.add_zero]
theorem zdF:∀{n:Nat} {M:Nat->Nat->Rat} {k:Nat},k+1<n->(∀i,i<n->M i k=M i (k+1))->zbG n M=0
 |n+1,M,k,hk,h=>by
   rw [zcv]
   have h1:∀c,c<n+1->c≠k->c≠k+1->sg c*M 0 c*zbG n (mnr M c)=0:=λc hc e1 e2=>by
    have:zbG n (mnr M c)=0:=by
     refine zdF (k:=uns c k) ?_ λi hi=>?_
     ·unfold uns;split<;>omega
     ·have a1:skp c (uns c k)=k:=(zkL (Ne.symm e1)).2 rfl
      have a2:skp c (uns c k+1)=k+1:=by unfold skp uns;split<;>split<;>omega
      show M (i+1) (skp c (uns c k))=M (i+1) (skp c (uns c k+1))
      rw [a1,a2];exact h (i+1) (by omega)
    rw [this,Rat.mul_zero]
   have h2:sg k*M 0 k*zbG n (mnr M k)+sg (k+1)*M 0 (k+1)*zbG n (mnr M (k+1))=0:=by
    have:zbG n (mnr M k)=zbG n (mnr M (k+1)):=zcL λi hi j hj=>by
     show M (i+1) (skp k j)=M (i+1) (skp (k+1) j)
     by_cases e:j=k
     ·subst e
      have a1:skp j j=j+1:=by unfold skp;split<;>omega
      have a2:skp (j+1) j=j:=by unfold skp;split<;>omega
      rw [a1,a2];exact(h (i+1) (by omega)).symm
     ·have:skp k j=skp (k+1) j:=by unfold skp;split<;>split<;>omega
      rw [this]
    rw [this,sg_succ,<-h 0 (by omega)]
    grind
   exact zma (f:=λc=>sg c*M 0 c*zbG n (mnr M c)) h2 (by omega) h1
theorem zoA {n:Nat}(M:Nat->Nat->Rat){k:Nat}(hk:k+1<n)(u v:Nat->Rat):zbG n (zbI (zbI M k u) (k+1) v)= -zbG n (zbI (zbI M k v) (k+1) u):=by
 have z:∀x:Nat->Rat,zbG n (zbI (zbI M k x) (k+1) x)=0:=λx=>zdF hk λi _=>by
  rw [zci _ (by omega),zch,zch]
 have sw:∀x y:Nat->Rat,zbI (zbI M k x) (k+1) y=zbI (zbI M (k+1) y) k x:=λx y=>by
  funext i j;simp only [zbI];by_cases a:j=k+1
  ·rw [if_pos a,if_neg (by omega),if_pos a]
  ·rw [if_neg a];by_cases b:j=k
   ·rw [if_pos b,if_pos b]
   ·rw [if_neg b,if_neg b,if_neg a]
 have e1:=z (λi=>1*u i+1*v i)
 rw [zdE _ hk,sw,sw,zdE _ (by omega:k<n),zdE _ (by omega:k<n),<-sw,<-sw,<-sw,<-sw,z,z] at e1
 grind
theorem zgZ:∀(d:Nat) {n:Nat} {M:Nat->Nat->Rat} {k:Nat},k+1+d<n->(∀i,i<n->M i k=M i (k+1+d))->zbG n M=0
 |0,n,M,k,hk,h=>zdF hk h
 |d+1,n,M,k,hk,h=>by
   have e:M=zbI (zbI M (k+1+d) λi=>M i (k+1+d)) (k+1+d+1) λi=>M i (k+1+d+1):=by rw [zfJ,zfJ]
   rw [e,zoA M (by omega),zgZ d (k:=k) (by omega),Rat.neg_zero]
   intro i hi
   rw [zci _ (by omega),zci _ (by omega),zci _ (by omega),zch]
   exact h i hi
theorem zik {n:Nat}{M:Nat->Nat->Rat}{k l:Nat}(hk:k<n)(hl:l<n)(hne:k≠l):zbG n (zbI M k λi=>M i l)=0:=by
 rcases Nat.lt_or_ge k l with h|h
 ·obtain⟨d,rfl⟩:∃d,l=k+1+d:=⟨l - k - 1,by omega⟩
  exact zgZ d (by omega) λi _=>by rw [zch,zci _ (by omega)]
 ·obtain⟨d,rfl⟩:∃d,k=l+1+d:=⟨k - l - 1,by omega⟩
  exact zgZ d (k:=l) (by omega) λi _=>by rw [zci _ (by omega),zch]
theorem zhr:∀(n:Nat) {M:Nat->Nat->Rat},(∀i,i<n->M i n=0)->zbG (n+1) M=M n n*zbG n M
 |0,M,_=>by
   show zaF 1 _=_
   rw [zaP,zhj]
   show 0+1*M 0 0*1=M 0 0*1
   grind
 |n+1,M,h=>by
   rw [zcv,zaP,h 0 (by omega),Rat.mul_zero,Rat.zero_mul,Rat.add_zero,zcv n,zaZ]
   refine zav λc hc=>?_
   rw [zhr n (M:=mnr M c) (λi hi=>by
    show M (i+1) (skp c n)=0
    rw [show skp c n=n+1 by unfold skp;split<;>omega];exact h (i+1) (by omega))]
   have:mnr M c n n=M (n+1) (n+1):=by show M (n+1) (skp c n)=_;rw [show skp c n=n+1 by unfold skp;split<;>omega]
   rw [this]
   grind
