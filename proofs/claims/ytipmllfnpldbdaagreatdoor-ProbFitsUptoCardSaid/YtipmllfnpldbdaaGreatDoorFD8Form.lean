/- What this claim leans on. -/
import Derived.Test.YtipmllfnpldbdaaGreatDoorFBunI
set_option linter.unusedVariables false
set_option linter.unusedSimpArgs false
namespace Go.Proofs.YtipmllfnpldbdaaGreatDoor
open Go Go.RowKit Go.Proofs.Tryz
set_option maxHeartbeats 16000000
variable {t:Int}{a b:Rat}
theorem bK {r:Rat}{d:Nat}(hd:d≠0)(hc:Nat.gcd t.natAbs d=1)(h:r=Rat.divInt t d):r.num=t/\r.den=d:=by
 have e:(⟨t,d,hd,hc⟩:Rat)=Rat.divInt t d:=Rat.mk_eq_divInt;rw [<-e] at h;subst h;exact⟨rfl,rfl⟩
theorem ig (t:Int)(h:Nat)(hd:h ∣ t.natAbs):t=(h:Int)*zJ (decide (t<0)) (t.natAbs / h):=by
 obtain⟨k,hk⟩:=hd;by_cases h0:h=0
 ·subst h0;rw [Nat.zero_mul] at hk;have:t=0:=Int.natAbs_eq_zero.1 hk;subst this;simp
 have e:t.natAbs / h=k:=by rw [hk];exact xC _ (xL h0)
 rw [e];unfold zJ;by_cases ht:t<0
 ·rw [decide_eq_true ht,if_pos rfl,Int.mul_neg,<-QU,<-hk];omega
 ·rw [decide_eq_false ht,if_neg zh,<-QU,<-hk];omega
theorem sw (s u:Bool)(x y:Nat):zJ s x*zJ u y=zJ (s !=u) (x*y):=by
 cases s<;>cases u<;>simp [zJ,QU,Int.neg_mul,Int.mul_neg]
theorem Vh {p1 p2:Int}{q1 mA mB:Nat}(hc:Nat.gcd p1.natAbs q1=1)(hA:mA ∣ q1)(hm:Nat.gcd mA mB=1)(ht:t=p1*mB+p2*mA):Nat.gcd t.natAbs mA=1:=by
 refine Nat.dvd_one.1 ?_;have h1:Nat.gcd t.natAbs mA ∣ mA:=XX _ _;have h2:Nat.gcd t.natAbs mA ∣ t.natAbs:=XU _ _;generalize Nat.gcd t.natAbs mA=d at*;have h3:(d:Int)∣ p1*mB:=by
  have a:=Int.ofNat_dvd_left.2 h2;have b:(d:Int)∣ p2*mA:=Int.dvd_trans (Int.ofNat_dvd.2 h1) (Int.dvd_mul_left _ _);have c:=Int.dvd_sub a b;rw [ht,Int.add_sub_cancel] at c;exact c
 have h4:d ∣ p1.natAbs*mB:=by
  have:=Int.ofNat_dvd_left.1 h3;rwa [xA,XS] at this
 have h5:Nat.Coprime d mB:=XN h1 hm;have h6:d ∣ p1.natAbs:=h5.dvd_of_dvd_mul_right h4;have h7:=Nat.dvd_gcd h6 (Nat.dvd_trans h1 hA);rwa [hc] at h7
theorem XF (a b:Rat){mA mB:Nat}{t:Int}(hA:mA=a.den / Nat.gcd a.den b.den)(hB:mB=b.den / Nat.gcd a.den b.den)(ht:t=a.num*mB+b.num*mA):
  (a+b).num=zJ (decide (t<0)) (t.natAbs / Nat.gcd t.natAbs b.den)/\(a+b).den=mA*(b.den / Nat.gcd t.natAbs b.den):=by
 have g0:0<Nat.gcd a.den b.den:=Nat.gcd_pos_of_pos_left _ (xL a.den_nz);have k0:0<Nat.gcd t.natAbs b.den:=Nat.gcd_pos_of_pos_right _ (xL b.den_nz);have ea:Nat.gcd a.den b.den*mA=a.den:=by rw [hA];exact XI (XU _ _)
 have eb:Nat.gcd a.den b.den*mB=b.den:=by rw [hB];exact XI (XX _ _)
 have hm:Nat.gcd mA mB=1:=by rw [hA,hB];exact Nat.gcd_div_gcd_div_gcd_of_pos_left (xL a.den_nz)
 have hp:Nat.gcd t.natAbs mA=1:=Vh a.reduced ⟨_,(qE mA _▸ea).symm⟩ hm ht;have eh:Nat.gcd t.natAbs b.den*(b.den / Nat.gcd t.natAbs b.den)=b.den:=XI (XX _ _);have et:=ig t (Nat.gcd t.natAbs b.den) (XU _ _);have hq:Nat.gcd (t.natAbs / Nat.gcd t.natAbs b.den) (b.den / Nat.gcd t.natAbs b.den)=1:=XT (xL b.den_nz);have d:mA≠0:=λh=>a.den_nz (by rw [<-ea,h];rfl);have r0:b.den / Nat.gcd t.natAbs b.den≠0:=λh=>b.den_nz (by rw [<-eh,h];rfl);refine bK (Nat.mul_ne_zero d r0) ?_ ?_
 ·rw [nM];refine Nat.Coprime.mul_right ?_ hq;exact XN (Nat.div_dvd_of_dvd (XU _ _)) hp
 ·have e1:a+b=Rat.divInt (a.num*b.den+b.num*a.den) ((a.den*b.den:Nat):Int):=by rw [Rat.add_def'];rfl
  have e2:a.num*(b.den:Int)+b.num*(a.den:Int)=(Nat.gcd a.den b.den:Int)*t:=by
   rw [ht];generalize Nat.gcd a.den b.den=g at*;rw [<-eb,<-ea,QU,QU,Int.mul_add,Int.mul_left_comm,Int.mul_left_comm b.num]
  have e3:((a.den*b.den:Nat):Int)=(Nat.gcd a.den b.den:Int)*((mA*b.den:Nat):Int):=by
   generalize Nat.gcd a.den b.den=g at*;rw [<-ea,qV,QU]
  rw [e1,e2,e3,Rat.divInt_mul_left za];generalize Nat.gcd t.natAbs b.den=h at*;have e4:((mA*b.den:Nat):Int)=(h:Int)*((mA*(b.den / h):Nat):Int):=by
   conv=>lhs;rw [<-eh]
   rw [Nat.mul_left_comm,QU]
  rw [e4]
  conv=>lhs;rw [et]
  exact Rat.divInt_mul_left za
theorem Wa (a b:Rat):(a*b).num=zJ (decide (a.num<0) !=decide (b.num<0)) (a.num.natAbs / Nat.gcd a.num.natAbs b.den*(b.num.natAbs / Nat.gcd b.num.natAbs a.den))/\
  (a*b).den=a.den / Nat.gcd b.num.natAbs a.den*(b.den / Nat.gcd a.num.natAbs b.den):=by
 have g0:0<Nat.gcd a.num.natAbs b.den:=Nat.gcd_pos_of_pos_right _ (xL b.den_nz);have k0:0<Nat.gcd b.num.natAbs a.den:=Nat.gcd_pos_of_pos_right _ (xL a.den_nz);have ea:Nat.gcd b.num.natAbs a.den*(a.den / Nat.gcd b.num.natAbs a.den)=a.den:=XI (XX _ _);have eb:Nat.gcd a.num.natAbs b.den*(b.den / Nat.gcd a.num.natAbs b.den)=b.den:=XI (XX _ _);have ta:=ig a.num _ (XU a.num.natAbs b.den);have tb:=ig b.num _ (XU b.num.natAbs a.den);have c1:Nat.Coprime (a.num.natAbs / Nat.gcd a.num.natAbs b.den) (b.den / Nat.gcd a.num.natAbs b.den):=XT (xL b.den_nz);have c2:Nat.Coprime (b.num.natAbs / Nat.gcd b.num.natAbs a.den) (a.den / Nat.gcd b.num.natAbs a.den):=XT (xL a.den_nz);have c3 : Nat.Coprime (a.num.natAbs / Nat.gcd a.num.natAbs b.den) (a.den / Nat.gcd b.num.natAbs a.den) :=
  XN (Nat.div_dvd_of_dvd (XU _ _)) (Nat.Coprime.coprime_dvd_right (Nat.div_dvd_of_dvd (XX _ _)) a.reduced)
 have c4 : Nat.Coprime (b.num.natAbs / Nat.gcd b.num.natAbs a.den) (b.den / Nat.gcd a.num.natAbs b.den) :=
  XN (Nat.div_dvd_of_dvd (XU _ _)) (Nat.Coprime.coprime_dvd_right (Nat.div_dvd_of_dvd (XX _ _)) b.reduced)
 refine bK (λh=>?_) ?_ ?_
 ·rcases Nat.mul_eq_zero.1 h with h|h
  ·rw [h] at ea;exact a.den_nz ea.symm
  ·rw [h] at eb;exact b.den_nz eb.symm
 ·rw [nM];exact Nat.Coprime.mul_right (Nat.Coprime.mul_left c3 c2) (Nat.Coprime.mul_left c1 c4)
 ·have e1:a*b=Rat.divInt (a.num*b.num) ((a.den*b.den:Nat):Int):=by rw [Rat.mul_def'];rfl
  rw [e1,<-sw];generalize a.num.natAbs / Nat.gcd a.num.natAbs b.den=x1 at*;generalize b.num.natAbs / Nat.gcd b.num.natAbs a.den=x2 at*;generalize b.den / Nat.gcd a.num.natAbs b.den=y2 at*;generalize a.den / Nat.gcd b.num.natAbs a.den=y1 at*;generalize Nat.gcd a.num.natAbs b.den=g at*;generalize Nat.gcd b.num.natAbs a.den=k at*;generalize zJ (decide (a.num<0)) x1=u1 at*;generalize zJ (decide (b.num<0)) x2=u2 at*;have e2:a.num*b.num=((g*k:Nat):Int)*(u1*u2):=by
   rw [ta,tb,QU];simp only [Int.mul_assoc,Int.mul_left_comm]
  have e3:((a.den*b.den:Nat):Int)=((g*k:Nat):Int)*((y1*y2:Nat):Int):=by
   rw [<-ea,<-eb,<-QU];congr 1;simp only [Nat.mul_left_comm,qE]
  rw [e2,e3];exact Rat.divInt_mul_left (by have:=Nat.mul_pos g0 k0;omega)
theorem X0 (a:Rat)(h:a≠0):(a⁻¹).num=zJ (decide (a.num<0)) a.den/\(a⁻¹).den=a.num.natAbs:=by
 have hn:a.num≠0:=λe=>h (Rat.num_eq_zero.1 e);constructor
 ·rw [Rat.num_inv];unfold zJ;rcases Int.lt_or_gt_of_ne hn with h1|h1
  ·rw [Int.sign_eq_neg_one_of_neg h1,decide_eq_true h1,if_pos rfl];omega
  ·rw [Int.sign_eq_one_of_pos h1,decide_eq_false za,if_neg zh];omega
 ·rw [Rat.den_inv,if_neg hn]
theorem Wb (a:Rat):(-a).num=zJ (!decide (a.num<0)) a.num.natAbs/\(-a).den=a.den:=by
 refine⟨?_,rfl⟩;rw [Rat.neg_num];unfold zJ;by_cases h:a.num<0
 ·simp [h];omega
 ·simp [h];omega
theorem Vm (ha:a.den=1)(hb:b.den=1):(a+b)=((a.num+b.num:Int):Rat):=by
 have h1:a=((a.num:Int):Rat):=Rat.ext (by rw [yP]) (by rw [yO,ha]);have h2:b=((b.num:Int):Rat):=Rat.ext (by rw [yP]) (by rw [yO,hb]);rw [Rat.intCast_add,<-h1,<-h2]
theorem Vn (h:a=0\/b=0\/a.den=1/\b.den=1):(a*b)=((a.num*b.num:Int):Rat):=by
 rcases h with h|h|⟨ha,hb⟩
 ·subst h;rw [Rat.zero_mul,show(0:Rat).num=0 from rfl,Int.zero_mul];rfl
 ·subst h;rw [Rat.mul_zero,show(0:Rat).num=0 from rfl,Int.mul_zero];rfl
 ·have h1:a=((a.num:Int):Rat):=Rat.ext (by rw [yP]) (by rw [yO,ha]);have h2:b=((b.num:Int):Rat):=Rat.ext (by rw [yP]) (by rw [yO,hb]);rw [Rat.intCast_mul,<-h1,<-h2]
set_option maxRecDepth 100000
theorem fk (x y:Nat)(A D:zf)(n m c d:Nat)(w:World)(hA:zo w x A n c)(hD:zo w y D m d)(hn:n<=274877906944)(hm:m<=274877906944):
  Calls prog 115 #[.agg #[.slice A n c],.agg #[.slice D m d]] w (nD w (x / y) (decide (y≠0))):=by
 by_cases hy:y=0
 ·have e:x / y=0:=by rw [hy,Nat.div_zero]
  have e2:decide (y≠0)=false:=by simp [hy]
  rw [e,e2];exact jM 0 0 false A D n m c d w (λw' hb=>fh x y A D n m c d w' (hA.below hb) (hD.below hb) hy)
 ·have e2:decide (y≠0)=true:=by simp [hy]
  rw [e2];exact jM (x / y) (x%y) true A D n m c d w (λw' hb=>kB x y A D n m c d w' (hA.below hb) (hD.below hb) za za hy)
theorem YT (x y:Nat)(A D:zf)(n m c d:Nat)(w:World)(hA:zo w x A n c)(hD:zo w y D m d)(hn:n<=1073741824)(hm:m<=1073741824)(hT:zu w):
  Calls prog 94 #[.agg #[.slice A n c],.agg #[.slice D m d]] w (iu w (x / Nat.gcd x y) (y / Nat.gcd x y)):=by
 have HO:=zm w (λw' hb=>tm x y A D n m c d w' (hA.below hb) (hD.below hb) hn hm (hT.on hb));obtain⟨g,hg⟩:∃g,Nat.gcd x y=g:=⟨_,rfl⟩;have lg:(dg 18446744073709551616 g).length<=2147483648:=by
  rw [<-hg];rcases QR x with e|e
  ·rw [e,XE,hD.len];omega
  ·exact qA (pJ zh (Nat.gcd_le_left y e)) (by rw [hA.len];omega)
 rw [hg] at HO⊢;have z:=zm w (λw' hb A1 n1 c1 (h1:zo w' g A1 n1 c1)=>fk x g A A1 n n1 c c1 w' (hA.below hb) h1 za (by rw [<-h1.len];omega));have B:=zm w (λw' hb A1 n1 c1 (h1:zo w' g A1 n1 c1)=>fk y g D A1 m n1 d c1 w' (hD.below hb) h1 za (by rw [<-h1.len];omega));obtain⟨X,hX⟩:∃g',x / g=g':=⟨_,rfl⟩;obtain⟨Y,hY⟩:∃g',y / g=g':=⟨_,rfl⟩;obtain⟨bb,a⟩:∃g':Bool,decide (g≠0)=g':=⟨_,rfl⟩;rw [hX,a] at z;rw [hY,a] at B;rw [hX,hY];clear hA hD hT hg lg hX hY a;go_enter func94,ntmps94;go_wp2_with fail;obtain⟨b1,b2,b3,b4,b5⟩:=yd w 56 56 56 #[.slice A n c] #[.slice D m d] #[.slice none 0 0];obtain⟨W3,u⟩:∃W,((w.alloc (.cells #[.slice A n c] 56)).alloc (.cells #[.slice D m d] 56)).alloc (.cells #[.slice none 0 0] 56)=W:=⟨_,rfl⟩;rw [u] at b1 b2 b3 b4 b5⊢;have C:W3.heap.size=w.heap.size+1+1+1:=by rw [<-u];simp
 have kA:=b2.one.alloc (.cells #[.slice none 0 0] 56);have kD:=b3.one.alloc (.cells #[.slice none 0 0] 56);have kx:=b4.one.alloc (.cells #[.slice none 0 0] 56);have ky:=yi.new W3 56 (.slice none 0 0);rw [C] at ky;have hB:=b1.alloc b1.size (.cells #[.slice none 0 0] 56);clear b1 b2 b3 b4 b5 u C;generalize W3.alloc (.cells #[.slice none 0 0] 56)=W4 at*;obtain⟨p,hp⟩:∃p,w.heap.size=p:=⟨_,rfl⟩;have hpw:w.heap.size<=p:=za;refine(HO.o _ hB).mono ?_;rw [hp] at kA kD kx ky⊢;clear hp;rintro e w1 ⟨A1,n1,c1,rfl,h,hb⟩;obtain⟨d1,d2,d3⟩:=zF w1 56 #[.slice A1 n1 c1];have a:=ze hb d1;have kA:=kA.keep a;have kD:=kD.keep a;have kx:=kx.keep a;have ky:=ky.keep a;have hB:=ze hB a;have h:=h.below d1;have kg:=d2.one;clear d1 d2 d3 hb a;have e1:=kA.cell;have e2:=kg.cell;go_wp2_with fail;generalize H:w1.alloc (.cells #[.slice A1 n1 c1] 56)=W5 at*;generalize w1.heap.size=z1 at*;clear H;refine(z.o _ hB A1 n1 c1 h).mono ?_;clear e1 e2;rintro e w2 ⟨A2,n2,c2,rfl,i,hb⟩;have hz2:=(ky.keep hb).lt;obtain⟨d1,d2,d3⟩:=zF w2 56 #[.slice A2 n2 c2];have a:=ze hb d1;have kD:=kD.keep a;have kx:=kx.keep a;have ky:=ky.keep a;have kg:=kg.keep a;have hB:=ze hB a;have h:=h.below a;have i:=i.below d1;have k7:=d2.one;clear d1 d2 d3 hb a kA;have e1:=kD.cell;have e2:=kg.cell;go_wp2_with fail;generalize I:w2.alloc (.cells #[.slice A2 n2 c2] 56)=W6 at*;generalize w2.heap.size=z2 at*;clear I;refine(B.o _ hB A1 n1 c1 h).mono ?_;clear e1 e2;rintro e w3 ⟨A3,n3,c3,rfl,t,hb⟩;have hz3:=(ky.keep hb).lt;obtain⟨d1,d2,d3⟩:=zF w3 56 #[.slice A3 n3 c3];have a:=ze hb d1;have kx:=kx.keep a;have ky:=ky.keep a;have k7:=k7.keep a;have hB:=ze hB a;have i:=i.below a;have t:=t.below d1;have k9:=d2.one;clear d1 d2 d3 hb a kD kg h;go_wp2_with fail;generalize J:w3.alloc (.cells #[.slice A3 n3 c3] 56)=W7 at*;generalize w3.heap.size=z3 at*;clear J;have q7:W7.cell? ⟨z2,0,none⟩=some (.slice A2 n2 c2):=k7.cell;have q9:W7.cell? ⟨z3,0,none⟩=some (.slice A3 n3 c3):=k9.cell;have qx:W7.cell? ⟨p+1+1,0,none⟩=some (.slice none 0 0):=kx.cell;have qy:W7.cell? ⟨p+1+1+1,0,none⟩=some (.slice none 0 0):=ky.cell;have fx:W7.frozen? ⟨p+1+1,0,none⟩=false:=kx.frozen;have fy:W7.frozen? ⟨p+1+1+1,0,none⟩=false:=ky.frozen;have q9':=zS (q:=⟨p+1+1,0,none⟩) (.slice A2 n2 c2) (by show z3≠p+1+1;omega) q9;have G:=kx.set_ (.slice A2 n2 c2);have j:=ky.far (p:=⟨p+1+1,0,none⟩) (by show p+1+1+1≠p+1+1;omega) (.slice A2 n2 c2);have qy':=j.cell;have fy':=j.frozen;have E:=yF i kx (.slice A2 n2 c2);have F:=yF t kx (.slice A2 n2 c2);have rx:=(G.far (p:=⟨p+1+1+1,0,none⟩) (by show p+1+1≠p+1+1+1;omega) (.slice A3 n3 c3)).cell;have ry:=(j.set_ (.slice A3 n3 c3)).cell;have HE : zg (iu w X Y (.returned (.tuple #[.agg #[.slice A2 n2 c2],.agg #[.slice A3 n3 c3]])) ((W7.setCell ⟨p + 1 + 1,0,none⟩ (.slice A2 n2 c2)).setCell ⟨p + 1 + 1 + 1,0,none⟩ (.slice A3 n3 c3)).drew) :=
  ⟨_,_,_,_,_,_,rfl,yF E j _,yF F j _,(hB.setCell (p:=⟨p+1+1,0,none⟩) (by show w.heap.size<=p+1+1;omega) _).setCell (p:=⟨p+1+1+1,0,none⟩) (by show w.heap.size<=p+1+1+1;omega) _|>.drew⟩
 clear k7 k9 kx ky hB i t G j E F;go_region
 all_goals
  go_wp2
  refine bodyPost_ret (v:=.tuple #[.agg #[.slice A2 n2 c2],.agg #[.slice A3 n3 c3]]) (by simp [results,results94,go_sem,rx,ry]) rfl ?_
  exact HE.o
theorem Sz.of_words {w:World}{x K n c:Nat}{A:zf}(h:zo w x A n c)(hn:n<=K):Sz K x:=by
 have h1:=yy (b:=18446744073709551616) zh x;rw [h.len] at h1;exact qJ h1 (qL zh hn)
theorem lB:jo where
 of x y A D n m c d w hA hD hn hm hT:=tm x y A D n m c d w hA hD hn hm hT
 reduce x y A D n m c d w hA hD hn hm hT:=YT x y A D n m c d w hA hD hn hm hT
