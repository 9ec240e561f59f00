/- What this claim leans on. -/
import Derived.Test.YtghpdeciaaagnaaGreatDoorQBunI
namespace Go.Proofs.YtghpdeciaaagnaaGreatDoor
open Go Go.RowKit Go.Proofs.Tryz
set_option maxHeartbeats 16000000
set_option linter.unusedVariables false
theorem zpu {r:Rat}{t:Int}{d:Nat}(hd:d≠0)(hc:Nat.gcd t.natAbs d=1)(h:r=Rat.divInt t d):r.num=t/\r.den=d:=by
 have e:(⟨t,d,hd,hc⟩:Rat)=Rat.divInt t d:=Rat.mk_eq_divInt;rw [<-e] at h;subst h;exact⟨rfl,rfl⟩
theorem zjR (t:Int)(h:Nat)(hd:h ∣ t.natAbs):t=(h:Int)*zbe (decide (t<0)) (t.natAbs / h):=by
 obtain⟨k,hk⟩:=hd;by_cases h0:h=0
 ·subst h0;rw [Nat.zero_mul] at hk;have:t=0:=Int.natAbs_eq_zero.1 hk;subst this;simp
 have e:t.natAbs / h=k:=by rw [hk];exact Nat.mul_div_cancel_left _ (Nat.pos_of_ne_zero h0)
 rw [e];unfold zbe;by_cases ht:t<0
 ·rw [decide_eq_true ht,if_pos rfl,Int.mul_neg,<-Int.natCast_mul,<-hk];omega
 ·rw [decide_eq_false ht,if_neg de9,<-Int.natCast_mul,<-hk];omega
theorem sgnI_mul (s u:Bool)(x y:Nat):zbe s x*zbe u y=zbe (s !=u) (x*y):=by
 cases s<;>cases u<;>simp [zbe,Int.natCast_mul,Int.neg_mul,Int.mul_neg]
theorem zrs {p1 p2 t:Int}{q1 mA mB:Nat}(hc:Nat.gcd p1.natAbs q1=1)(hA:mA ∣ q1)(hm:Nat.gcd mA mB=1)(ht:t=p1*mB+p2*mA):Nat.gcd t.natAbs mA=1:=by
 refine Nat.dvd_one.1 ?_;have h1:Nat.gcd t.natAbs mA ∣ mA:=Nat.gcd_dvd_right _ _;have h2:Nat.gcd t.natAbs mA ∣ t.natAbs:=Nat.gcd_dvd_left _ _;generalize Nat.gcd t.natAbs mA=d at*;have h3:(d:Int)∣ p1*mB:=by
  have a:=Int.ofNat_dvd_left.2 h2;have b:(d:Int)∣ p2*mA:=Int.dvd_trans (Int.ofNat_dvd.2 h1) (Int.dvd_mul_left _ _);have c:=Int.dvd_sub a b;rw [ht,Int.add_sub_cancel] at c;exact c
 have h4:d ∣ p1.natAbs*mB:=by
  have:=Int.ofNat_dvd_left.1 h3;rwa [Int.natAbs_mul,Int.natAbs_natCast] at this
 have h5:Nat.Coprime d mB:=Nat.Coprime.coprime_dvd_left h1 hm;have h6:d ∣ p1.natAbs:=h5.dvd_of_dvd_mul_right h4;have h7:=Nat.dvd_gcd h6 (Nat.dvd_trans h1 hA);rwa [hc] at h7
theorem zqO (a b:Rat){mA mB:Nat}{t:Int}(hA:mA=a.den / Nat.gcd a.den b.den)(hB:mB=b.den / Nat.gcd a.den b.den)(ht:t=a.num*mB+b.num*mA):
  (a+b).num=zbe (decide (t<0)) (t.natAbs / Nat.gcd t.natAbs b.den)/\(a+b).den=mA*(b.den / Nat.gcd t.natAbs b.den):=by
 have g0:0<Nat.gcd a.den b.den:=Nat.gcd_pos_of_pos_left _ (Nat.pos_of_ne_zero a.den_nz);have k0:0<Nat.gcd t.natAbs b.den:=Nat.gcd_pos_of_pos_right _ (Nat.pos_of_ne_zero b.den_nz);have ea:Nat.gcd a.den b.den*mA=a.den:=by rw [hA];exact Nat.mul_div_cancel' (Nat.gcd_dvd_left _ _)
 have eb:Nat.gcd a.den b.den*mB=b.den:=by rw [hB];exact Nat.mul_div_cancel' (Nat.gcd_dvd_right _ _)
 have hm:Nat.gcd mA mB=1:=by rw [hA,hB];exact Nat.gcd_div_gcd_div_gcd_of_pos_left (Nat.pos_of_ne_zero a.den_nz)
 have hp:Nat.gcd t.natAbs mA=1:=zrs a.reduced ⟨_,(Nat.mul_comm mA _▸ea).symm⟩ hm ht;have eh:Nat.gcd t.natAbs b.den*(b.den / Nat.gcd t.natAbs b.den)=b.den:=Nat.mul_div_cancel' (Nat.gcd_dvd_right _ _);have et:=zjR t (Nat.gcd t.natAbs b.den) (Nat.gcd_dvd_left _ _);have hq:Nat.gcd (t.natAbs / Nat.gcd t.natAbs b.den) (b.den / Nat.gcd t.natAbs b.den)=1:=Nat.gcd_div_gcd_div_gcd_of_pos_right (Nat.pos_of_ne_zero b.den_nz);have c:mA≠0:=λh=>a.den_nz (by rw [<-ea,h];rfl);have r0:b.den / Nat.gcd t.natAbs b.den≠0:=λh=>b.den_nz (by rw [<-eh,h];rfl);refine zpu (Nat.mul_ne_zero c r0) ?_ ?_
 ·rw [zeo];refine Nat.Coprime.mul_right ?_ hq;exact Nat.Coprime.coprime_dvd_left (Nat.div_dvd_of_dvd (Nat.gcd_dvd_left _ _)) hp
 ·have e1:a+b=Rat.divInt (a.num*b.den+b.num*a.den) ((a.den*b.den:Nat):Int):=by rw [Rat.add_def'];rfl
  have e2:a.num*(b.den:Int)+b.num*(a.den:Int)=(Nat.gcd a.den b.den:Int)*t:=by
   rw [ht];generalize Nat.gcd a.den b.den=g at*;rw [<-eb,<-ea,Int.natCast_mul,Int.natCast_mul,Int.mul_add,Int.mul_left_comm,Int.mul_left_comm b.num]
  have e3:((a.den*b.den:Nat):Int)=(Nat.gcd a.den b.den:Int)*((mA*b.den:Nat):Int):=by
   generalize Nat.gcd a.den b.den=g at*;rw [<-ea,Nat.mul_assoc,Int.natCast_mul]
  rw [e1,e2,e3,Rat.divInt_mul_left om9];generalize Nat.gcd t.natAbs b.den=h at*;have e4:((mA*b.den:Nat):Int)=(h:Int)*((mA*(b.den / h):Nat):Int):=by
   conv=>lhs;rw [<-eh]
   rw [Nat.mul_left_comm,Int.natCast_mul]
  rw [e4]
  conv=>lhs;rw [et]
  exact Rat.divInt_mul_left om9
theorem zqQ (a b:Rat):(a*b).num=zbe (decide (a.num<0) !=decide (b.num<0)) (a.num.natAbs / Nat.gcd a.num.natAbs b.den*(b.num.natAbs / Nat.gcd b.num.natAbs a.den))/\
  (a*b).den=a.den / Nat.gcd b.num.natAbs a.den*(b.den / Nat.gcd a.num.natAbs b.den):=by
 have g0:0<Nat.gcd a.num.natAbs b.den:=Nat.gcd_pos_of_pos_right _ (Nat.pos_of_ne_zero b.den_nz);have k0:0<Nat.gcd b.num.natAbs a.den:=Nat.gcd_pos_of_pos_right _ (Nat.pos_of_ne_zero a.den_nz);have ea:Nat.gcd b.num.natAbs a.den*(a.den / Nat.gcd b.num.natAbs a.den)=a.den:=Nat.mul_div_cancel' (Nat.gcd_dvd_right _ _);have eb:Nat.gcd a.num.natAbs b.den*(b.den / Nat.gcd a.num.natAbs b.den)=b.den:=Nat.mul_div_cancel' (Nat.gcd_dvd_right _ _);have ta:=zjR a.num _ (Nat.gcd_dvd_left a.num.natAbs b.den);have tb:=zjR b.num _ (Nat.gcd_dvd_left b.num.natAbs a.den);have c1:Nat.Coprime (a.num.natAbs / Nat.gcd a.num.natAbs b.den) (b.den / Nat.gcd a.num.natAbs b.den):=Nat.gcd_div_gcd_div_gcd_of_pos_right (Nat.pos_of_ne_zero b.den_nz);have c2:Nat.Coprime (b.num.natAbs / Nat.gcd b.num.natAbs a.den) (a.den / Nat.gcd b.num.natAbs a.den):=Nat.gcd_div_gcd_div_gcd_of_pos_right (Nat.pos_of_ne_zero a.den_nz);have c3 : Nat.Coprime (a.num.natAbs / Nat.gcd a.num.natAbs b.den) (a.den / Nat.gcd b.num.natAbs a.den) :=
  Nat.Coprime.coprime_dvd_left (Nat.div_dvd_of_dvd (Nat.gcd_dvd_left _ _)) (Nat.Coprime.coprime_dvd_right (Nat.div_dvd_of_dvd (Nat.gcd_dvd_right _ _)) a.reduced)
 have c4 : Nat.Coprime (b.num.natAbs / Nat.gcd b.num.natAbs a.den) (b.den / Nat.gcd a.num.natAbs b.den) :=
  Nat.Coprime.coprime_dvd_left (Nat.div_dvd_of_dvd (Nat.gcd_dvd_left _ _)) (Nat.Coprime.coprime_dvd_right (Nat.div_dvd_of_dvd (Nat.gcd_dvd_right _ _)) b.reduced)
 refine zpu (λh=>?_) ?_ ?_
 ·rcases Nat.mul_eq_zero.1 h with h|h
  ·rw [h] at ea;exact a.den_nz ea.symm
  ·rw [h] at eb;exact b.den_nz eb.symm
 ·rw [zeo];exact Nat.Coprime.mul_right (Nat.Coprime.mul_left c3 c2) (Nat.Coprime.mul_left c1 c4)
 ·have e1:a*b=Rat.divInt (a.num*b.num) ((a.den*b.den:Nat):Int):=by rw [Rat.mul_def'];rfl
  rw [e1,<-sgnI_mul];generalize a.num.natAbs / Nat.gcd a.num.natAbs b.den=x1 at*;generalize b.num.natAbs / Nat.gcd b.num.natAbs a.den=x2 at*;generalize b.den / Nat.gcd a.num.natAbs b.den=y2 at*;generalize a.den / Nat.gcd b.num.natAbs a.den=y1 at*;generalize Nat.gcd a.num.natAbs b.den=g at*;generalize Nat.gcd b.num.natAbs a.den=k at*;generalize zbe (decide (a.num<0)) x1=u1 at*;generalize zbe (decide (b.num<0)) x2=u2 at*;have e2:a.num*b.num=((g*k:Nat):Int)*(u1*u2):=by
   rw [ta,tb,Int.natCast_mul];simp only [Int.mul_assoc,Int.mul_left_comm]
  have e3:((a.den*b.den:Nat):Int)=((g*k:Nat):Int)*((y1*y2:Nat):Int):=by
   rw [<-ea,<-eb,<-Int.natCast_mul];congr 1;simp only [Nat.mul_left_comm,Nat.mul_comm]
  rw [e2,e3];exact Rat.divInt_mul_left (by have:=Nat.mul_pos g0 k0;omega)
theorem zqP (a:Rat)(h:a≠0):(a⁻¹).num=zbe (decide (a.num<0)) a.den/\(a⁻¹).den=a.num.natAbs:=by
 have hn:a.num≠0:=λe=>h (Rat.num_eq_zero.1 e);constructor
 ·rw [Rat.num_inv];unfold zbe;rcases Int.lt_or_gt_of_ne hn with h1|h1
  ·rw [Int.sign_eq_neg_one_of_neg h1,decide_eq_true h1,if_pos rfl];omega
  ·rw [Int.sign_eq_one_of_pos h1,decide_eq_false om9,if_neg de9];omega
 ·rw [Rat.den_inv,if_neg hn]
theorem zqR (a:Rat):(-a).num=zbe (!decide (a.num<0)) a.num.natAbs/\(-a).den=a.den:=by
 refine⟨?_,rfl⟩;rw [Rat.neg_num];unfold zbe;by_cases h:a.num<0
 ·simp [h];omega
 ·simp [h];omega
theorem zry {a b:Rat}(ha:a.den=1)(hb:b.den=1):(a+b)=((a.num+b.num:Int):Rat):=by
 have h1:a=((a.num:Int):Rat):=Rat.ext (by rw [Rat.num_intCast]) (by rw [Rat.den_intCast,ha]);have h2:b=((b.num:Int):Rat):=Rat.ext (by rw [Rat.num_intCast]) (by rw [Rat.den_intCast,hb]);rw [Rat.intCast_add,<-h1,<-h2]
theorem zie {a b:Rat}(h:a=0\/b=0\/a.den=1/\b.den=1):(a*b)=((a.num*b.num:Int):Rat):=by
 rcases h with h|h|⟨ha,hb⟩
 ·subst h;rw [Rat.zero_mul,show(0:Rat).num=0 from rfl,Int.zero_mul];rfl
 ·subst h;rw [Rat.mul_zero,show(0:Rat).num=0 from rfl,Int.mul_zero];rfl
 ·have h1:a=((a.num:Int):Rat):=Rat.ext (by rw [Rat.num_intCast]) (by rw [Rat.den_intCast,ha]);have h2:b=((b.num:Int):Rat):=Rat.ext (by rw [Rat.num_intCast]) (by rw [Rat.den_intCast,hb]);rw [Rat.intCast_mul,<-h1,<-h2]
set_option maxRecDepth 100000
theorem zhw (x y:Nat)(A D:oA9)(n m c d:Nat)(w:World)(hA:zad w x A n c)(hD:zad w y D m d)(hn:n<=274877906944)(hm:m<=274877906944):
  Calls prog 160 #[.agg #[.slice A n c],.agg #[.slice D m d]] w (zfd w (x / y) (decide (y≠0))):=by
 by_cases hy:y=0
 ·have e:x / y=0:=by rw [hy,Nat.div_zero]
  have e2:decide (y≠0)=false:=by simp [hy]
  rw [e,e2];exact zfY 0 0 false A D n m c d w (λw' hb=>zfZ x y A D n m c d w' (hA.below hb) (hD.below hb) hy)
 ·have e2:decide (y≠0)=true:=by simp [hy]
  rw [e2];exact zfY (x / y) (x%y) true A D n m c d w (λw' hb=>zeA x y A D n m c d w' (hA.below hb) (hD.below hb) om9 om9 hy)
theorem zoi (x y:Nat)(A D:oA9)(n m c d:Nat)(w:World)(hA:zad w x A n c)(hD:zad w y D m d)(hn:n<=1073741824)(hm:m<=1073741824)(hT:zai w):
  Calls prog 103 #[.agg #[.slice A n c],.agg #[.slice D m d]] w (zli w (x / Nat.gcd x y) (y / Nat.gcd x y)):=by
 have HO:=up9 w (λw' hb=>gcd_of x y A D n m c d w' (hA.below hb) (hD.below hb) hn hm (hT.on hb));obtain⟨g,hg⟩:∃g,Nat.gcd x y=g:=⟨_,rfl⟩;have lg:(dg 18446744073709551616 g).length<=2147483648:=by
  rw [<-hg];rcases Nat.eq_zero_or_pos x with e|e
  ·rw [e,Nat.gcd_zero_left,hD.len];omega
  ·exact Nat.le_trans (zbY de9 (Nat.gcd_le_left y e)) (by rw [hA.len];omega)
 rw [hg] at HO⊢;have k:=up9 w (λw' hb A1 n1 c1 (h1:zad w' g A1 n1 c1)=>zhw x g A A1 n n1 c c1 w' (hA.below hb) h1 om9 (by rw [<-h1.len];omega));have l:=up9 w (λw' hb A1 n1 c1 (h1:zad w' g A1 n1 c1)=>zhw y g D A1 m n1 d c1 w' (hD.below hb) h1 om9 (by rw [<-h1.len];omega));obtain⟨X,hX⟩:∃g',x / g=g':=⟨_,rfl⟩;obtain⟨Y,hY⟩:∃g',y / g=g':=⟨_,rfl⟩;obtain⟨bb,a⟩:∃g':Bool,decide (g≠0)=g':=⟨_,rfl⟩;rw [hX,a] at k;rw [hY,a] at l;rw [hX,hY];clear hA hD hT hg lg hX hY a;go_enter func103,ntmps103;go_wp2_with fail;obtain⟨b1,b2,b3,b4,b5⟩:=zbT w 37 37 37 #[.slice A n c] #[.slice D m d] #[.slice none 0 0];obtain⟨W3,j⟩:∃W,((w.alloc (.cells #[.slice A n c] 37)).alloc (.cells #[.slice D m d] 37)).alloc (.cells #[.slice none 0 0] 37)=W:=⟨_,rfl⟩;rw [j] at b1 b2 b3 b4 b5⊢;have o:W3.heap.size=w.heap.size+1+1+1:=by rw [<-j];simp
 have kA:=b2.one.alloc (.cells #[.slice none 0 0] 37);have kD:=b3.one.alloc (.cells #[.slice none 0 0] 37);have kx:=b4.one.alloc (.cells #[.slice none 0 0] 37);have ky:=zcl.new W3 37 (.slice none 0 0);rw [o] at ky;have hB:=b1.alloc b1.size (.cells #[.slice none 0 0] 37);clear b1 b2 b3 b4 b5 j o;generalize W3.alloc (.cells #[.slice none 0 0] 37)=W4 at*;obtain⟨p,hp⟩:∃p,w.heap.size=p:=⟨_,rfl⟩;have hpw:w.heap.size<=p:=om9;refine(HO.out _ hB).mono ?_;rw [hp] at kA kD kx ky⊢;clear hp;rintro e w1 ⟨A1,n1,c1,rfl,b,hb⟩;obtain⟨d1,d2,d3⟩:=zax w1 37 #[.slice A1 n1 c1];have a:=zaa hb d1;have kA:=kA.keep a;have kD:=kD.keep a;have kx:=kx.keep a;have ky:=ky.keep a;have hB:=zaa hB a;have b:=b.below d1;have kg:=d2.one;clear d1 d2 d3 hb a;have e1:=kA.cell;have e2:=kg.cell;go_wp2_with fail;generalize u:w1.alloc (.cells #[.slice A1 n1 c1] 37)=W5 at*;generalize w1.heap.size=z1 at*;clear u;refine(k.out _ hB A1 n1 c1 b).mono ?_;clear e1 e2;rintro e w2 ⟨A2,n2,c2,rfl,f,hb⟩;have hz2:=(ky.keep hb).lt;obtain⟨d1,d2,d3⟩:=zax w2 37 #[.slice A2 n2 c2];have a:=zaa hb d1;have kD:=kD.keep a;have kx:=kx.keep a;have ky:=ky.keep a;have kg:=kg.keep a;have hB:=zaa hB a;have b:=b.below a;have f:=f.below d1;have k7:=d2.one;clear d1 d2 d3 hb a kA;have e1:=kD.cell;have e2:=kg.cell;go_wp2_with fail;generalize z:w2.alloc (.cells #[.slice A2 n2 c2] 37)=W6 at*;generalize w2.heap.size=z2 at*;clear z;refine(l.out _ hB A1 n1 c1 b).mono ?_;clear e1 e2;rintro e w3 ⟨A3,n3,c3,rfl,i,hb⟩;have hz3:=(ky.keep hb).lt;obtain⟨d1,d2,d3⟩:=zax w3 37 #[.slice A3 n3 c3];have a:=zaa hb d1;have kx:=kx.keep a;have ky:=ky.keep a;have k7:=k7.keep a;have hB:=zaa hB a;have f:=f.below a;have i:=i.below d1;have k9:=d2.one;clear d1 d2 d3 hb a kD kg b;go_wp2_with fail;generalize B:w3.alloc (.cells #[.slice A3 n3 c3] 37)=W7 at*;generalize w3.heap.size=z3 at*;clear B;have q7:W7.cell? ⟨z2,0,none⟩=some (.slice A2 n2 c2):=k7.cell;have q9:W7.cell? ⟨z3,0,none⟩=some (.slice A3 n3 c3):=k9.cell;have qx:W7.cell? ⟨p+1+1,0,none⟩=some (.slice none 0 0):=kx.cell;have qy:W7.cell? ⟨p+1+1+1,0,none⟩=some (.slice none 0 0):=ky.cell;have fx:W7.frozen? ⟨p+1+1,0,none⟩=false:=kx.frozen;have fy:W7.frozen? ⟨p+1+1+1,0,none⟩=false:=ky.frozen;have q9':=zag (q:=⟨p+1+1,0,none⟩) (.slice A2 n2 c2) (by show z3≠p+1+1;omega) q9;have t:=kx.set_ (.slice A2 n2 c2);have h:=ky.far (p:=⟨p+1+1,0,none⟩) (by show p+1+1+1≠p+1+1;omega) (.slice A2 n2 c2);have qy':=h.cell;have fy':=h.frozen;have r:=zap f kx (.slice A2 n2 c2);have s:=zap i kx (.slice A2 n2 c2);have rx:=(t.far (p:=⟨p+1+1+1,0,none⟩) (by show p+1+1≠p+1+1+1;omega) (.slice A3 n3 c3)).cell;have ry:=(h.set_ (.slice A3 n3 c3)).cell;have HE : Hid (zli w X Y (.returned (.tuple #[.agg #[.slice A2 n2 c2],.agg #[.slice A3 n3 c3]])) ((W7.setCell ⟨p + 1 + 1,0,none⟩ (.slice A2 n2 c2)).setCell ⟨p + 1 + 1 + 1,0,none⟩ (.slice A3 n3 c3)).drew) :=
  ⟨_,_,_,_,_,_,rfl,zap r h _,zap s h _,(hB.setCell (p:=⟨p+1+1,0,none⟩) (by show w.heap.size<=p+1+1;omega) _).setCell (p:=⟨p+1+1+1,0,none⟩) (by show w.heap.size<=p+1+1+1;omega) _|>.drew⟩
 clear k7 k9 kx ky hB f i t h r s;go_region
 all_goals
  go_wp2
  refine bodyPost_ret (v:=.tuple #[.agg #[.slice A2 n2 c2],.agg #[.slice A3 n3 c3]]) (by simp [results,results103,go_sem,rx,ry]) rfl ?_
  exact HE.out
set_option linter.unusedSimpArgs false
theorem Sz.of_words {w:World}{x K n c:Nat}{A:oA9}(h:zad w x A n c)(hn:n<=K):Sz K x:=by
 have h1:=zbP (b:=18446744073709551616) de9 x;rw [h.len] at h1;exact Nat.lt_of_lt_of_le h1 (Nat.pow_le_pow_right de9 hn)
theorem zch:GcdC where
 of x y A D n m c d w hA hD hn hm hT:=gcd_of x y A D n m c d w hA hD hn hm hT
 reduce x y A D n m c d w hA hD hn hm hT:=zoi x y A D n m c d w hA hD hn hm hT
theorem zad.to8 {w:World}{x y:Nat}{A:oA9}{n c:Nat}(e:x=y)(h:zad w x A n c):zad w y A n c:=e▸h
theorem zaN.to8 {w:World}{x y:Int}{b:Bool}{A:oA9}{n c:Nat}(e:x=y)(h:zaN w x b A n c):zaN w y b A n c:=e▸h
theorem zlf (x:Nat)(A:oA9)(n c:Nat)(w:World)(h:zad w x A n c)(hn:n<=1099511627776):
  Calls prog 146 #[.agg #[.slice A n c]] w λe w'=>∃(B:oA9) (m d:Nat),e=.returned (.slice B m d)/\zad w' x B m d/\Below w.heap.size w w':=by
 refine(zds x A n c w h hn).mono ?_;rintro e w' ⟨B,d,rfl,h1,h2,h3,h4⟩;exact⟨B,_,d,rfl,⟨h1,h2,h3.1⟩,h4⟩
theorem of_row (x:Nat)(A:oA9)(n c:Nat)(w:World)(h:zad w x A n c)(hn:n<=1099511627776):
  Calls prog 149 #[.slice A n c] w λe w'=>∃(B:oA9) (m d:Nat),e=.returned (.agg #[.slice B m d])/\zad w' x B m d/\Below w.heap.size w w':=by
 have k:=zcZ A n c _ w h.1 (zcY de9 x) h.2.1 h.2.2 hn;rw [zdF de9] at k;refine k.mono ?_;rintro e w' ⟨B,m,d,rfl,h1,h2,_⟩;exact⟨B,m,d,rfl,h1,h2⟩
theorem zpW {P:Program}{f:FuncId}{args:Array Value}{w:World}{z v:Int}(e:z=v)(h:Calls P f args w λe w'=>e=.returned (.tuple #[.int .u64 z,.bool true])/\Below w.heap.size w w'):Calls P f args w λe w'=>e=.returned (.tuple #[.int .u64 v,.bool true])/\Below w.heap.size w w':=by
 subst e;exact h
theorem zmm (x:Nat)(A:oA9)(n c:Nat)(w:World)(hA:zad w x A n c)(hn:n<=1099511627776):Calls prog 151 #[.agg #[.slice A n c]] w (zcL w ((bitLen x:Nat):Int)):=zjA x A n c w hA hn
theorem zhD {K K':Nat}{z:Int}{k:Nat}(h:Sz K z.natAbs)(h':Sz K' k):Sz (K+K') (z*((k:Nat):Int)).natAbs:=by
 rw [Int.natAbs_mul,Int.natAbs_natCast];exact h.mul h'
theorem zas {K q x:Nat}(h:Sz K q)(e:q=(if x=0 then 1 else x)/\x≠1):Sz K x:=h.of_le (by rw [e.1];split<;>omega)
theorem zaQ {w:World}{r:Rat}{b:Bool}{A:oA9}{n c:Nat}{E:oA9}{k f K:Nat}(h:zaf w r b A n c E k f)(q:zaU n k)(hK:67108864=K):SzQ K r:=by
 obtain⟨x,e,hx⟩:=h.2;have h1:Sz K r.num.natAbs:=Sz.of_words h.1.2 (by have:=q.1;omega);have h2:Sz K x:=Sz.of_words hx (by have:=q.2;omega);refine⟨h1,?_⟩;rw [e.1]
 split
 ·exact zfp om9
 ·exact h2
theorem zfw (w:World):zad w 0 none 0 0:=by
 refine⟨⟨by rw [show dg 18446744073709551616 0=[] from by rw [dg];rfl];rfl,λh=>absurd h de9⟩,Nat.le_refl _,de9⟩
theorem zgb (w:World):zaf w (0:Rat) false none 0 0 none 0 0:=⟨⟨rfl,zfw w⟩,⟨0,⟨rfl,de9⟩,zfw w⟩⟩
theorem zfb {w:World}{z:Int}{b:Bool}{A:oA9}{n c:Nat}(h:zaN w z b A n c):zaf w (z:Rat) b A n c none 0 0:=⟨by rw [Rat.num_intCast];exact h,⟨0,⟨by rw [Rat.den_intCast];rfl,de9⟩,zfw w⟩⟩
theorem zrd {w:World}{r:Rat}{z:Int}{b:Bool}{A:oA9}{n c:Nat}{E:oA9}{k f:Nat}(hn:r.num=z)(hd:r.den=1)(h:zaN w z b A n c)(q:zad w 0 E k f):zaf w r b A n c E k f:=
 ⟨by rw [hn];exact h,⟨0,⟨by rw [hd];rfl,de9⟩,q⟩⟩
theorem zjM {w:World}{r:Rat}{z:Int}{y:Nat}{b:Bool}{A:oA9}{n c:Nat}{E:oA9}{k f:Nat}(hn:r.num=z)(hd:r.den=y)(hy:y≠1)(h:zaN w z b A n c)(q:zad w y E k f):zaf w r b A n c E k f:=
 ⟨by rw [hn];exact h,⟨y,⟨by rw [if_neg (λh0=>r.den_nz (by rw [hd,h0]))];exact hd,hy⟩,q⟩⟩
theorem zgW {q x:Nat}(e:q=(if x=0 then 1 else x)/\x≠1)(h:q=1):x=0:=by
 refine Decidable.byContradiction λh0=>?_;rw [if_neg h0] at e;omega
theorem zeB {q x:Nat}(e:q=(if x=0 then 1 else x)/\x≠1)(h:q≠1):x≠0/\x=q:=by
 have h0:x≠0:=λh0=>h (by rw [e.1,if_pos h0]);refine⟨h0,?_⟩;have:=e.1;rw [if_neg h0] at this;exact this.symm
theorem zri (z:Int):zbe (decide (z<0)) z.natAbs=z:=by
 unfold zbe;by_cases h:z<0
 ·rw [decide_eq_true h,if_pos rfl];omega
 ·rw [decide_eq_false h,if_neg de9];omega
theorem zqE {w:World}{x:Nat}{A:oA9}{n c:Nat}(h:zad w x A n c)(hn:n<=1):x<18446744073709551616:=zjC h.len hn
theorem len_one {w:World}{x:Nat}{A:oA9}{n c:Nat}(h:zad w x A n c)(hx:x=1):n<=1:=by
 have h1:Sz 1 x:=by rw [hx];exact zfp de9
 exact h1.words h
theorem zoL (p d:Int)(hd:d≠0):(Rat.divInt p d).num=zbe (decide (p<0) !=decide (d<0)) (p.natAbs / Nat.gcd p.natAbs d.natAbs)/\(Rat.divInt p d).den=d.natAbs / Nat.gcd p.natAbs d.natAbs:=by
 refine⟨?_,made_den p d hd⟩;have h1:=made_num p d hd;have h2:=zqI p d hd;rw [<-h1];generalize (Rat.divInt p d).num=z at*;unfold zbe;by_cases hp:p<0
 ·by_cases hq:d<0
  ·rw [decide_eq_true hp,decide_eq_true hq];simp;omega
  ·rw [decide_eq_true hp,decide_eq_false hq];simp;omega
 ·by_cases hq:d<0
  ·rw [decide_eq_false hp,decide_eq_true hq];simp;by_cases h0:p=0
   ·subst h0;simp at h1;omega
   ·omega
  ·rw [decide_eq_false hp,decide_eq_false hq];simp;omega
theorem zpv {T:World->Prop}{M:Nat->Prop}(F:∀w w',T w->Below w.heap.size w w'->T w')(IC:IntC T)(QC:RatC T M)(p q:Int)(r:Rat)(K:Nat)(bx:Bool)(Bx:oA9)(mx dx:Nat)(Ex:oA9)(ux vx:Nat)(w:World)(hK:K<=16777216)(hz:SzQ K r)(h:zaf w r bx Bx mx dx Ex ux vx)(hT:T w)(s: -9223372036854775808<=p)(t:p<=9223372036854775807)(u: -9223372036854775808<=q)(v:q<=9223372036854775807)(G:q≠0)(he:r=Rat.divInt p q):
  Calls prog 51 #[.agg #[.bool bx,.slice Bx mx dx,.slice Ex ux vx],.int .i64 p,.int .i64 q] w λe w'=>e=.returned (.bool true)/\Below w.heap.size w w':=by
 have A:=lh9 IC;have k:=lh9 QC;have HT:=up9 w (λw' hb=>F w w' hT hb);have HE:=lh9 he;have m:=lh9 hz;have d:=lh9 h;clear IC QC hT he hz h;go_enter func51,ntmps51;have hB:=Below.refl w.heap.size w;obtain⟨f,n,bz⟩:=zax w 41 #[.bool bx,.slice Bx mx dx,.slice Ex ux vx];have hB:=zaa hB f;have d:=lh9 (d.out.below f);obtain⟨g1,e1,i1⟩:=n.c3;clear f n bz;go_wp2_with fail;generalize w.alloc (.cells #[.bool bx,.slice Bx mx dx,.slice Ex ux vx] 41)=W1 at*;have l:Hid (SzQ (1) (Rat.divInt p q)):=SzQ.made (K:=1) (by show Int.natAbs p<18446744073709551616^1;have e1: -9223372036854775808<=p:=s;have e2:p<=9223372036854775807:=t;omega) (by show Int.natAbs q<18446744073709551616^1;have e1: -9223372036854775808<=q:=u;have e2:q<=9223372036854775807:=v;omega) de9;(with_reducible refine(k.out.of p q _ (HT.out _ hB) s t u v G).mono ?_);rintro e o ⟨b2,B2,m2,d2,E2,u2,v2,rfl,z,hb⟩;have hB:=zaa hB hb;have d:=lh9 (d.out.below hb);obtain⟨g1,e1,i1⟩:=zac3 hb g1 e1 i1;have i:=lh9 z;clear hb z;obtain⟨f,n,bz⟩:=zax o 41 #[.bool b2,.slice B2 m2 d2,.slice E2 u2 v2];have hB:=zaa hB f;have d:=lh9 (d.out.below f);obtain⟨g1,e1,i1⟩:=zac3 f g1 e1 i1;have i:=lh9 (i.out.below f);obtain⟨g3,e3,i3⟩:=n.c3;clear f n bz;go_wp2_with fail;generalize o.alloc (.cells #[.bool b2,.slice B2 m2 d2,.slice E2 u2 v2] 41)=W3 at*;generalize o.heap.size=q3 at*;have C0:=up9 W3 (λw' h=>zaB (decide_eq_true HE.out) (k.out.same (r) (Rat.divInt p q) bx b2 Bx B2 mx m2 dx d2 Ex E2 ux u2 vx v2 w' (HT.out _ (zaa hB h)) (d.out.below h) (i.out.below h) (szq m d.out) (szq l i.out)));have B:Hid (Sz (K) (r.num).natAbs):=SzQ.num m.out;have C1:=up9 W3 (λw' h=>k.out.num (r) bx Bx mx dx Ex ux vx w' (HT.out _ (zaa hB h)) (d.out.below h) (szq m d.out));have C:Hid (Sz (1) ((Rat.divInt p q).num).natAbs):=SzQ.num l.out;have C2:=up9 W3 (λw' h=>k.out.num (Rat.divInt p q) b2 B2 m2 d2 E2 u2 v2 w' (HT.out _ (zaa hB h)) (i.out.below h) (szq l i.out));have C3:=up9 W3 (λw' h b4 B4 m4 d4 (b:zaN w' (r.num) b4 B4 m4 d4) b5 B5 m5 d5 (c:zaN w' ((Rat.divInt p q).num) b5 B5 m5 d5)=>icmp_eq (by rw [HE.out]) (A.out.cmp (r.num) ((Rat.divInt p q).num) b4 b5 B4 B5 m4 m5 d4 d5 w' (HT.out _ (zaa hB h)) b c (by have:=Sz.words B.out b.words;omega) (by have:=Sz.words C.out c.words;omega)));have D:Hid (Sz (K) (r.den)):=SzQ.den m.out;have C4:=up9 W3 (λw' h=>k.out.den (r) bx Bx mx dx Ex ux vx w' (HT.out _ (zaa hB h)) (d.out.below h) (szq m d.out));have E:Hid (Sz (1) ((Rat.divInt p q).den)):=SzQ.den l.out;have C5:=up9 W3 (λw' h=>k.out.den (Rat.divInt p q) b2 B2 m2 d2 E2 u2 v2 w' (HT.out _ (zaa hB h)) (i.out.below h) (szq l i.out));have C6:=up9 W3 (λw' h B6 m6 d6 (g:zad w' (r.den) B6 m6 d6) B7 m7 d7 (j:zad w' ((Rat.divInt p q).den) B7 m7 d7)=>cmpEq (x:=r.den) (y:=(Rat.divInt p q).den) (by rw [HE.out]) g j (szw D g) (szw E j));have a:=(Below.refl W3.heap.size W3).drew;refine rg (csc g1 (csc e1 (csc i1 (csc g3 (csc e3 (csc i3 csn)))))) (λhHeld=>?_);refine tk 0 ?_;refine tk 1 ?_;refine tk 2 ?_;refine tk 3 ?_;refine rc 4 (λK hK=>?_);go_simp;go_at_call 37;(with_reducible refine(C0.out _ a).mono ?_);rintro e wa4 ⟨rfl,hb⟩;have a:=zaa a hb;refine hK.out _ _ (Cs.below hHeld hb) (λhHeld=>?_);clear hK K hb
 try simp only [sb9]
 refine tk 5 ?_;refine tk 6 ?_;refine tk 7 ?_;refine tk 9 ?_;refine rc 8 (λK hK=>?_);go_simp;go_at_call 76;(with_reducible refine(C1.out _ a).mono ?_);rintro e wa5 ⟨b4,B4,m4,d4,rfl,b,hb⟩;have a:=zaa a hb;refine hK.out _ _ (Cs.below hHeld hb) (λhHeld=>?_);clear hK K hb
 try simp only [sb9]
 refine rc 10 (λK hK=>?_);go_simp;go_at_call 76;(with_reducible refine(C2.out _ a).mono ?_);rintro e wa6 ⟨b5,B5,m5,d5,rfl,c,hb⟩;have a:=zaa a hb;have b:=b.below hb;refine hK.out _ _ (Cs.below hHeld hb) (λhHeld=>?_);clear hK K hb
 try simp only [sb9]
 refine rc 11 (λK hK=>?_);go_simp;go_at_call 100;(with_reducible refine(C3.out _ a _ _ _ _ b _ _ _ _ c).mono ?_);rintro e wa7 ⟨rfl,hb⟩;have a:=zaa a hb;have b:=b.below hb;have c:=c.below hb;refine hK.out _ _ (Cs.below hHeld hb) (λhHeld=>?_);clear hK K hb
 try simp only [sb9]
 refine tk 12 ?_;refine tk 13 ?_;refine tk 14 ?_;refine tk 15 ?_;refine tk 17 ?_;refine rc 16 (λK hK=>?_);go_simp;go_at_call 78;(with_reducible refine(C4.out _ a).mono ?_);rintro e wa8 ⟨B6,m6,d6,rfl,g,hb⟩;have a:=zaa a hb;have b:=b.below hb;have c:=c.below hb;refine hK.out _ _ (Cs.below hHeld hb) (λhHeld=>?_);clear hK K hb
 try simp only [sb9]
 refine rc 18 (λK hK=>?_);go_simp;go_at_call 78;(with_reducible refine(C5.out _ a).mono ?_);rintro e wa9 ⟨B7,m7,d7,rfl,j,hb⟩;have a:=zaa a hb;have b:=b.below hb;have c:=c.below hb;have g:=g.below hb;refine hK.out _ _ (Cs.below hHeld hb) (λhHeld=>?_);clear hK K hb
 try simp only [sb9]
 refine rc 19 (λK hK=>?_);go_simp;go_at_call 101;(with_reducible refine(C6.out _ a _ _ _ g _ _ _ j).mono ?_);rintro e wa10 ⟨rfl,hb⟩;have a:=zaa a hb;have b:=b.below hb;have c:=c.below hb;have g:=g.below hb;have j:=j.below hb;refine hK.out _ _ (Cs.below hHeld hb) (λhHeld=>?_);clear hK K hb
 try simp only [sb9]
 refine tk 20 ?_;refine tk 21 ?_;refine tk 22 ?_;refine rdn ?_;have hB:=zaa hB a;obtain⟨g1,e1,i1,g3,e3,i3⟩:=zac6 a g1 e1 i1 g3 e3 i3;clear a hHeld b c g j C0 C1 C2 C3 C4 C5 C6;go_wp2;go_ret;exact⟨by first|rfl|simp,hB⟩
