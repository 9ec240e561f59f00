/- What this claim leans on. -/
import Derived.Test.YtipmllfnpldbdaaGreatDoorYBun7
set_option linter.unusedVariables false
set_option linter.unusedSimpArgs false
namespace Go.Proofs.YtipmllfnpldbdaaGreatDoor
open Go Go.RowKit Go.Proofs.Tryz
set_option maxHeartbeats 16000000
set_option maxRecDepth 100000
variable {m t x:Nat}{a b:Rat}
theorem lO (x:Nat)(A:zf)(n c:Nat)(w:World)(hA:zp w x A n c)(hn:n<=1):
  Calls prog 117 #[.agg #[.slice A n c]] w λe w'=>e=.returned (.tuple #[.int .u64 (wd x 0:Nat),.bool true])/\Below w.heap.size w w':=by
 have WX:=(λw' (h:Below w.heap.size w w')=>oH x A n c 0 w' (hA.below h));obtain⟨a,ha⟩:∃a,wd x 0=a:=⟨_,rfl⟩;rw [ha] at WX⊢;have d:=zd WX;have h1:decide ((1:Int)<(n:Int))=false:=by simp;omega
 have h2:decide ((n:Int)>1)=false:=by simp;omega
 have h3:¬ 1<n:=za;clear WX ha hA;go_enter func117,ntmps117;go_wp2_with fail;obtain⟨b1,b2,b5⟩:=zG w 56 #[.slice A n c];refine(d.o _ b1).mono ?_;rintro e w1 ⟨rfl,hb⟩;have hB:=ze b1 hb;clear hb b1 b2 b5;go_wp2
 go_ret2
 exact⟨rfl,hB⟩
theorem lM (A:zf)(n c:Nat)(w:World)(hn:1<n):
  Calls prog 117 #[.agg #[.slice A n c]] w λe w'=>e=.returned (.tuple #[.int .u64 0,.bool false])/\Below w.heap.size w w':=by
 go_enter func117,ntmps117;go_wp2
 go_ret2
 exact⟨rfl,(qY _ w).alloc (qX _) _⟩
def TW (x t:Nat):Prop:=(x=0/\t=0)\/∃m,x=2^t*(2*m+1)
def yy (x:Nat):Nat:=if x=0 then 0 else Lib.ctzFrom x x
theorem jw (h:x=2^t*(2*m+1)):x / 2^t%2=1:=by
 rw [h,xE _ (xZ t)];omega
theorem sP {j:Nat}(h:x=2^t*(2*m+1))(hj:j<t):x / 2^j%2=0:=by
 obtain⟨s,rfl⟩:∃s,t=j+(s+1):=⟨t - j - 1,za⟩;rw [h,xU,qU,xE _ (xZ j),qN,qE (2^s) 2,qU];exact Nat.mul_mod_right _ _
theorem sQ (h:x=2^t*(2*m+1)):x≠0:=by
 have:=xZ t;rw [h];exact Nat.ne_of_gt (Nat.mul_pos this za)
theorem v7 (x:Nat):TW x (yy x):=by
 unfold TW yy;by_cases h:x=0
 ·exact .inl ⟨h,by rw [if_pos h]⟩
 ·rw [if_neg h];obtain⟨m,hm,_⟩:=Lib.ctzFrom_spec x x za Nat.lt_two_pow_self;exact .inr ⟨m,hm⟩
theorem pO (a:∀j,j<t->x / 2^j%2=0)(hx:x=0->t=0)(h1:x≠0->x / 2^t%2=1):t=yy x:=by
 rcases v7 x with⟨e,h⟩|⟨m,h⟩
 ·rw [hx e,h]
 ·have h0:=sQ h;rcases yB t (yy x) with hl|hl|hl
  ·have:=sP h hl;rw [h1 h0] at this;omega
  ·exact hl
  ·have:=jw h;rw [a _ hl] at this;omega
theorem lK {m:Nat}(h:x=2^t*(2*m+1)):t=yy x:=
 pO (λj hj=>sP h hj) (λe=>absurd e (sQ h)) (λ_=>jw h)
theorem aP {k:Nat}(h0:x%18446744073709551616^k=0)(hw:wd x k≠0):64*k+Lib.ctz 64 (wd x k)=yy x:=by
 have a:=xl x k;obtain⟨m,hm,hc⟩:=Lib.ctzFrom_spec 64 (wd x k) za (by simpa using a);have ec:Lib.ctz 64 (wd x k)=Lib.ctzFrom 64 (wd x k):=by unfold Lib.ctz;rw [if_neg hw]
 rw [ec];generalize Lib.ctzFrom 64 (wd x k)=c at*;obtain⟨s,hs⟩:∃s,64=c+(s+1):=⟨63 - c,za⟩;obtain⟨q,hq⟩:∃q,x / 18446744073709551616^k / 18446744073709551616=q:=⟨_,rfl⟩;have e1:x / 18446744073709551616^k=18446744073709551616*q+wd x k:=by rw [<-hq];exact(XJ _ _).symm
 have e2:x=18446744073709551616^k*(x / 18446744073709551616^k):=by
  have:=XJ x (18446744073709551616^k);rw [h0] at this;omega
 have e3:(18446744073709551616:Nat)=2^c*(2*2^s):=by
  rw [show(18446744073709551616:Nat)=2^64 from rfl,hs,xU,qN,qE (2^s) 2]
 refine lK (m:=2^s*q+m) ?_;have e4:(18446744073709551616:Nat)^k=2^(64*k):=by rw [show(18446744073709551616:Nat)=2^64 from rfl,<-YG]
 have e5:18446744073709551616*q+wd x k=2^c*(2*(2^s*q+m)+1):=by
  rw [hm]
  conv=>lhs;rw [e3]
  rw [qU,<-qS,qS 2,qU,xR]
 rw [e2,e1,e5,e4,<-qU,<-xU]
theorem iH (x:Nat)(A:zf)(n c:Nat)(w:World)(hA:zp w x A n c)(hn:n<=1099511627776)(hT:zv w):
  Calls prog 129 #[.agg #[.slice A n c]] w λe w'=>e=.returned (.int .i64 (yy x:Nat))/\Below w.heap.size w w':=by
 have v:=zd hA.len;have hr:=hA.1;have HT:=zd (λo=>hT.on ((qY _ w).alloc (qX _) o));have g:∀o,zg (zE (w.alloc o) w.heap.size 1 A n (zw .u64 (dg 18446744073709551616 x))):=λo=>hr.alloc (qX _) o;have HC:=zd g;clear hA hT g hr;go_enter func129,ntmps129;go_wp2_with fail
 go_loop [3,4,8] (λ_ _ ix=>∃k:Nat,k<=n/\ix=.int .i64 k/\zg (x%18446744073709551616^k=0)) (λ_ _ ix=>n - (intOf ix).toNat)
 case atStart=>exact⟨0,xQ _,rfl,by show _=_;simp [xD]⟩
 case round=>
  obtain⟨k,hk,rfl,H⟩:=hrel;by_cases hlt:k<n
  ·obtain⟨ad,rfl,hadb,d⟩:=ug (HC.o (.cells #[.slice A n c] 56)).o hlt;rw [rM] at d;by_cases hz:wd x k=0
   ·have HN:zg (x%18446744073709551616^(k+1)=0):=by
     show _=_;rw [wM 18446744073709551616 x k,H.o,xG];unfold wd at hz;rw [hz,XC]
    rw [hz] at d;clear hz;go_wp2
    go_round
    case rel=>exact⟨k+1,za,by go_num,HN⟩
    case measure=>simp [intOf];omega
   ·have HV:=zd (aP H.o hz);have i:=xl x k;have WT:=(λw' (h:zv w')=>Vt ((wd x k:Nat):Int) ⟨za,za⟩ w' h);have m:=oW (wd x k) (by simpa using i);have et:mm ((wd x k:Nat):Int)=((Lib.ctz 64 (wd x k):Nat):Int):=by unfold mm;simp
    rw [et] at WT;obtain⟨t,ht⟩:∃t,Lib.ctz 64 (wd x k)=t:=⟨_,rfl⟩;rw [ht] at WT HV m;obtain⟨a,ha⟩:∃a,wd x k=a:=⟨_,rfl⟩;rw [ha] at d WT hz;have j:=zd WT;have hz':((a:Int)==0)=false:=beq_eq_false_iff_ne.2 za;have hz2:((a:Int) !=0)=true:=by simp;omega
    clear WT ht ha et hz i;go_wp2_with fail;refine(j.o _ (HT.o _)).mono ?_;rintro e w' ⟨rfl,rfl⟩;go_wp2;go_ret;refine⟨pE ?_,(qY _ w).alloc (qX _) _⟩;have:=HV.o;omega
  ·have u:k=n:=za;subst u;have HX:zg (yy x=0):=by
    show _=_;have h1:=yx (b:=18446744073709551616) zh x;rw [v.o] at h1;have h2:=H.o;rw [qP h1] at h2;rw [h2];rfl
   go_wp2;go_ret;exact⟨by rw [HX.o];rfl,(qY _ w).alloc (qX _) _⟩
theorem aZ {r:Rat}{t:Int}{d:Nat}(hd:d≠0)(hc:Nat.gcd t.natAbs d=1)(h:r=Rat.divInt t d):r.num=t/\r.den=d:=by
 have e:(⟨t,d,hd,hc⟩:Rat)=Rat.divInt t d:=Rat.mk_eq_divInt;rw [<-e] at h;subst h;exact⟨rfl,rfl⟩
theorem iP (t:Int)(h:Nat)(hd:h ∣ t.natAbs):t=(h:Int)*zK (decide (t<0)) (t.natAbs / h):=by
 obtain⟨k,hk⟩:=hd;by_cases h0:h=0
 ·subst h0;rw [Nat.zero_mul] at hk;have:t=0:=Int.natAbs_eq_zero.1 hk;subst this;simp
 have e:t.natAbs / h=k:=by rw [hk];exact xE _ (xL h0)
 rw [e];unfold zK;by_cases ht:t<0
 ·rw [decide_eq_true ht,if_pos rfl,Int.mul_neg,<-QV,<-hk];omega
 ·rw [decide_eq_false ht,if_neg zh,<-QV,<-hk];omega
theorem sG (s u:Bool)(x y:Nat):zK s x*zK u y=zK (s !=u) (x*y):=by
 cases s<;>cases u<;>simp [zK,QV,Int.neg_mul,Int.mul_neg]
theorem Ur {p1 p2 t:Int}{q1 mA mB:Nat}(hc:Nat.gcd p1.natAbs q1=1)(hA:mA ∣ q1)(hm:Nat.gcd mA mB=1)(ht:t=p1*mB+p2*mA):Nat.gcd t.natAbs mA=1:=by
 refine Nat.dvd_one.1 ?_;have h1:Nat.gcd t.natAbs mA ∣ mA:=XY _ _;have h2:Nat.gcd t.natAbs mA ∣ t.natAbs:=XV _ _;generalize Nat.gcd t.natAbs mA=d at*;have h3:(d:Int)∣ p1*mB:=by
  have a:=Int.ofNat_dvd_left.2 h2;have b:(d:Int)∣ p2*mA:=Int.dvd_trans (Int.ofNat_dvd.2 h1) (Int.dvd_mul_left _ _);have c:=Int.dvd_sub a b;rw [ht,Int.add_sub_cancel] at c;exact c
 have h4:d ∣ p1.natAbs*mB:=by
  have:=Int.ofNat_dvd_left.1 h3;rwa [xB,XB] at this
 have h5:Nat.Coprime d mB:=XT h1 hm;have h6:d ∣ p1.natAbs:=h5.dvd_of_dvd_mul_right h4;have h7:=Nat.dvd_gcd h6 (Nat.dvd_trans h1 hA);rwa [hc] at h7
theorem Vx (a b:Rat){mA mB:Nat}{t:Int}(hA:mA=a.den / Nat.gcd a.den b.den)(hB:mB=b.den / Nat.gcd a.den b.den)(ht:t=a.num*mB+b.num*mA):
  (a+b).num=zK (decide (t<0)) (t.natAbs / Nat.gcd t.natAbs b.den)/\(a+b).den=mA*(b.den / Nat.gcd t.natAbs b.den):=by
 have g0:0<Nat.gcd a.den b.den:=Nat.gcd_pos_of_pos_left _ (xL a.den_nz);have k0:0<Nat.gcd t.natAbs b.den:=Nat.gcd_pos_of_pos_right _ (xL b.den_nz);have ea:Nat.gcd a.den b.den*mA=a.den:=by rw [hA];exact XW (XV _ _)
 have eb:Nat.gcd a.den b.den*mB=b.den:=by rw [hB];exact XW (XY _ _)
 have hm:Nat.gcd mA mB=1:=by rw [hA,hB];exact Nat.gcd_div_gcd_div_gcd_of_pos_left (xL a.den_nz)
 have hp:Nat.gcd t.natAbs mA=1:=Ur a.reduced ⟨_,(qE mA _▸ea).symm⟩ hm ht;have eh:Nat.gcd t.natAbs b.den*(b.den / Nat.gcd t.natAbs b.den)=b.den:=XW (XY _ _);have et:=iP t (Nat.gcd t.natAbs b.den) (XV _ _);have hq:Nat.gcd (t.natAbs / Nat.gcd t.natAbs b.den) (b.den / Nat.gcd t.natAbs b.den)=1:=yQ (xL b.den_nz);have d:mA≠0:=λh=>a.den_nz (by rw [<-ea,h];rfl);have r0:b.den / Nat.gcd t.natAbs b.den≠0:=λh=>b.den_nz (by rw [<-eh,h];rfl);refine aZ (Nat.mul_ne_zero d r0) ?_ ?_
 ·rw [ma];refine Nat.Coprime.mul_right ?_ hq;exact XT (Nat.div_dvd_of_dvd (XV _ _)) hp
 ·have e1:a+b=Rat.divInt (a.num*b.den+b.num*a.den) ((a.den*b.den:Nat):Int):=by rw [Rat.add_def'];rfl
  have e2:a.num*(b.den:Int)+b.num*(a.den:Int)=(Nat.gcd a.den b.den:Int)*t:=by
   rw [ht];generalize Nat.gcd a.den b.den=g at*;rw [<-eb,<-ea,QV,QV,Int.mul_add,Int.mul_left_comm,Int.mul_left_comm b.num]
  have e3:((a.den*b.den:Nat):Int)=(Nat.gcd a.den b.den:Int)*((mA*b.den:Nat):Int):=by
   generalize Nat.gcd a.den b.den=g at*;rw [<-ea,qU,QV]
  rw [e1,e2,e3,Rat.divInt_mul_left za];generalize Nat.gcd t.natAbs b.den=h at*;have e4:((mA*b.den:Nat):Int)=(h:Int)*((mA*(b.den / h):Nat):Int):=by
   conv=>lhs;rw [<-eh]
   rw [Nat.mul_left_comm,QV]
  rw [e4]
  conv=>lhs;rw [et]
  exact Rat.divInt_mul_left za
theorem Vz (a b:Rat):(a*b).num=zK (decide (a.num<0) !=decide (b.num<0)) (a.num.natAbs / Nat.gcd a.num.natAbs b.den*(b.num.natAbs / Nat.gcd b.num.natAbs a.den))/\
  (a*b).den=a.den / Nat.gcd b.num.natAbs a.den*(b.den / Nat.gcd a.num.natAbs b.den):=by
 have g0:0<Nat.gcd a.num.natAbs b.den:=Nat.gcd_pos_of_pos_right _ (xL b.den_nz);have k0:0<Nat.gcd b.num.natAbs a.den:=Nat.gcd_pos_of_pos_right _ (xL a.den_nz);have ea:Nat.gcd b.num.natAbs a.den*(a.den / Nat.gcd b.num.natAbs a.den)=a.den:=XW (XY _ _);have eb:Nat.gcd a.num.natAbs b.den*(b.den / Nat.gcd a.num.natAbs b.den)=b.den:=XW (XY _ _);have ta:=iP a.num _ (XV a.num.natAbs b.den);have tb:=iP b.num _ (XV b.num.natAbs a.den);have c1:Nat.Coprime (a.num.natAbs / Nat.gcd a.num.natAbs b.den) (b.den / Nat.gcd a.num.natAbs b.den):=yQ (xL b.den_nz);have c2:Nat.Coprime (b.num.natAbs / Nat.gcd b.num.natAbs a.den) (a.den / Nat.gcd b.num.natAbs a.den):=yQ (xL a.den_nz);have c3 : Nat.Coprime (a.num.natAbs / Nat.gcd a.num.natAbs b.den) (a.den / Nat.gcd b.num.natAbs a.den) :=
  XT (Nat.div_dvd_of_dvd (XV _ _)) (Nat.Coprime.coprime_dvd_right (Nat.div_dvd_of_dvd (XY _ _)) a.reduced)
 have c4 : Nat.Coprime (b.num.natAbs / Nat.gcd b.num.natAbs a.den) (b.den / Nat.gcd a.num.natAbs b.den) :=
  XT (Nat.div_dvd_of_dvd (XV _ _)) (Nat.Coprime.coprime_dvd_right (Nat.div_dvd_of_dvd (XY _ _)) b.reduced)
 refine aZ (λh=>?_) ?_ ?_
 ·rcases Nat.mul_eq_zero.1 h with h|h
  ·rw [h] at ea;exact a.den_nz ea.symm
  ·rw [h] at eb;exact b.den_nz eb.symm
 ·rw [ma];exact Nat.Coprime.mul_right (Nat.Coprime.mul_left c3 c2) (Nat.Coprime.mul_left c1 c4)
 ·have e1:a*b=Rat.divInt (a.num*b.num) ((a.den*b.den:Nat):Int):=by rw [Rat.mul_def'];rfl
  rw [e1,<-sG];generalize a.num.natAbs / Nat.gcd a.num.natAbs b.den=x1 at*;generalize b.num.natAbs / Nat.gcd b.num.natAbs a.den=x2 at*;generalize b.den / Nat.gcd a.num.natAbs b.den=y2 at*;generalize a.den / Nat.gcd b.num.natAbs a.den=y1 at*;generalize Nat.gcd a.num.natAbs b.den=g at*;generalize Nat.gcd b.num.natAbs a.den=k at*;generalize zK (decide (a.num<0)) x1=u1 at*;generalize zK (decide (b.num<0)) x2=u2 at*;have e2:a.num*b.num=((g*k:Nat):Int)*(u1*u2):=by
   rw [ta,tb,QV];simp only [Int.mul_assoc,Int.mul_left_comm]
  have e3:((a.den*b.den:Nat):Int)=((g*k:Nat):Int)*((y1*y2:Nat):Int):=by
   rw [<-ea,<-eb,<-QV];congr 1;simp only [Nat.mul_left_comm,qE]
  rw [e2,e3];exact Rat.divInt_mul_left (by have:=Nat.mul_pos g0 k0;omega)
theorem Vy (a:Rat)(h:a≠0):(a⁻¹).num=zK (decide (a.num<0)) a.den/\(a⁻¹).den=a.num.natAbs:=by
 have hn:a.num≠0:=λe=>h (Rat.num_eq_zero.1 e);constructor
 ·rw [Rat.num_inv];unfold zK;rcases Int.lt_or_gt_of_ne hn with h1|h1
  ·rw [Int.sign_eq_neg_one_of_neg h1,decide_eq_true h1,if_pos rfl];omega
  ·rw [Int.sign_eq_one_of_pos h1,decide_eq_false za,if_neg zh];omega
 ·rw [Rat.den_inv,if_neg hn]
theorem VA (a:Rat):(-a).num=zK (!decide (a.num<0)) a.num.natAbs/\(-a).den=a.den:=by
 refine⟨?_,rfl⟩;rw [Rat.neg_num];unfold zK;by_cases h:a.num<0
 ·simp [h];omega
 ·simp [h];omega
theorem Uw (ha:a.den=1)(hb:b.den=1):(a+b)=((a.num+b.num:Int):Rat):=by
 have h1:a=((a.num:Int):Rat):=Rat.ext (by rw [yR]) (by rw [yS,ha]);have h2:b=((b.num:Int):Rat):=Rat.ext (by rw [yR]) (by rw [yS,hb]);rw [Rat.intCast_add,<-h1,<-h2]
theorem Ux (h:a=0\/b=0\/a.den=1/\b.den=1):(a*b)=((a.num*b.num:Int):Rat):=by
 rcases h with h|h|⟨ha,hb⟩
 ·subst h;rw [Rat.zero_mul,show(0:Rat).num=0 from rfl,Int.zero_mul];rfl
 ·subst h;rw [Rat.mul_zero,show(0:Rat).num=0 from rfl,Int.mul_zero];rfl
 ·have h1:a=((a.num:Int):Rat):=Rat.ext (by rw [yR]) (by rw [yS,ha]);have h2:b=((b.num:Int):Rat):=Rat.ext (by rw [yR]) (by rw [yS,hb]);rw [Rat.intCast_mul,<-h1,<-h2]
