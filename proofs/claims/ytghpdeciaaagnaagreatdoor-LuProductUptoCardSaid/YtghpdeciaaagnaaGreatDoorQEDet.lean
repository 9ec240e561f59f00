/- What this claim leans on. -/
import Derived.Test.YtghpdeciaaagnaaGreatDoorQBunT
namespace Go.Proofs.YtghpdeciaaagnaaGreatDoor
open Go Go.RowKit Go.Proofs.Tryz
set_option maxHeartbeats 16000000
set_option linter.unusedVariables false
def sg (c:Nat):Rat:=if c%2=0 then 1 else -1
def skp (c j:Nat):Nat:=if j<c then j else j+1
def mnr (M:Nat->Nat->Rat)(c:Nat):Nat->Nat->Rat:=λi j=>M (i+1) (skp c j)
def zaJ:Nat->(Nat->Nat->Rat)->Rat
 |0,_=>1
 |n+1,M=>zav (n+1) λc=>sg c*M 0 c*zaJ n (mnr M c)
theorem zbb (n:Nat)(M:Nat->Nat->Rat):zaJ (n+1) M=zav (n+1) λc=>sg c*M 0 c*zaJ n (mnr M c):=rfl
theorem zpQ (c:Nat):sg (c+1)= -sg c:=by
 unfold sg;by_cases h:c%2=0
 ·rw [if_neg om9,if_pos h]
 ·rw [if_pos om9,if_neg h,Rat.neg_neg]
theorem skp_lt {c j n:Nat}(hj:j<n):skp c j<n+1:=by unfold skp;split<;>omega
theorem skp_ne (c j:Nat):skp c j≠c:=by unfold skp;split<;>omega
theorem zbd:∀{n:Nat} {M N:Nat->Nat->Rat},(∀i,i<n->∀j,j<n->M i j=N i j)->zaJ n M=zaJ n N
 |0,_,_,_=>rfl
 |n+1,M,N,h=>by
   rw [zbb,zbb];refine zal λc hc=>?_;rw [h 0 om9 c hc,zbd (n:=n) (M:=mnr M c) (N:=mnr N c) λi hi j hj=>h (i+1) om9 _ (skp_lt hj)]
def zaP (M:Nat->Nat->Rat)(k:Nat)(v:Nat->Rat):Nat->Nat->Rat:=λi j=>if j=k then v i else M i j
theorem zbw (M:Nat->Nat->Rat)(k:Nat)(v:Nat->Rat)(i:Nat):zaP M k v i k=v i:=if_pos rfl
theorem zbC (M:Nat->Nat->Rat){k j:Nat}(h:j≠k)(v:Nat->Rat)(i:Nat):zaP M k v i j=M i j:=if_neg h
theorem zec (M:Nat->Nat->Rat)(k:Nat):zaP M k (λi=>M i k)=M:=by
 funext i j;unfold zaP;split
 ·next h=>rw [h]
 ·rfl
theorem zeI (M:Nat->Nat->Rat)(k:Nat)(v:Nat->Rat):mnr (zaP M k v) k=mnr M k:=by
 funext i j;show(if skp k j=k then _ else _)=_;rw [if_neg (skp_ne k j)];rfl
def uns (c k:Nat):Nat:=if k<c then k else k - 1
theorem zlU {c k j:Nat}(h:k≠c):skp c j=k↔j=uns c k:=by unfold skp uns;split<;>split<;>omega
theorem uns_lt {c k n:Nat}(h:k≠c)(hk:k<n+1)(hc:c<n+1):uns c k<n:=by unfold uns;split<;>omega
theorem zjy {M:Nat->Nat->Rat}{c k:Nat}(h:k≠c)(v:Nat->Rat):mnr (zaP M k v) c=zaP (mnr M c) (uns c k) (λi=>v (i+1)):=by
 funext i j
 show(if skp c j=k then _ else _)=(if j=uns c k then _ else _);by_cases e:j=uns c k
 ·rw [if_pos e,if_pos ((zlU h).2 e)]
 ·rw [if_neg e,if_neg λq=>e ((zlU h).1 q)];rfl
theorem zdE:∀{n:Nat} (M:Nat->Nat->Rat) {k:Nat} (_:k<n) (a b:Rat) (u v:Nat->Rat),zaJ n (zaP M k λi=>a*u i+b*v i)=a*zaJ n (zaP M k u)+b*zaJ n (zaP M k v)
 |n+1,M,k,hk,a,b,u,v=>by
   rw [zbb,zbb,zbb,zaZ,zaZ,<-zcj];refine zal λc hc=>?_;by_cases h:k=c
   ·subst h;rw [zeI,zeI,zeI];simp only [zaP,if_true]
    grind
   ·rw [zjy h,zjy h,zjy h,zdE (mnr M c) (uns_lt h hk hc) a b (λi=>u (i+1)) (λi=>v (i+1))];simp only [zaP,if_neg (λe:c=k=>h e.symm)]
    grind
theorem zeh {n:Nat}(M:Nat->Nat->Rat){k:Nat}(hk:k<n)(a:Rat)(u:Nat->Rat):zaJ n (zaP M k λi=>a*u i)=a*zaJ n (zaP M k u):=by
 have h:=zdE M hk a 0 u u;rw [Rat.zero_mul,Rat.add_zero] at h;rw [<-h];congr 2
 funext i
 grind
theorem zeR {n:Nat}(M:Nat->Nat->Rat){k:Nat}(hk:k<n)(f:Nat->Rat)(u:Nat->Nat->Rat):∀q,zaJ n (zaP M k λi=>zav q λl=>f l*u l i)=zav q λl=>f l*zaJ n (zaP M k (u l))
 |0=>by
   have:=zeh M hk 0 (λ_=>0);have e:(λi:Nat=>(0:Rat)*(λ_=>0) i)=λ_=>0:=by funext i;exact Rat.zero_mul _
   rw [e] at this;show zaJ n (zaP M k λi=>0)=0;rw [this,Rat.zero_mul]
 |q+1=>by
   rw [zaD,<-zeR M hk f u q];have:=zdE M hk 1 (f q) (λi=>zav q λl=>f l*u l i) (u q);rw [Rat.one_mul] at this;rw [<-this];congr 2
   funext i
   rw [zaD,Rat.one_mul]
theorem znu {f:Nat->Rat}{k:Nat}(h2:f k+f (k+1)=0):∀{n:Nat},k+1<n->(∀c,c<n->c≠k->c≠k+1->f c=0)->zav n f=0
 |n+1,hk,h1=>by
   rw [zaD];by_cases e:n=k+1
   ·subst e;rw [zaD,zbq λi hi=>h1 i om9 om9 om9,Rat.zero_add,h2]
   ·rw [znu h2 (n:=n) om9 (λc hc=>h1 c om9),h1 n om9 om9 om9,Rat.add_zero]
theorem zeg:∀{n:Nat} {M:Nat->Nat->Rat} {k:Nat},k+1<n->(∀i,i<n->M i k=M i (k+1))->zaJ n M=0
 |n+1,M,k,hk,h=>by
   rw [zbb];have h1:∀c,c<n+1->c≠k->c≠k+1->sg c*M 0 c*zaJ n (mnr M c)=0:=λc hc e1 e2=>by
    have:zaJ n (mnr M c)=0:=by
     refine zeg (k:=uns c k) ?_ λi hi=>?_
     ·unfold uns;split<;>omega
     ·have a1:skp c (uns c k)=k:=(zlU (Ne.symm e1)).2 rfl;have a2:skp c (uns c k+1)=k+1:=by unfold skp uns;split<;>split<;>omega
      show M (i+1) (skp c (uns c k))=M (i+1) (skp c (uns c k+1));rw [a1,a2];exact h (i+1) om9
    rw [this,Rat.mul_zero]
   have h2:sg k*M 0 k*zaJ n (mnr M k)+sg (k+1)*M 0 (k+1)*zaJ n (mnr M (k+1))=0:=by
    have:zaJ n (mnr M k)=zaJ n (mnr M (k+1)):=zbd λi hi j hj=>by
     show M (i+1) (skp k j)=M (i+1) (skp (k+1) j);by_cases e:j=k
     ·subst e;have a1:skp j j=j+1:=by unfold skp;split<;>omega
      have a2:skp (j+1) j=j:=by unfold skp;split<;>omega
      rw [a1,a2];exact(h (i+1) om9).symm
     ·have:skp k j=skp (k+1) j:=by unfold skp;split<;>split<;>omega
      rw [this]
    rw [this,zpQ,<-h 0 om9]
    grind
   exact znu (f:=λc=>sg c*M 0 c*zaJ n (mnr M c)) h2 om9 h1
theorem zqj {n:Nat}(M:Nat->Nat->Rat){k:Nat}(hk:k+1<n)(u v:Nat->Rat):zaJ n (zaP (zaP M k u) (k+1) v)= -zaJ n (zaP (zaP M k v) (k+1) u):=by
 have z:∀x:Nat->Rat,zaJ n (zaP (zaP M k x) (k+1) x)=0:=λx=>zeg hk λi _=>by
  rw [zbC _ om9,zbw,zbw]
 have sw:∀x y:Nat->Rat,zaP (zaP M k x) (k+1) y=zaP (zaP M (k+1) y) k x:=λx y=>by
  funext i j;simp only [zaP];by_cases a:j=k+1
  ·rw [if_pos a,if_neg om9,if_pos a]
  ·rw [if_neg a];by_cases b:j=k
   ·rw [if_pos b,if_pos b]
   ·rw [if_neg b,if_neg b,if_neg a]
 have e1:=z (λi=>1*u i+1*v i);rw [zdE _ hk,sw,sw,zdE _ (by omega:k<n),zdE _ (by omega:k<n),<-sw,<-sw,<-sw,<-sw,z,z] at e1
 grind
theorem zhO:∀(d:Nat) {n:Nat} {M:Nat->Nat->Rat} {k:Nat},k+1+d<n->(∀i,i<n->M i k=M i (k+1+d))->zaJ n M=0
 |0,n,M,k,hk,h=>zeg hk h
 |d+1,n,M,k,hk,h=>by
   have e:M=zaP (zaP M (k+1+d) λi=>M i (k+1+d)) (k+1+d+1) λi=>M i (k+1+d+1):=by rw [zec,zec]
   rw [e,zqj M om9,zhO d (k:=k) om9,Rat.neg_zero];intro i hi;rw [zbC _ om9,zbC _ om9,zbC _ om9,zbw];exact h i hi
theorem zei {n:Nat}{M:Nat->Nat->Rat}{k l:Nat}(hk:k<n)(hl:l<n)(hne:k≠l):zaJ n (zaP M k λi=>M i l)=0:=by
 rcases Nat.lt_or_ge k l with h|h
 ·obtain⟨d,rfl⟩:∃d,l=k+1+d:=⟨l - k - 1,om9⟩;exact zhO d om9 λi _=>by rw [zbw,zbC _ om9]
 ·obtain⟨d,rfl⟩:∃d,k=l+1+d:=⟨k - l - 1,om9⟩;exact zhO d (k:=l) om9 λi _=>by rw [zbC _ om9,zbw]
theorem zfN:∀(n:Nat) {M:Nat->Nat->Rat},(∀i,i<n->M i n=0)->zaJ (n+1) M=M n n*zaJ n M
 |0,M,_=>by
   show zav 1 _=_;rw [zaD,zeX];show 0+1*M 0 0*1=M 0 0*1
   grind
 |n+1,M,h=>by
   rw [zbb,zaD,h 0 om9,Rat.mul_zero,Rat.zero_mul,Rat.add_zero,zbb n,zaZ];refine zal λc hc=>?_;rw [zfN n (M:=mnr M c) (λi hi=>by
    show M (i+1) (skp c n)=0;rw [show skp c n=n+1 by unfold skp;split<;>omega];exact h (i+1) om9)]
   have:mnr M c n n=M (n+1) (n+1):=by show M (n+1) (skp c n)=_;rw [show skp c n=n+1 by unfold skp;split<;>omega]
   rw [this]
   grind
set_option maxRecDepth 100000
theorem zdj (x:Nat)(A:oA9)(n c:Nat)(w:World)(hA:zad w x A n c)(hn:n<=1):
  Calls prog 162 #[.agg #[.slice A n c]] w λe w'=>e=.returned (.tuple #[.int .u64 (wd x 0:Nat),.bool true])/\Below w.heap.size w w':=by
 have WX:=(λw' (h:Below w.heap.size w w')=>zdL x A n c 0 w' (hA.below h));obtain⟨a,ha⟩:∃a,wd x 0=a:=⟨_,rfl⟩;rw [ha] at WX⊢;have b:=lh9 WX;have h1:decide ((1:Int)<(n:Int))=false:=by simp;omega
 have h2:decide ((n:Int)>1)=false:=by simp;omega
 have h3:¬ 1<n:=om9;clear WX ha hA;go_enter func162,ntmps162;go_wp2_with fail;obtain⟨b1,b2,b5⟩:=zax w 37 #[.slice A n c];refine(b.out _ b1).mono ?_;rintro e w1 ⟨rfl,hb⟩;have hB:=zaa b1 hb;clear hb b1 b2 b5;go_wp2
 go_ret2
 exact⟨rfl,hB⟩
theorem zcT (A:oA9)(n c:Nat)(w:World)(hn:1<n):
  Calls prog 162 #[.agg #[.slice A n c]] w λe w'=>e=.returned (.tuple #[.int .u64 0,.bool false])/\Below w.heap.size w w':=by
 go_enter func162,ntmps162;go_wp2
 go_ret2
 exact⟨rfl,(Below.refl _ w).alloc (Nat.le_refl _) _⟩
def TW (x t:Nat):Prop:=(x=0/\t=0)\/∃m,x=2^t*(2*m+1)
def zbR (x:Nat):Nat:=if x=0 then 0 else Lib.ctzFrom x x
theorem zlZ {x t:Nat}{m:Nat}(h:x=2^t*(2*m+1)):x / 2^t%2=1:=by
 rw [h,Nat.mul_div_cancel_left _ (Nat.two_pow_pos t)];omega
theorem tw_low {x t j:Nat}{m:Nat}(h:x=2^t*(2*m+1))(hj:j<t):x / 2^j%2=0:=by
 obtain⟨s,rfl⟩:∃s,t=j+(s+1):=⟨t - j - 1,om9⟩;rw [h,Nat.pow_add,Nat.mul_assoc,Nat.mul_div_cancel_left _ (Nat.two_pow_pos j),Nat.pow_succ,Nat.mul_comm (2^s) 2,Nat.mul_assoc];exact Nat.mul_mod_right _ _
theorem tw_pos {x t:Nat}{m:Nat}(h:x=2^t*(2*m+1)):x≠0:=by
 have:=Nat.two_pow_pos t;rw [h];exact Nat.ne_of_gt (Nat.mul_pos this om9)
theorem tw_N (x:Nat):TW x (zbR x):=by
 unfold TW zbR;by_cases h:x=0
 ·exact .inl ⟨h,by rw [if_pos h]⟩
 ·rw [if_neg h];obtain⟨m,hm,_⟩:=Lib.ctzFrom_spec x x om9 Nat.lt_two_pow_self;exact .inr ⟨m,hm⟩
theorem tw_find {x t:Nat}(a:∀j,j<t->x / 2^j%2=0)(hx:x=0->t=0)(h1:x≠0->x / 2^t%2=1):t=zbR x:=by
 rcases tw_N x with⟨e,h⟩|⟨m,h⟩
 ·rw [hx e,h]
 ·have h0:=tw_pos h;rcases Nat.lt_trichotomy t (zbR x) with hl|hl|hl
  ·have:=tw_low h hl;rw [h1 h0] at this;omega
  ·exact hl
  ·have:=zlZ h;rw [a _ hl] at this;omega
theorem tw_of {x t m:Nat}(h:x=2^t*(2*m+1)):t=zbR x:=
 tw_find (λj hj=>tw_low h hj) (λe=>absurd e (tw_pos h)) (λ_=>zlZ h)
theorem zpV {x k:Nat}(h0:x%18446744073709551616^k=0)(hw:wd x k≠0):64*k+Lib.ctz 64 (wd x k)=zbR x:=by
 have a:=zcs x k;obtain⟨m,hm,hc⟩:=Lib.ctzFrom_spec 64 (wd x k) om9 (by simpa using a);have ec:Lib.ctz 64 (wd x k)=Lib.ctzFrom 64 (wd x k):=by unfold Lib.ctz;rw [if_neg hw]
 rw [ec];generalize Lib.ctzFrom 64 (wd x k)=c at*;obtain⟨s,hs⟩:∃s,64=c+(s+1):=⟨63 - c,om9⟩;obtain⟨q,hq⟩:∃q,x / 18446744073709551616^k / 18446744073709551616=q:=⟨_,rfl⟩;have e1:x / 18446744073709551616^k=18446744073709551616*q+wd x k:=by rw [<-hq];exact(Nat.div_add_mod _ _).symm
 have e2:x=18446744073709551616^k*(x / 18446744073709551616^k):=by
  have:=Nat.div_add_mod x (18446744073709551616^k);rw [h0] at this;omega
 have e3:(18446744073709551616:Nat)=2^c*(2*2^s):=by
  rw [show(18446744073709551616:Nat)=2^64 from rfl,hs,Nat.pow_add,Nat.pow_succ,Nat.mul_comm (2^s) 2]
 refine tw_of (m:=2^s*q+m) ?_;have e4:(18446744073709551616:Nat)^k=2^(64*k):=by rw [show(18446744073709551616:Nat)=2^64 from rfl,<-Nat.pow_mul]
 have e5:18446744073709551616*q+wd x k=2^c*(2*(2^s*q+m)+1):=by
  rw [hm]
  conv=>lhs;rw [e3]
  rw [Nat.mul_assoc,<-Nat.mul_add,Nat.mul_add 2,Nat.mul_assoc,Nat.add_assoc]
 rw [e2,e1,e5,e4,<-Nat.mul_assoc,<-Nat.pow_add]
theorem zjB (x:Nat)(A:oA9)(n c:Nat)(w:World)(hA:zad w x A n c)(hn:n<=1099511627776)(hT:zai w):
  Calls prog 199 #[.agg #[.slice A n c]] w λe w'=>e=.returned (.int .i64 (zbR x:Nat))/\Below w.heap.size w w':=by
 have m:=lh9 hA.len;have hr:=hA.1;have HT:=lh9 (λo=>hT.on ((Below.refl _ w).alloc (Nat.le_refl _) o));have f:∀o,Hid (zaw (w.alloc o) w.heap.size 1 A n (zaF .u64 (dg 18446744073709551616 x))):=λo=>hr.alloc (Nat.le_refl _) o;have HC:=lh9 f;clear hA hT f hr;go_enter func199,ntmps199;go_wp2_with fail
 go_loop [3,4,8] (λ_ _ ix=>∃k:Nat,k<=n/\ix=.int .i64 k/\Hid (x%18446744073709551616^k=0)) (λ_ _ ix=>n - (intOf ix).toNat)
 case atStart=>exact⟨0,Nat.zero_le _,rfl,by show _=_;simp [Nat.mod_one]⟩
 case round=>
  obtain⟨k,hk,rfl,H⟩:=hrel;by_cases hlt:k<n
  ·obtain⟨ad,rfl,hadb,d⟩:=zdy (HC.out (.cells #[.slice A n c] 37)).out hlt;rw [zeK] at d;by_cases hz:wd x k=0
   ·have HN:Hid (x%18446744073709551616^(k+1)=0):=by
     show _=_;rw [zba 18446744073709551616 x k,H.out,Nat.zero_add];unfold wd at hz;rw [hz,Nat.mul_zero]
    rw [hz] at d;clear hz;go_wp2
    go_round
    case rel=>exact⟨k+1,om9,by go_num,HN⟩
    case measure=>simp [intOf];omega
   ·have HV:=lh9 (zpV H.out hz);have g:=zcs x k;have WT:=(λw' (h:zai w')=>zpi ((wd x k:Nat):Int) ⟨om9,om9⟩ w' h);have j:=ctz_le (wd x k) (by simpa using g);have et:zgX ((wd x k:Nat):Int)=((Lib.ctz 64 (wd x k):Nat):Int):=by unfold zgX;simp
    rw [et] at WT;obtain⟨t,ht⟩:∃t,Lib.ctz 64 (wd x k)=t:=⟨_,rfl⟩;rw [ht] at WT HV j;obtain⟨a,ha⟩:∃a,wd x k=a:=⟨_,rfl⟩;rw [ha] at d WT hz;have i:=lh9 WT;have hz':((a:Int)==0)=false:=beq_eq_false_iff_ne.2 om9;have hz2:((a:Int) !=0)=true:=by simp;omega
    clear WT ht ha et hz g;go_wp2_with fail;refine(i.out _ (HT.out _)).mono ?_;rintro e w' ⟨rfl,rfl⟩;go_wp2;go_ret;refine⟨ret_i64 ?_,(Below.refl _ w).alloc (Nat.le_refl _) _⟩;have:=HV.out;omega
  ·have l:k=n:=om9;subst l;have HX:Hid (zbR x=0):=by
    show _=_;have h1:=zbP (b:=18446744073709551616) de9 x;rw [m.out] at h1;have h2:=H.out;rw [Nat.mod_eq_of_lt h1] at h2;rw [h2];rfl
   go_wp2;go_ret;exact⟨by rw [HX.out];rfl,(Below.refl _ w).alloc (Nat.le_refl _) _⟩
theorem nat_add (x y:Nat)(A D:oA9)(n m c d:Nat)(w:World)(hA:zad w x A n c)(hD:zad w y D m d)(hn:n<=549755813888)(hm:m<=549755813888):
  Calls prog 217 #[.agg #[.slice A n c],.agg #[.slice D m d]] w (zaS w (x+y)):=by
 obtain⟨i0,ab,aj,ak,al⟩:=info_parts zgD;have ag:=lh9 hA.len;have af:=lh9 hD.len;have HA:=up9 w (λw' hb=>hA.below hb);have HD:=up9 w (λw' hb=>hD.below hb);obtain⟨N,hN⟩:∃N,max n m=N:=⟨_,rfl⟩;have hN1:n<=N:=om9;have hN2:m<=N:=om9;have hN3:N<=549755813888:=om9;obtain⟨Z,hZ⟩:∃Z,madeCells (Value.cells (.int .u64 0)) ((N+1)*i0.size)=Z:=⟨_,rfl⟩;have HZ:Hid (Z.size=N+1):=by show _=_;rw [<-hZ,size_madeCells,ak,Nat.mul_one]
 have ah:∀W:World,(Instr.makeSlice 35 (.int .i64 ((N:Int)+1)) (.int .i64 ((N:Int)+1))).run prog W=.ok (.slice (some ⟨W.heap.size,0,none⟩) (N+1) (N+1)) (W.alloc (.cells Z 160)):=λW=>by
  rw [<-hZ];exact zbf _ _ i0 _ underlying35 ab aj _ _ (N+1) (N+1) (Nat.le_refl _) (by rw [al];omega) om9 W
 have ai:IntKind.i64.wrap ((N:Int)+1)=(N:Int)+1:=IntWalk.i64_in _ om9;have J:(if (n:Int)<(m:Int) then(m:Int) else(n:Int))=(N:Int):=by split<;>omega
 have K:(if n<m then(m:Int) else(n:Int))=(N:Int):=by split<;>omega
 have M:(if (m:Int)>(n:Int) then(m:Int) else(n:Int))=(N:Int):=by split<;>omega
 clear hZ hA hD hN;go_enter func217,ntmps217;go_wp2_with fail;generalize hW:((w.alloc (.cells #[.slice A n c] 37)).alloc (.cells #[.slice D m d] 37)).alloc (.cells #[.slice none 0 0] 37)=W0;obtain⟨b1,b2,b3,b4,b5⟩:=zbT w 37 37 37 #[.slice A n c] #[.slice D m d] #[.slice none 0 0];rw [hW] at b1 b2 b3 b4 b5;have g1:W0.cell? ⟨w.heap.size,0,none⟩=some (.slice A n c):=b2.cell 0;have g2:W0.cell? ⟨w.heap.size+1,0,none⟩=some (.slice D m d):=b3.cell 0;clear hW b2 b3;have l:=b1.drew;have o:=b4.drew
 go_region_held3 (fun w' => Below w.heap.size w w' ∧ w'.cell? ⟨w.heap.size,0,none⟩ = some (.slice A n c) ∧ w'.cell? ⟨w.heap.size + 1,0,none⟩ = some (.slice D m d) ∧ Blk w' (w.heap.size + 1 + 1) 37 #[.slice none 0 0])
  (first|(exact⟨l,g1,g2,o⟩)|(go_split_ands;(repeat' apply And.intro);all_goals (first|exact as9|exact zaa as9 hb|exact zac hb as9|exact zab hb as9|exact zaj _ as9|exact zam _ as9|exact Blk.alloc as9 _|exact zae _ (by simp;omega) as9|exact zag _ (by simp;omega) as9|exact Blk.far as9 (by simp;omega) _)))
  (first
    |(go_at_call 147;refine(zbS x _ _ _ _).mono ?_;rintro e w' ⟨rfl,hb⟩))
 rename_i w1 hb1 hH
 obtain⟨hB,g1,g2,hk⟩:=hH;have hgs:w.heap.size+3<=w'.heap.size:=by
  have h1:=hb1.size;have h2:=hb.size;have h3:W0.drew.heap.size=W0.heap.size:=rfl;omega
 have H:=Blk.new w' 160 Z;generalize w'.alloc (.cells Z 160)=W1 at*;generalize w'.heap.size=gs at*;clear ah J K M hb hb1 l o b1 b4 b5 ai;go_wp2_with fail
 go_loopg [6,7,17] (N + 2) (fun g v _ i wr => ∃ (k cc : Nat) (cs : Array Value) (out : List Nat),k ≤ N + 1 ∧ N + 1 < g + k ∧ i = .int .i64 k ∧ v = .int .u64 cc ∧ AddB x y k out cc ∧ cs.size = N + 1 ∧ cs.toList.take k = zaF .u64 out ∧ Blk wr gs 160 cs ∧
   Below w.heap.size w wr/\wr.cell? ⟨w.heap.size,0,none⟩=some (.slice A n c)/\wr.cell? ⟨w.heap.size+1,0,none⟩=some (.slice D m d)/\Blk wr (w.heap.size+1+1) 37 #[.slice none 0 0])
 case atStart=>exact⟨0,0,Z,[],om9,om9,rfl,rfl,AddB.start x y,HZ.out,rfl,H,hB,g1,g2,hk⟩
 case round=>
  clear hB g1 g2 hk H;obtain⟨k,cc,cs,out,hk,hg,rfl,rfl,f,hsz,B,t,hB,g1,g2,r⟩:=hrel;have I:=f.carry;by_cases hlt:k<N+1
  ·have z:=f.step (s:=wd x k+wd y k+cc) rfl;have V:=zcs x k;have X:=zcs y k;have WX:=up9 w (λw' h=>zdL x A n c k w' (HA.out w' h));have WY:=up9 w (λw' h=>zdL y D m d k w' (HD.out w' h));obtain⟨a,ha⟩:∃a,wd x k=a:=⟨_,rfl⟩;obtain⟨b,hb⟩:∃a,wd y k=a:=⟨_,rfl⟩;rw [ha] at WX V z;rw [hb] at WY X z;have WA:∀w',Calls prog 230 #[.int .u64 a,.int .u64 b,.int .u64 cc] w' λe Q=>e=.returned (.tuple #[.int .u64 (((a+b+cc)%18446744073709551616:Nat):Int),.int .u64 (((a+b+cc) / 18446744073709551616:Nat):Int)])/\w'=Q:=λw'=>by
    rw [<-zkn I,<-zkm I];exact znG a b cc ⟨om9,om9⟩ ⟨om9,om9⟩ ⟨om9,om9⟩ w'
   have C:=lh9 z;have E:=lh9 hsz;have R:=lh9 B;obtain⟨s1,e1⟩:∃s1,(a+b+cc)%18446744073709551616=s1:=⟨_,rfl⟩;obtain⟨s2,e2⟩:∃s2,(a+b+cc) / 18446744073709551616=s2:=⟨_,rfl⟩;rw [e1,e2] at WA C;have S:=lh9 WA;obtain⟨u,hu⟩:∃u,cs[k]?=some u:=⟨cs[k]' om9,Array.getElem?_eq_getElem om9⟩;have HU:=lh9 hu;clear WA z ha hb e1 e2 f B hu hsz;have i1:(0:Int)<=(k:Int):=om9;have i2:(k:Int)<(N:Int)+1:=om9;go_wp2_with fail;have l:=hB.drew;have o:=r.drew;have Y:=t.drew
   go_region_held3 (λw'=>Below w.heap.size w w'/\w'.cell? ⟨w.heap.size,0,none⟩=some (.slice A n c)/\w'.cell? ⟨w.heap.size+1,0,none⟩=some (.slice D m d)/\Blk w' (w.heap.size+1+1) 37 #[.slice none 0 0])
   (first | (exact ⟨l,g1,g2,o⟩) | (go_split_ands; (repeat' apply And.intro); all_goals (first | exact as9 | exact zaa as9 hb | exact zac hb as9 | exact zab hb as9 | exact zaj _ as9 | exact zam _ as9 | exact Blk.alloc as9 _ | exact zae _ (by simp; omega) as9 | exact zag _ (by simp; omega) as9 | exact Blk.far as9 (by simp; omega) _)))
     (first
       |(go_at_call 164;with_reducible refine(WX.out _ (by first|exact as9|exact And.left as9)).mono ?_;rintro e w' ⟨rfl,hb⟩;have j:Blk w' gs 160 cs:=zab hb as9;have q1:=(j.cell k).trans HU.out;have q2:=j.frozen k)
       |(go_at_call 164;with_reducible refine(WY.out _ (by first|exact as9|exact And.left as9)).mono ?_;rintro e w' ⟨rfl,hb⟩;have j:Blk w' gs 160 cs:=zab hb as9;have q1:=(j.cell k).trans HU.out;have q2:=j.frozen k)
       |(go_at_call 230;with_reducible refine(S.out _).mono ?_;rintro e Q ⟨rfl,rfl⟩))
   rename_i hH
   obtain⟨U,g3,g4,ac⟩:=hH;have ad:=j.set_ k (.int .u64 s1);clear hb j q1 q2 l o Y hB g1 g2 r t;go_wp2;go_roundg (N+1 - k)
   case measure=>omega
   case rel=>exact⟨k+1,s2,_,_,om9,om9,by go_num,rfl,C.out,by simpa using E.out,by rw [zjT _ _ _ (by have:=E.out;omega),R.out,zfa],ad,U,g3,g4,ac⟩
  ·have ae:k=N+1:=om9;subst ae;have e:=f.done (by have:=ag.out;omega) (by have:=af.out;omega);have O:out.length=N+1:=f.len;have T:=zfT (some ⟨gs,0,none⟩) (N+1) (N+1) wr.heap.size out wr (zea t hsz B O) f.dgs (Nat.le_refl _) om9 om9;rw [e] at T;have HT:=lh9 T;have aa:wr.cell? ⟨w.heap.size+1+1,0,none⟩=some (.slice none 0 0):=r.cell 0;have hf1:=r.frozen 0;clear T t hsz B f e O r g1 g2;go_wp2_with fail;refine HT.out.mono ?_;rintro e w2 ⟨A1,c1,rfl,P,h1,h2,F,rfl⟩;have G:=zgy hB (p:=w.heap.size+1+1) (gs:=gs) om9 om9 P h1 h2 F om9 (.slice A1 (dg 18446744073709551616 (x+y)).length c1);have HG:Hid (zaS w (x+y) (.returned (.agg #[.slice A1 (dg 18446744073709551616 (x+y)).length c1])) (wr.setCell ⟨w.heap.size+1+1,0,none⟩ (.slice A1 (dg 18446744073709551616 (x+y)).length c1))):=⟨_,_,_,rfl,G.2.1,G.1,G.2.2⟩;clear G P h1 h2 F;obtain⟨L,hL⟩:∃L,(dg 18446744073709551616 (x+y)).length=L:=⟨_,rfl⟩;rw [hL] at HG⊢;clear hL;go_wp2;refine bodyPost_ret (v:=.agg #[.slice A1 L c1]) (by simp [results,results217,go_sem,aa]) rfl ?_;exact HG.out
theorem zoG (x y:Nat)(A D:oA9)(n m c d:Nat)(w:World)(hA:zad w x A n c)(hD:zad w y D m d)(hn:n<=549755813888)(hm:m<=549755813888)(a:x<y):
  Calls prog 218 #[.agg #[.slice A n c],.agg #[.slice D m d]] w (zgk w 0 false):=by
 have CC:=up9 w (λw' hb=>zfo x y A D n m c d w' (hA.below hb) (hD.below hb) om9 om9);rw [zev a] at CC;clear hA hD a;go_enter func218,ntmps218;go_wp2_with fail;generalize hW:((w.alloc (.cells #[.slice A n c] 37)).alloc (.cells #[.slice D m d] 37)).alloc (.cells #[.slice none 0 0] 37)=W0;obtain⟨b1,b2,b3,b4,b5⟩:=zbT w 37 37 37 #[.slice A n c] #[.slice D m d] #[.slice none 0 0];rw [hW] at b1 b2 b3 b4 b5;clear hW b2 b3;refine(CC.out _ b1).mono ?_;rintro e w1 ⟨rfl,hb⟩;have hB:=zaa b1 hb;have hk:=zab hb b4;have b:w1.cell? ⟨w.heap.size+1+1,0,none⟩=some (.slice none 0 0):=hk.cell 0;have hf1:=hk.frozen 0;have HG:Hid (zgk w 0 false (.returned (.tuple #[.agg #[.slice none 0 0],.bool false])) (w1.setCell ⟨w.heap.size+1+1,0,none⟩ (.slice none 0 0))):=⟨_,_,_,rfl,zgY _,zae _ (by show _<=w.heap.size+1+1;omega) hB,zeM.none_ _⟩;clear hB hk hb b1 b4;go_wp2;refine bodyPost_ret (v:=.tuple #[.agg #[.slice none 0 0],.bool false]) (by simp [results,results218,go_sem,b]) rfl ?_;exact HG.out
theorem zpG (x y:Nat)(A D:oA9)(n m c d:Nat)(w:World)(hA:zad w x A n c)(hD:zad w y D m d)(hn:n<=549755813888)(hm:m<=549755813888)(B:y<=x):
  Calls prog 218 #[.agg #[.slice A n c],.agg #[.slice D m d]] w (zgk w (x - y) true):=by
 obtain⟨i0,af,an,ao,ap⟩:=info_parts zgD;have aj:=lh9 hA.len;have HA:=up9 w (λw' hb=>hA.below hb);have HD:=up9 w (λw' hb=>hD.below hb);have S:=lh9 B;have t:=cmpI_ge B;have CC:=(λw' (hb:Below w.heap.size w w')=>zfo x y A D n m c d w' (hA.below hb) (hD.below hb) om9 om9);obtain⟨z,hz⟩:∃z,zcG x y=z:=⟨_,rfl⟩;rw [hz] at CC t;have HC:=lh9 CC;have hzl:¬ z<0:=om9;have hzd:decide (z<0)=false:=by simpa using t
 obtain⟨Z,hZ⟩:∃Z,madeCells (Value.cells (.int .u64 0)) (n*i0.size)=Z:=⟨_,rfl⟩;have HZ:Hid (Z.size=n):=by show _=_;rw [<-hZ,size_madeCells,ao,Nat.mul_one]
 have ak:∀W:World,(Instr.makeSlice 35 (.int .i64 (n:Int)) (.int .i64 (n:Int))).run prog W=.ok (.slice (some ⟨W.heap.size,0,none⟩) n n) (W.alloc (.cells Z 160)):=λW=>by
  rw [<-hZ];exact zbf _ _ i0 _ underlying35 af an _ _ n n (Nat.le_refl _) (by rw [ap];omega) om9 W
 clear hZ hA hD B CC hz;go_enter func218,ntmps218;go_wp2_with fail;generalize hW:((w.alloc (.cells #[.slice A n c] 37)).alloc (.cells #[.slice D m d] 37)).alloc (.cells #[.slice none 0 0] 37)=W0;obtain⟨b1,b2,b3,b4,b5⟩:=zbT w 37 37 37 #[.slice A n c] #[.slice D m d] #[.slice none 0 0];rw [hW] at b1 b2 b3 b4 b5;have g1:W0.cell? ⟨w.heap.size,0,none⟩=some (.slice A n c):=b2.cell 0;have g2:W0.cell? ⟨w.heap.size+1,0,none⟩=some (.slice D m d):=b3.cell 0;clear hW b2 b3;refine(HC.out _ b1).mono ?_;rintro e w1 ⟨rfl,hb⟩;have hB:=zaa b1 hb;have hk:=zab hb b4;have g3:=zac hb g1;have g4:=zac hb g2;have al:=hb.size;clear hb g1 g2 b1 b4;go_wp2_with fail;refine(zbS x _ _ _ _).mono ?_;rintro e w2 ⟨rfl,hb⟩;have hB:=zaa hB hb;have hk:=zab hb hk;have g1:=zac hb g3;have g2:=zac hb g4;have am:=hb.size;have hgs:w.heap.size+3<=w2.heap.size:=om9;clear hb g3 g4 al am b5;go_wp2_with fail;have H:=Blk.new w2 160 Z;have hB:=zaj (.cells Z 160) hB;have hk:=hk.alloc (.cells Z 160);have g1:=zam (.cells Z 160) g1;have g2:=zam (.cells Z 160) g2;generalize w2.alloc (.cells Z 160)=W1 at*;generalize w2.heap.size=gs at*;clear ak
 go_loopg [7,8,19] (n + 1) (fun g v _ i wr => ∃ (k cc : Nat) (cs : Array Value) (out : List Nat),k ≤ n ∧ n < g + k ∧ i = .int .i64 k ∧ v = .int .u64 cc ∧ SubB x y k out cc ∧ cs.size = n ∧ cs.toList.take k = zaF .u64 out ∧ Blk wr gs 160 cs ∧
   Below w.heap.size w wr/\wr.cell? ⟨w.heap.size,0,none⟩=some (.slice A n c)/\wr.cell? ⟨w.heap.size+1,0,none⟩=some (.slice D m d)/\Blk wr (w.heap.size+1+1) 37 #[.slice none 0 0])
 case atStart=>exact⟨0,0,Z,[],om9,om9,rfl,rfl,SubB.start x y,HZ.out,rfl,H,hB,g1,g2,hk⟩
 case round=>
  clear hB g1 g2 hk H;obtain⟨k,cc,cs,out,hk,hg,rfl,rfl,f,hsz,s,l,hB,g1,g2,j⟩:=hrel;have ae:=f.lack;by_cases hlt:k<n
  ·have r:=λd c'=>f.step (d:=d) (c':=c');have I:=zcs x k;have J:=zcs y k;have F:=(HA.out wr hB).1;obtain⟨ad,rfl,K,hx⟩:=zdy F hlt;have hadw:ad.block<w.heap.size:=by
    obtain⟨ad',e,aa,_⟩:=(HA.out w (Below.refl _ _)).1.2 om9;cases e;exact aa
   rw [zeK] at hx;have WY:=up9 w (λw' h=>zdL y D m d k w' (HD.out w' h));obtain⟨a,ha⟩:∃a,wd x k=a:=⟨_,rfl⟩;obtain⟨b,hb⟩:∃a,wd y k=a:=⟨_,rfl⟩;rw [ha] at hx I r;rw [hb] at WY J r;obtain⟨s1,s2,e1,e2,e3,e4,e5⟩:=zlV I J ae;have WA:∀w',Calls prog 231 #[.int .u64 a,.int .u64 b,.int .u64 cc] w' λe R=>e=.returned (.tuple #[.int .u64 (s1:Int),.int .u64 (s2:Int)])/\w'=R:=λw'=>by
    rw [<-e1,<-e2];exact znJ a b cc ⟨om9,om9⟩ ⟨om9,om9⟩ ⟨om9,om9⟩ w'
   have U:=lh9 (r s1 s2 e3 e4 e5);have C:=lh9 hsz;have V:=lh9 s;have X:=lh9 WA;obtain⟨u,hu⟩:∃u,cs[k]?=some u:=⟨cs[k]' om9,Array.getElem?_eq_getElem om9⟩;have HU:=lh9 hu;clear WA r ha hb e1 e2 e3 e4 e5 f s hu hsz F K;have i1:(0:Int)<=(k:Int):=om9;have i2:(k:Int)<(n:Int):=om9;go_wp2_with fail;have M:=hB.drew;have N:=j.drew;have ab:=l.drew;have Q:wr.drew.cell? (ad.add k)=some (.int .u64 a):=hx
   go_region_held3 (fun w' => Below w.heap.size w w' ∧ w'.cell? ⟨w.heap.size,0,none⟩ = some (.slice (some ad) n c) ∧ w'.cell? ⟨w.heap.size + 1,0,none⟩ = some (.slice D m d) ∧ Blk w' (w.heap.size + 1 + 1) 37 #[.slice none 0 0] ∧ w'.cell? (ad.add k) = some (.int .u64 a))
    (first|(exact⟨M,g1,g2,N,Q⟩)|(go_split_ands;(repeat' apply And.intro);all_goals (first|exact as9|exact zaa as9 hb|exact zac hb as9|exact zab hb as9|exact zaj _ as9|exact zam _ as9|exact Blk.alloc as9 _|exact zae _ (by simp;omega) as9|exact zag _ (by simp;omega) as9|exact zag _ (by rw [zah];simp;omega) as9|exact Blk.far as9 (by simp;omega) _)))
    (first
      |(go_at_call 164;with_reducible refine(WY.out _ (by first|exact as9|exact And.left as9)).mono ?_;rintro e w' ⟨rfl,hb⟩;have o:Blk w' gs 160 cs:=zab hb as9;have q1:=(o.cell k).trans HU.out;have q2:=o.frozen k)
      |(go_at_call 231;with_reducible refine(X.out _).mono ?_;rintro e R ⟨rfl,rfl⟩))
   rename_i hH
   obtain⟨Y,g3,g4,ag,_⟩:=hH;have ah:=o.set_ k (.int .u64 s1);clear hb o q1 q2 M N ab hB g1 g2 j l hx Q;go_wp2;go_roundg (n - k)
   case measure=>omega
   case rel=>exact⟨k+1,s2,_,_,om9,om9,by go_num,rfl,U.out,by simpa using C.out,by rw [zjT _ _ _ (by have:=C.out;omega),V.out,zfa],ah,Y,g3,g4,ag⟩
  ·have ai:k=n:=om9;subst ai;have e:=f.done S.out (by have:=aj.out;omega);have O:out.length=k:=f.len;have T:=zfT (some ⟨gs,0,none⟩) k k wr.heap.size out wr (zea l hsz s O) f.dgs (Nat.le_refl _) om9 om9;rw [e] at T;have HT:=lh9 T;have ac:wr.cell? ⟨w.heap.size+1+1,0,none⟩=some (.slice none 0 0):=j.cell 0;have hf1:=j.frozen 0;clear T l hsz s f e O j g1 g2;go_wp2_with fail;refine HT.out.mono ?_;rintro e w2 ⟨A1,c1,rfl,P,h1,h2,E,rfl⟩;have G:=zgy hB (p:=w.heap.size+1+1) (gs:=gs) om9 om9 P h1 h2 E om9 (.slice A1 (dg 18446744073709551616 (x - y)).length c1);have HG:Hid (zgk w (x - y) true (.returned (.tuple #[.agg #[.slice A1 (dg 18446744073709551616 (x - y)).length c1],.bool true])) (wr.setCell ⟨w.heap.size+1+1,0,none⟩ (.slice A1 (dg 18446744073709551616 (x - y)).length c1))):=⟨_,_,_,rfl,G.2.1,G.1,G.2.2⟩;clear G P h1 h2 E;obtain⟨L,hL⟩:∃L,(dg 18446744073709551616 (x - y)).length=L:=⟨_,rfl⟩;rw [hL] at HG⊢;clear hL;go_wp2;refine bodyPost_ret (v:=.tuple #[.agg #[.slice A1 L c1],.bool true]) (by simp [results,results218,go_sem,ac]) rfl ?_;exact HG.out
