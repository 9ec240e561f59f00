/- What this claim leans on. -/
import Derived.Test.YtielpgdebeggbaaGreatDoorMBun7
import Derived.Deep.Matrix
import Derived.Laws.Concat
set_option linter.unusedVariables false
set_option linter.unusedSimpArgs false
namespace Go.Proofs.YtielpgdebeggbaaGreatDoor
open Go Go.RowKit Go.Proofs.Tryz
open Go.ChangeShapes Go.WideShapes Go.ChangeAt Go.Deep
set_option maxHeartbeats 16000000
namespace UA
set_option maxHeartbeats 16000000
theorem mem_le {H:Type}{d:DataW H}{l:List (DataW H)}(h:d ∈ l):Rows.uptoBulk d<=Rows.uptoBulkAll l:=by
 induction l with
 |nil=>cases h
 |cons x r ih=>
   simp only [Rows.uptoBulkAll];rcases List.mem_cons.1 h with rfl|h
   ·omega
   ·have:=ih h;omega
end UA
open Go Go.RowKit Go.Proofs.Tryz
set_option maxHeartbeats 16000000
variable {b:Bool}{p z:Int}{xs ys:List Rat}{K K' L c k m n t x:Nat}{y:Rat}{w w':World}{A:ze}
def sW (w:World)(q r:Nat)(b:Bool)(e:Ending)(w':World):Prop:=∃(A:ze) (n c:Nat) (B:ze) (m d:Nat),e=.returned (.tuple #[.agg #[.slice A n c],.agg #[.slice B m d],.bool b])/\zq w' q A n c/\zq w' r B m d/\Below w.heap.size w w'
def ie (w:World)(x:Nat)(b:Bool)(e:Ending)(w':World):Prop:=∃(A:ze) (n c:Nat),e=.returned (.tuple #[.agg #[.slice A n c],.bool b])/\zq w' x A n c/\Below w.heap.size w w'
def eS (w:World)(q x:Nat)(b:Bool)(e:Ending)(w':World):Prop:=∃(A:ze) (n c:Nat),e=.returned (.tuple #[.agg #[.slice A n c],.int .u64 (x:Int),.bool b])/\zq w' q A n c/\Below w.heap.size w w'
structure gP:Prop where
 divMod:∀(x y:Nat) (A D:ze) (n m c d:Nat) (w:World),zq w x A n c->zq w y D m d->n<=1073741824->m<=1073741824->y≠0->Calls prog 141 #[.agg #[.slice A n c],.agg #[.slice D m d]] w (sW w (x / y) (x%y) true)
 divModNo:∀(x y:Nat) (A D:ze) (n m c d:Nat) (w:World),zq w x A n c->zq w y D m d->n<=1073741824->m<=1073741824->y=0->Calls prog 141 #[.agg #[.slice A n c],.agg #[.slice D m d]] w (sW w 0 0 false)
 div:∀(x y:Nat) (A D:ze) (n m c d:Nat) (w:World),zq w x A n c->zq w y D m d->n<=1073741824->m<=1073741824->y≠0->Calls prog 125 #[.agg #[.slice A n c],.agg #[.slice D m d]] w (ie w (x / y) true)
 mod:∀(x y:Nat) (A D:ze) (n m c d:Nat) (w:World),zq w x A n c->zq w y D m d->n<=1073741824->m<=1073741824->y≠0->Calls prog 147 #[.agg #[.slice A n c],.agg #[.slice D m d]] w (ie w (x%y) true)
 byWord:∀(x a:Nat) (A:ze) (n c:Nat) (w:World),zq w x A n c->n<=1073741824->a<18446744073709551616->a≠0->Calls prog 151 #[.agg #[.slice A n c],.int .u64 a] w (eS w (x / a) (x%a) true)
 byWordNo:∀(x:Nat) (A:ze) (n c:Nat) (w:World),zq w x A n c->n<=1073741824->Calls prog 151 #[.agg #[.slice A n c],.int .u64 0] w (eS w 0 0 false)
open Go Go.RowKit Go.Proofs.Tryz
set_option maxHeartbeats 16000000
def sM (p q:Int):Rat:=Rat.divInt p (if q=0 then 1 else q)
theorem pS (p:Int):sM p 0=(p:Rat):=by
 unfold sM;rw [if_pos rfl];exact Rat.ext (by rw [Rat.num_divInt,YZ];simp) (by rw [Rat.den_divInt,YJ];simp)
theorem jr {q:Int}(h:q≠0):sM p q=Rat.divInt p q:=by unfold sM;rw [if_neg h]
theorem bM (h1: -9223372036854775808<=z)(h2:z<=9223372036854775807):Sz 1 z.natAbs:=by
 show z.natAbs<18446744073709551616^1;rw [Nat.pow_one];omega
theorem pR {q:Int}(a: -9223372036854775808<=p)(d:p<=9223372036854775807)(g: -9223372036854775808<=q)(h:q<=9223372036854775807):zn 1 (sM p q):=by
 unfold sM;refine zn.made (bM a d) ?_ zf
 split
 ·exact bM zf zf
 ·exact bM g h
def uU (rs:List Rat):Rat:=rs.foldl (λa b=>a+b) 0
theorem PE (rs:List Rat)(a:Rat):rs.foldl (λa b=>a+b) a=a+uU rs:=by
 unfold uU
 induction rs generalizing a with
 |nil=>exact(xY a).symm
 |cons r t ih=>
   rw [List.foldl_cons,List.foldl_cons,ih (a+r),ih (0+r),YQ,Rat.add_assoc]
theorem VJ:uU []=0:=rfl
theorem ZC (r:Rat)(rs:List Rat):uU (r::rs)=r+uU rs:=by
 show(r::rs).foldl (λa b=>a+b) 0=_;rw [List.foldl_cons,PE,YQ]
def uX (xs ys:List Rat):Rat:=uU (List.zipWith (λa b=>a*b) xs ys)
def aR (xs ys:List Rat):List Rat:=List.zipWith (λa b=>a+b) xs ys
def Zc (xs ys:List Rat):List Rat:=List.zipWith (λa b=>a - b) xs ys
def fw (xs ys:List Rat):List Rat:=List.zipWith (λa b=>a*b) xs ys
def vV (xs:List Rat)(r:Rat)(ys:List Rat):List Rat:=List.zipWith (λa b=>a+r*b) xs ys
def zL (r:Rat)(xs:List Rat):List Rat:=xs.map λx=>r*x
theorem TT {f:Rat->Rat->Rat}(h:xs.length=n)(k:ys.length=n):(List.zipWith f xs ys).length=n:=by rw [jY,h,k,Nat.min_self]
def vX:List Rat->List Rat->Int
 |[],[]=>0
 |[],_::_=> -1
 |_::_,[]=>1
 |x::xs,y::ys=>if x=y then vX xs ys else uW x y
theorem nW {x:Rat}(h:x≠y):uW x y≠0:=λe=>h ((nV x y).1 e)
theorem Yv:∀(xs ys:List Rat),vX xs ys=0↔xs=ys
 |[],[]=>by simp [vX]
 |[],_::_=>by simp [vX]
 |_::_,[]=>by simp [vX]
 |x::xs,y::ys=>by
   unfold vX;by_cases h:x=y
   ·rw [if_pos h,Yv xs ys,h];simp
   ·rw [if_neg h];constructor
    ·intro e;exact absurd e (nW h)
    ·intro e;injection e with e1 e2;exact absurd e1 h
theorem Po {x:Rat}(h:x=y):vX (x::xs) (y::ys)=vX xs ys:=by
 show(if x=y then vX xs ys else uW x y)=_;exact if_pos h
theorem Qf {x:Rat}(h:x≠y):vX (x::xs) (y::ys)=uW x y:=by
 show(if x=y then vX xs ys else uW x y)=_;exact if_neg h
theorem iN {xs:List Rat}(h:k<xs.length):xs.drop k=xs.getD k 0::xs.drop (k+1):=by
 rw [yS h,qQ,qY h];rfl
theorem T9 (hx:k<xs.length)(hy:k<ys.length)(h:xs.getD k 0=ys.getD k 0):vX (xs.drop k) (ys.drop k)=vX (xs.drop (k+1)) (ys.drop (k+1)):=by
 rw [iN hx,iN hy,Po h]
theorem Sa (hx:k<xs.length)(hy:k<ys.length)(h:xs.getD k 0≠ys.getD k 0):vX (xs.drop k) (ys.drop k)=uW (xs.getD k 0) (ys.getD k 0):=by
 rw [iN hx,iN hy,Qf h]
def r9 (a b:Nat):Int:=if a<b then -1 else if a=b then 0 else 1
theorem qa (hk:k=min xs.length ys.length):vX (xs.drop k) (ys.drop k)=r9 xs.length ys.length:=by
 unfold r9;by_cases h1:xs.length<ys.length
 ·rw [if_pos h1,xE za,iN (xs:=ys) za];rfl
 ·rw [if_neg h1];by_cases h2:xs.length=ys.length
  ·rw [if_pos h2,xE za,xE za];rfl
  ·rw [if_neg h2,xE (l:=ys) za,iN (xs:=xs) za];rfl
def zD (K:Nat)(xs:List Rat):Prop:=∀x ∈ xs,zn K x
theorem zD.at_ (h:zD K xs){k:Nat}(hk:k<xs.length):zn K (xs.getD k 0):=by
 rw [qQ,qY hk];exact h _ (xU hk)
theorem zD.up (h:zD K xs)(e:K<=K'):zD K' xs:=λx hx=>(h x hx).up e
theorem zD.zip {K K' L:Nat}{f:Rat->Rat->Rat}(hf:∀x y,zn K x->zn K' y->zn L (f x y)):∀{xs ys:List Rat},zD K xs->zD K' ys->zD L (List.zipWith f xs ys)
 |[],_,_,_=>λx hx=>by cases hx
 |_::_,[],_,_=>λx hx=>by cases hx
 |x::xs,y::ys,h,k=>λz hz=>by
   rw [List.zipWith_cons_cons] at hz;rcases List.mem_cons.1 hz with rfl|hz
   ·exact hf x y (h x xT) (k y xT)
   ·exact zD.zip hf (λa ha=>h a (XC _ ha)) (λa ha=>k a (XC _ ha)) z hz
theorem zD.add (h:zD K xs)(k:zD K' ys):zD (K+K'+1) (aR xs ys):=zD.zip (λ_ _=>zn.add) h k
theorem zD.sub (h:zD K xs)(k:zD K' ys):zD (K+K'+1) (Zc xs ys):=zD.zip (λ_ _=>zn.sub) h k
theorem zD.mul (h:zD K xs)(k:zD K' ys):zD (K+K') (fw xs ys):=zD.zip (λ_ _=>zn.mul) h k
theorem zD.addT {r:Rat}(h:zD K xs)(hr:zn L r)(k:zD K' ys):zD (K+(L+K')+1) (vV xs r ys):=zD.zip (λ_ _ a b=>a.add (hr.mul b)) h k
theorem zD.scale {r:Rat}(hr:zn L r)(h:zD K xs):zD (L+K) (zL r xs):=λx hx=>by
 obtain⟨y,hy,rfl⟩:=List.mem_map.1 hx;exact hr.mul (h y hy)
theorem Xg {K:Nat}:∀{xs:List Rat},zD K xs->zn (1+xs.length*(K+1)) (uU xs)
 |[],_=>by rw [YM,Nat.zero_mul];exact zn.zero
 |x::xs,h=>by
   rw [ZC];exact((h x xT).add (Xg λa ha=>h a (XC _ ha))).up (by rw [xK,Nat.succ_mul];omega)
theorem lv (h:zD K xs)(hl:xs.length=n)(k:Nat)(hk:k<=n):zn (1+n*(K+1)) (uU (xs.take k)):=by
 have h1:=Xg (xs:=xs.take k) (K:=K) (λa ha=>h a (XX ha));refine h1.up ?_;rw [qE];have:min k xs.length*(K+1)<=n*(K+1):=qS _ za;omega
theorem Xd {n:Nat}(hx:xs.length=n)(hy:ys.length=n)(h:zD K xs)(k:zD K' ys):zn (1+n*(K+K'+1)) (uX xs ys):=by
 have:=Xg (zD.mul h k);rw [show(fw xs ys).length=n from TT hx hy] at this;exact this
theorem tV {r:Rat}(hx:xs.length=n):(zL r xs).length=n:=by unfold zL;rw [QH];exact hx
open Go Go.RowKit Go.Proofs.Tryz
set_option maxHeartbeats 16000000
set_option maxRecDepth 100000
theorem fS (x:Nat)(A:ze)(n c:Nat)(w:World)(hA:zq w x A n c)(hn:n<=1):
  Calls prog 112 #[.agg #[.slice A n c]] w λe w'=>e=.returned (.tuple #[.int .u64 (wd x 0:Nat),.bool true])/\Below w.heap.size w w':=by
 have WX:=(λw' (h:Below w.heap.size w w')=>kv x A n c 0 w' (hA.below h));obtain⟨a,ha⟩:∃a,wd x 0=a:=⟨_,rfl⟩;rw [ha] at WX⊢;have d:=zb WX;have h1:decide ((1:Int)<(n:Int))=false:=by simp;omega
 have h2:decide ((n:Int)>1)=false:=by simp;omega
 have h3:¬ 1<n:=za;clear WX ha hA;go_enter func112,ntmps112;go_wp2_with fail;obtain⟨b1,b2,b5⟩:=zA w 48 #[.slice A n c];refine(d.o _ b1).mono ?_;rintro e w1 ⟨rfl,hb⟩;have hB:=zc b1 hb;clear hb b1 b2 b5;go_wp2
 go_ret2
 exact⟨rfl,hB⟩
theorem fP (A:ze)(n c:Nat)(w:World)(hn:1<n):
  Calls prog 112 #[.agg #[.slice A n c]] w λe w'=>e=.returned (.tuple #[.int .u64 0,.bool false])/\Below w.heap.size w w':=by
 go_enter func112,ntmps112;go_wp2
 go_ret2
 exact⟨rfl,(qZ _ w).alloc (qX _) _⟩
def TW (x t:Nat):Prop:=(x=0/\t=0)\/∃m,x=2^t*(2*m+1)
def wA (x:Nat):Nat:=if x=0 then 0 else Lib.ctzFrom x x
theorem aM (h:x=2^t*(2*m+1)):x / 2^t%2=1:=by
 rw [h,XS _ (xA t)];omega
theorem oD {j:Nat}(h:x=2^t*(2*m+1))(hj:j<t):x / 2^j%2=0:=by
 obtain⟨s,rfl⟩:∃s,t=j+(s+1):=⟨t - j - 1,za⟩;rw [h,xW,qL,XS _ (xA j),QD,QK (2^s) 2,qL];exact Nat.mul_mod_right _ _
theorem oE (h:x=2^t*(2*m+1)):x≠0:=by
 have:=xA t;rw [h];exact Nat.ne_of_gt (Nat.mul_pos this za)
theorem su (x:Nat):TW x (wA x):=by
 unfold TW wA;by_cases h:x=0
 ·exact .inl ⟨h,by rw [if_pos h]⟩
 ·rw [if_neg h];obtain⟨m,hm,_⟩:=Lib.ctzFrom_spec x x za Nat.lt_two_pow_self;exact .inr ⟨m,hm⟩
theorem lB (a:∀j,j<t->x / 2^j%2=0)(hx:x=0->t=0)(h1:x≠0->x / 2^t%2=1):t=wA x:=by
 rcases su x with⟨e,h⟩|⟨m,h⟩
 ·rw [hx e,h]
 ·have h0:=oE h;rcases XV t (wA x) with hl|hl|hl
  ·have:=oD h hl;rw [h1 h0] at this;omega
  ·exact hl
  ·have:=aM h;rw [a _ hl] at this;omega
theorem fM {m:Nat}(h:x=2^t*(2*m+1)):t=wA x:=
 lB (λj hj=>oD h hj) (λe=>absurd e (oE h)) (λ_=>aM h)
theorem TP (h0:x%18446744073709551616^k=0)(hw:wd x k≠0):64*k+Lib.ctz 64 (wd x k)=wA x:=by
 have a:=wU x k;obtain⟨m,hm,hc⟩:=Lib.ctzFrom_spec 64 (wd x k) za (by simpa using a);have ec:Lib.ctz 64 (wd x k)=Lib.ctzFrom 64 (wd x k):=by unfold Lib.ctz;rw [if_neg hw]
 rw [ec];generalize Lib.ctzFrom 64 (wd x k)=c at*;obtain⟨s,hs⟩:∃s,64=c+(s+1):=⟨63 - c,za⟩;obtain⟨q,hq⟩:∃q,x / 18446744073709551616^k / 18446744073709551616=q:=⟨_,rfl⟩;have e1:x / 18446744073709551616^k=18446744073709551616*q+wd x k:=by rw [<-hq];exact(yY _ _).symm
 have e2:x=18446744073709551616^k*(x / 18446744073709551616^k):=by
  have:=yY x (18446744073709551616^k);rw [h0] at this;omega
 have e3:(18446744073709551616:Nat)=2^c*(2*2^s):=by
  rw [show(18446744073709551616:Nat)=2^64 from rfl,hs,xW,QD,QK (2^s) 2]
 refine fM (m:=2^s*q+m) ?_;have e4:(18446744073709551616:Nat)^k=2^(64*k):=by rw [show(18446744073709551616:Nat)=2^64 from rfl,<-jK]
 have e5:18446744073709551616*q+wd x k=2^c*(2*(2^s*q+m)+1):=by
  rw [hm]
  conv=>lhs;rw [e3]
  rw [qL,<-QQ,QQ 2,qL,xC]
 rw [e2,e1,e5,e4,<-qL,<-xW]
theorem Yh (x:Nat)(A:ze)(n c:Nat)(w:World)(hA:zq w x A n c)(hn:n<=1099511627776)(hT:zu w):
  Calls prog 140 #[.agg #[.slice A n c]] w λe w'=>e=.returned (.int .i64 (wA x:Nat))/\Below w.heap.size w w':=by
 have u:=zb hA.len;have hr:=hA.1;have HT:=zb (λo=>hT.on ((qZ _ w).alloc (qX _) o));have g:∀o,zd (zN (w.alloc o) w.heap.size 1 A n (zH .u64 (dg 18446744073709551616 x))):=λo=>hr.alloc (qX _) o;have HC:=zb g;clear hA hT g hr;go_enter func140,ntmps140;go_wp2_with fail
 go_loop [3,4,8] (λ_ _ ix=>∃k:Nat,k<=n/\ix=.int .i64 k/\zd (x%18446744073709551616^k=0)) (λ_ _ ix=>n - (intOf ix).toNat)
 case atStart=>exact⟨0,qM _,rfl,by show _=_;simp [XZ]⟩
 case round=>
  obtain⟨k,hk,rfl,H⟩:=hrel;by_cases hlt:k<n
  ·obtain⟨ad,rfl,hadb,d⟩:=sy (HC.o (.cells #[.slice A n c] 48)).o hlt;rw [nD] at d;by_cases hz:wd x k=0
   ·have HN:zd (x%18446744073709551616^(k+1)=0):=by
     show _=_;rw [ue 18446744073709551616 x k,H.o,xH];unfold wd at hz;rw [hz,yT]
    rw [hz] at d;clear hz;go_wp2
    go_round
    case rel=>exact⟨k+1,za,by go_num,HN⟩
    case measure=>simp [intOf];omega
   ·have HV:=zb (TP H.o hz);have i:=wU x k;have WT:=(λw' (h:zu w')=>Qq ((wd x k:Nat):Int) ⟨za,za⟩ w' h);have m:=kV (wd x k) (by simpa using i);have et:il ((wd x k:Nat):Int)=((Lib.ctz 64 (wd x k):Nat):Int):=by unfold il;simp
    rw [et] at WT;obtain⟨t,ht⟩:∃t,Lib.ctz 64 (wd x k)=t:=⟨_,rfl⟩;rw [ht] at WT HV m;obtain⟨a,ha⟩:∃a,wd x k=a:=⟨_,rfl⟩;rw [ha] at d WT hz;have j:=zb WT;have hz':((a:Int)==0)=false:=beq_eq_false_iff_ne.2 za;have hz2:((a:Int) !=0)=true:=by simp;omega
    clear WT ht ha et hz i;go_wp2_with fail;refine(j.o _ (HT.o _)).mono ?_;rintro e w' ⟨rfl,rfl⟩;go_wp2;go_ret;refine⟨lh ?_,(qZ _ w).alloc (qX _) _⟩;have:=HV.o;omega
  ·have s:k=n:=za;subst s;have HX:zd (wA x=0):=by
    show _=_;have h1:=ww (b:=18446744073709551616) zf x;rw [u.o] at h1;have h2:=H.o;rw [qC h1] at h2;rw [h2];rfl
   go_wp2;go_ret;exact⟨by rw [HX.o];rfl,(qZ _ w).alloc (qX _) _⟩
open Go Go.RowKit Go.Proofs.Tryz
set_option maxHeartbeats 16000000
def oR (w:World)(x:Nat)(e:Ending)(w':World):Prop:=∃(A:ze) (n c:Nat),e=.returned (.agg #[.slice A n c])/\zq w' x A n c/\Below w.heap.size w w'
def Yr (w:World)(x y:Nat)(e:Ending)(w':World):Prop:=∃(A:ze) (n c:Nat) (B:ze) (m d:Nat),e=.returned (.tuple #[.agg #[.slice A n c],.agg #[.slice B m d]])/\zq w' x A n c/\zq w' y B m d/\Below w.heap.size w w'
theorem Sz.gcd {y:Nat}(h:Sz K x)(h':Sz K' y):Sz (K+K') (Nat.gcd x y):=by
 rcases QW x with e|e
 ·rw [e,YY];exact h'.up za
 ·exact(h.of_le (Nat.gcd_le_left y e)).up za
structure aQ:Prop where
 of:∀(x y:Nat) (A D:ze) (n m c d:Nat) (w:World),zq w x A n c->zq w y D m d->n<=1073741824->m<=1073741824->zu w->Calls prog 124 #[.agg #[.slice A n c],.agg #[.slice D m d]] w (oR w (Nat.gcd x y))
 reduce:∀(x y:Nat) (A D:ze) (n m c d:Nat) (w:World),zq w x A n c->zq w y D m d->n<=1073741824->m<=1073741824->zu w->Calls prog 95 #[.agg #[.slice A n c],.agg #[.slice D m d]] w (Yr w (x / Nat.gcd x y) (y / Nat.gcd x y))
open Go Go.RowKit Go.Proofs.Tryz
set_option maxHeartbeats 16000000
set_option maxRecDepth 100000
open Go Go.RowKit Go.Proofs.Tryz
set_option maxHeartbeats 16000000
set_option maxRecDepth 100000
open Go Go.RowKit Go.Proofs.Tryz
set_option maxHeartbeats 16000000
theorem vy {T:World->Prop}:kM T where
 new s x A n c w _ hA hn:=SY s x A n c w hA za
 of z w _ h1 h2:=RJ z w h1 h2
 belowI z b A n c w _ hA hn:=Sl z b A n c w hA
 abs z b A n c w _ hA hn:=(SU z b A n c w hA za).mono λ_ _ ⟨A',n',c',he,hw,hb,_⟩=>⟨A',n',c',he,hw,hb⟩
 sign z b A n c w _ hA hn:=SO z b A n c w hA
 cmp x y b b' A D n m c d w _ hA hD hn hm:=SW x y b b' A D n m c d w hA hD za za
 add x y b b' A D n m c d w _ hA hD hn hm:=SV x y b b' A D n m c d w hA hD za za
 mul x y b b' A D n m c d w _ hA hD hn hm:=SX x y b b' A D n m c d w hA hD za za
open Go Go.RowKit Go.Proofs.Tryz
set_option maxHeartbeats 16000000
set_option maxRecDepth 100000
open Go Go.RowKit Go.Proofs.Tryz
set_option maxHeartbeats 16000000
set_option maxRecDepth 100000
def tE (b x y:Nat)(D:List Nat):Prop:=D++dg b y=dg b x
theorem tE.step {b y:Nat}{D:List Nat}(h:tE b x y D)(hb:2<=b)(hy:y≠0):tE b x (y / b) (D++[y%b]):=by
 unfold tE at h⊢;rw [<-h,gu hb hy,xQ];rfl
open Go Go.RowKit Go.Proofs.Tryz
set_option maxHeartbeats 16000000
set_option maxRecDepth 100000
open Go Go.RowKit Go.Proofs.Tryz
set_option maxHeartbeats 16000000
set_option maxRecDepth 100000
open Go Go.RowKit Go.Proofs.Tryz
set_option maxHeartbeats 16000000
set_option maxRecDepth 100000
theorem aS {q:Nat}(h:q%2≠0):Nat.gcd 2 q=1:=by
 have h1:Nat.gcd 2 q ∣ 2:=yU 2 q;have h2:=Nat.le_of_dvd zf h1;have h3:Nat.gcd 2 q≠0:=λe=>by rw [e] at h1;exact absurd (Nat.eq_zero_of_zero_dvd h1) zf
 have h4:Nat.gcd 2 q≠2:=λe=>h (Nat.mod_eq_zero_of_dvd (by rw [<-e];exact XT 2 q));omega
theorem ZG {p q:Nat}(hp:p%2=0)(hq:q%2≠0):Nat.gcd (p / 2) q=Nat.gcd p q:=by
 have e:p=2*(p / 2):=za;have h:Nat.Coprime 2 q:=aS hq;rw [show Nat.gcd p q=Nat.gcd (2*(p / 2)) q from by rw [<-e]];exact(h.gcd_mul_left_cancel (p / 2)).symm
theorem qt {p q:Nat}(h:q<=p):Nat.gcd (p - q) q=Nat.gcd p q:=by
 obtain⟨s,rfl⟩:∃s,p=q+s:=⟨p - q,za⟩;rw [yK,Nat.gcd_self_add_left]
open Go Go.RowKit Go.Proofs.Tryz
set_option maxHeartbeats 16000000
set_option maxRecDepth 100000
def tI (w:World)(z:Int)(b:Bool)(A:ze)(n c:Nat):Prop:=b=decide (z<0)/\nB w z.natAbs A n c
theorem tI.below (h:tI w z b A n c)(hb:Below w.heap.size w w'):tI w' z b A n c:=⟨h.1,h.2.below hb⟩
open Go Go.RowKit Go.Proofs.Tryz
set_option maxHeartbeats 16000000
set_option maxRecDepth 100000
def ul (w:World)(r:Rat)(b:Bool)(A:ze)(n c:Nat)(E:ze)(k f:Nat):Prop:=tI w r.num b A n c/\nB w r.den E k f
theorem ul.below {r:Rat}{E:ze}{f:Nat}(h:ul w r b A n c E k f)(hb:Below w.heap.size w w'):ul w' r b A n c E k f:=⟨h.1.below hb,h.2.below hb⟩
def nL (w:World)(r:Rat)(e:Ending)(w':World):Prop:=∃(b:Bool) (A:ze) (n c:Nat) (E:ze) (k f:Nat),e=.returned (.agg #[.bool b,.slice A n c,.slice E k f])/\ul w' r b A n c E k f/\Below w.heap.size w w'
def Uw (w:World)(r:Rat)(e:Ending)(w':World):Prop:=∃(b:Bool) (A:ze) (n c:Nat) (E:ze) (k f:Nat),e=.returned (.agg #[.bool b,.slice A n c,.slice E k f])/\ul w' r b A n c E k f/\Fr w A/\Fr w E/\Below w.heap.size w w'
theorem Uw.old {r:Rat}{e:Ending}(h:Uw w r e w'):nL w r e w':=by
 obtain⟨b,A,n,c,E,k,f,h1,h2,-,-,h3⟩:=h;exact⟨b,A,n,c,E,k,f,h1,h2,h3⟩
