/- What this claim leans on. -/
import Derived.Test.YtipmllfnpldbdaaGreatDoorFBun7
import Derived.Laws.Concat
import Derived.Laws.CopyRow
set_option linter.unusedVariables false
set_option linter.unusedSimpArgs false
namespace Go.Proofs.YtipmllfnpldbdaaGreatDoor
open Go Go.RowKit Go.Proofs.Tryz
set_option maxHeartbeats 16000000
variable {args:Array Value}{b:Bool}{f:FuncId}{z:Int}{c k m n t x:Nat}{w w':World}{A:zf}
def uz (w:World)(q r:Nat)(b:Bool)(e:Ending)(w':World):Prop:=∃(A:zf) (n c:Nat) (B:zf) (m d:Nat),e=.returned (.tuple #[.agg #[.slice A n c],.agg #[.slice B m d],.bool b])/\zo w' q A n c/\zo w' r B m d/\Below w.heap.size w w'
def nD (w:World)(x:Nat)(b:Bool)(e:Ending)(w':World):Prop:=∃(A:zf) (n c:Nat),e=.returned (.tuple #[.agg #[.slice A n c],.bool b])/\zo w' x A n c/\Below w.heap.size w w'
def lQ (w:World)(q x:Nat)(b:Bool)(e:Ending)(w':World):Prop:=∃(A:zf) (n c:Nat),e=.returned (.tuple #[.agg #[.slice A n c],.int .u64 (x:Int),.bool b])/\zo w' q A n c/\Below w.heap.size w w'
structure mP:Prop where
 divMod:∀(x y:Nat) (A D:zf) (n m c d:Nat) (w:World),zo w x A n c->zo w y D m d->n<=1073741824->m<=1073741824->y≠0->Calls prog 130 #[.agg #[.slice A n c],.agg #[.slice D m d]] w (uz w (x / y) (x%y) true)
 divModNo:∀(x y:Nat) (A D:zf) (n m c d:Nat) (w:World),zo w x A n c->zo w y D m d->n<=1073741824->m<=1073741824->y=0->Calls prog 130 #[.agg #[.slice A n c],.agg #[.slice D m d]] w (uz w 0 0 false)
 div:∀(x y:Nat) (A D:zf) (n m c d:Nat) (w:World),zo w x A n c->zo w y D m d->n<=1073741824->m<=1073741824->y≠0->Calls prog 115 #[.agg #[.slice A n c],.agg #[.slice D m d]] w (nD w (x / y) true)
 mod:∀(x y:Nat) (A D:zf) (n m c d:Nat) (w:World),zo w x A n c->zo w y D m d->n<=1073741824->m<=1073741824->y≠0->Calls prog 136 #[.agg #[.slice A n c],.agg #[.slice D m d]] w (nD w (x%y) true)
 byWord:∀(x a:Nat) (A:zf) (n c:Nat) (w:World),zo w x A n c->n<=1073741824->a<18446744073709551616->a≠0->Calls prog 140 #[.agg #[.slice A n c],.int .u64 a] w (lQ w (x / a) (x%a) true)
 byWordNo:∀(x:Nat) (A:zf) (n c:Nat) (w:World),zo w x A n c->n<=1073741824->Calls prog 140 #[.agg #[.slice A n c],.int .u64 0] w (lQ w 0 0 false)
set_option maxRecDepth 100000
theorem lC (x:Nat)(A:zf)(n c:Nat)(w:World)(hA:zo w x A n c)(hn:n<=1):
  Calls prog 117 #[.agg #[.slice A n c]] w λe w'=>e=.returned (.tuple #[.int .u64 (wd x 0:Nat),.bool true])/\Below w.heap.size w w':=by
 have WX:=(λw' (h:Below w.heap.size w w')=>ow x A n c 0 w' (hA.below h));obtain⟨a,ha⟩:∃a,wd x 0=a:=⟨_,rfl⟩;rw [ha] at WX⊢;have d:=zd WX;have h1:decide ((1:Int)<(n:Int))=false:=by simp;omega
 have h2:decide ((n:Int)>1)=false:=by simp;omega
 have h3:¬ 1<n:=za;clear WX ha hA;go_enter func117,ntmps117;go_wp2_with fail;obtain⟨b1,b2,b5⟩:=zF w 56 #[.slice A n c];refine(d.o _ b1).mono ?_;rintro e w1 ⟨rfl,hb⟩;have hB:=ze b1 hb;clear hb b1 b2 b5;go_wp2
 go_ret2
 exact⟨rfl,hB⟩
theorem lA (A:zf)(n c:Nat)(w:World)(hn:1<n):
  Calls prog 117 #[.agg #[.slice A n c]] w λe w'=>e=.returned (.tuple #[.int .u64 0,.bool false])/\Below w.heap.size w w':=by
 go_enter func117,ntmps117;go_wp2
 go_ret2
 exact⟨rfl,(qY _ w).alloc (qX _) _⟩
def TW (x t:Nat):Prop:=(x=0/\t=0)\/∃m,x=2^t*(2*m+1)
def yz (x:Nat):Nat:=if x=0 then 0 else Lib.ctzFrom x x
theorem jn (h:x=2^t*(2*m+1)):x / 2^t%2=1:=by
 rw [h,xC _ (xY t)];omega
theorem sF {j:Nat}(h:x=2^t*(2*m+1))(hj:j<t):x / 2^j%2=0:=by
 obtain⟨s,rfl⟩:∃s,t=j+(s+1):=⟨t - j - 1,za⟩;rw [h,xU,qV,xC _ (xY j),qT,qE (2^s) 2,qV];exact Nat.mul_mod_right _ _
theorem sG (h:x=2^t*(2*m+1)):x≠0:=by
 have:=xY t;rw [h];exact Nat.ne_of_gt (Nat.mul_pos this za)
theorem uf (x:Nat):TW x (yz x):=by
 unfold TW yz;by_cases h:x=0
 ·exact .inl ⟨h,by rw [if_pos h]⟩
 ·rw [if_neg h];obtain⟨m,hm,_⟩:=Lib.ctzFrom_spec x x za Nat.lt_two_pow_self;exact .inr ⟨m,hm⟩
theorem pD (a:∀j,j<t->x / 2^j%2=0)(hx:x=0->t=0)(h1:x≠0->x / 2^t%2=1):t=yz x:=by
 rcases uf x with⟨e,h⟩|⟨m,h⟩
 ·rw [hx e,h]
 ·have h0:=sG h;rcases yS t (yz x) with hl|hl|hl
  ·have:=sF h hl;rw [h1 h0] at this;omega
  ·exact hl
  ·have:=jn h;rw [a _ hl] at this;omega
theorem lv {m:Nat}(h:x=2^t*(2*m+1)):t=yz x:=
 pD (λj hj=>sF h hj) (λe=>absurd e (sG h)) (λ_=>jn h)
theorem bA (h0:x%18446744073709551616^k=0)(hw:wd x k≠0):64*k+Lib.ctz 64 (wd x k)=yz x:=by
 have a:=xj x k;obtain⟨m,hm,hc⟩:=Lib.ctzFrom_spec 64 (wd x k) za (by simpa using a);have ec:Lib.ctz 64 (wd x k)=Lib.ctzFrom 64 (wd x k):=by unfold Lib.ctz;rw [if_neg hw]
 rw [ec];generalize Lib.ctzFrom 64 (wd x k)=c at*;obtain⟨s,hs⟩:∃s,64=c+(s+1):=⟨63 - c,za⟩;obtain⟨q,hq⟩:∃q,x / 18446744073709551616^k / 18446744073709551616=q:=⟨_,rfl⟩;have e1:x / 18446744073709551616^k=18446744073709551616*q+wd x k:=by rw [<-hq];exact(XZ _ _).symm
 have e2:x=18446744073709551616^k*(x / 18446744073709551616^k):=by
  have:=XZ x (18446744073709551616^k);rw [h0] at this;omega
 have e3:(18446744073709551616:Nat)=2^c*(2*2^s):=by
  rw [show(18446744073709551616:Nat)=2^64 from rfl,hs,xU,qT,qE (2^s) 2]
 refine lv (m:=2^s*q+m) ?_;have e4:(18446744073709551616:Nat)^k=2^(64*k):=by rw [show(18446744073709551616:Nat)=2^64 from rfl,<-YV]
 have e5:18446744073709551616*q+wd x k=2^c*(2*(2^s*q+m)+1):=by
  rw [hm]
  conv=>lhs;rw [e3]
  rw [qV,<-qS,qS 2,qV,xR]
 rw [e2,e1,e5,e4,<-qV,<-xU]
theorem iq (x:Nat)(A:zf)(n c:Nat)(w:World)(hA:zo w x A n c)(hn:n<=1099511627776)(hT:zu w):
  Calls prog 129 #[.agg #[.slice A n c]] w λe w'=>e=.returned (.int .i64 (yz x:Nat))/\Below w.heap.size w w':=by
 have v:=zd hA.len;have hr:=hA.1;have HT:=zd (λo=>hT.on ((qY _ w).alloc (qX _) o));have g:∀o,zg (zE (w.alloc o) w.heap.size 1 A n (zv .u64 (dg 18446744073709551616 x))):=λo=>hr.alloc (qX _) o;have HC:=zd g;clear hA hT g hr;go_enter func129,ntmps129;go_wp2_with fail
 go_loop [3,4,8] (λ_ _ ix=>∃k:Nat,k<=n/\ix=.int .i64 k/\zg (x%18446744073709551616^k=0)) (λ_ _ ix=>n - (intOf ix).toNat)
 case atStart=>exact⟨0,QE _,rfl,by show _=_;simp [xD]⟩
 case round=>
  obtain⟨k,hk,rfl,H⟩:=hrel;by_cases hlt:k<n
  ·obtain⟨ad,rfl,hadb,d⟩:=uj (HC.o (.cells #[.slice A n c] 56)).o hlt;rw [rC] at d;by_cases hz:wd x k=0
   ·have HN:zg (x%18446744073709551616^(k+1)=0):=by
     show _=_;rw [wO 18446744073709551616 x k,H.o,xG];unfold wd at hz;rw [hz,XA]
    rw [hz] at d;clear hz;go_wp2
    go_round
    case rel=>exact⟨k+1,za,by go_num,HN⟩
    case measure=>simp [intOf];omega
   ·have HV:=zd (bA H.o hz);have i:=xj x k;have WT:=(λw' (h:zu w')=>Xt ((wd x k:Nat):Int) ⟨za,za⟩ w' h);have m:=oO (wd x k) (by simpa using i);have et:nX ((wd x k:Nat):Int)=((Lib.ctz 64 (wd x k):Nat):Int):=by unfold nX;simp
    rw [et] at WT;obtain⟨t,ht⟩:∃t,Lib.ctz 64 (wd x k)=t:=⟨_,rfl⟩;rw [ht] at WT HV m;obtain⟨a,ha⟩:∃a,wd x k=a:=⟨_,rfl⟩;rw [ha] at d WT hz;have j:=zd WT;have hz':((a:Int)==0)=false:=beq_eq_false_iff_ne.2 za;have hz2:((a:Int) !=0)=true:=by simp;omega
    clear WT ht ha et hz i;go_wp2_with fail;refine(j.o _ (HT.o _)).mono ?_;rintro e w' ⟨rfl,rfl⟩;go_wp2;go_ret;refine⟨pm ?_,(qY _ w).alloc (qX _) _⟩;have:=HV.o;omega
  ·have u:k=n:=za;subst u;have HX:zg (yz x=0):=by
    show _=_;have h1:=yy (b:=18446744073709551616) zh x;rw [v.o] at h1;have h2:=H.o;rw [qP h1] at h2;rw [h2];rfl
   go_wp2;go_ret;exact⟨by rw [HX.o];rfl,(qY _ w).alloc (qX _) _⟩
theorem vN {P:Program}{v:Int}(e:z=v)(h:Calls P f args w (wI w z)):Calls P f args w λe w'=>e=.returned (.int .i64 v)/\Below w.heap.size w w':=by
 subst e;exact h
theorem xc {P:Program}{t:Bool}(e:b=t)(h:Calls P f args w λe w'=>e=.returned (.bool b)/\Below w.heap.size w w'):Calls P f args w λe w'=>e=.returned (.bool t)/\Below w.heap.size w w':=by
 subst e;exact h
theorem tz {T:World->Prop}(IC:oI T)(x:Nat)(A:zf)(n c:Nat)(w:World)(hT:T w)(h:zo w x A n c)(hn:n<=268435456):Calls prog 99 #[.bool false,.agg #[.slice A n c]] w (yu w (x:Int)):=
 IC.new false x A n c w hT h hn
theorem xx {T:World->Prop}:oI T where
 new s x A n c w _ hA hn:=Z5 s x A n c w hA za
 of z w _ h1 h2:=Y4 z w h1 h2
 belowI z b A n c w _ hA hn:=aX z b A n c w hA
 abs z b A n c w _ hA hn:=(Z0 z b A n c w hA za).mono λ_ _ ⟨A',n',c',he,hw,hb,_⟩=>⟨A',n',c',he,hw,hb⟩
 sign z b A n c w _ hA hn:=Zh z b A n c w hA
 cmp x y b b' A D n m c d w _ hA hD hn hm:=Z3 x y b b' A D n m c d w hA hD za za
 add x y b b' A D n m c d w _ hA hD hn hm:=Z1 x y b b' A D n m c d w hA hD za za
 mul x y b b' A D n m c d w _ hA hD hn hm:=Z4 x y b b' A D n m c d w hA hD za za
def vB (b x y:Nat)(D:List Nat):Prop:=D++dg b y=dg b x
theorem vB.step {b y:Nat}{D:List Nat}(h:vB b x y D)(hb:2<=b)(hy:y≠0):vB b x (y / b) (D++[y%b]):=by
 unfold vB at h⊢;rw [<-h,mC hb hy,xQ];rfl
theorem jq {q:Nat}(h:q%2≠0):Nat.gcd 2 q=1:=by
 have h1:Nat.gcd 2 q ∣ 2:=XU 2 q;have h2:=Nat.le_of_dvd zh h1;have h3:Nat.gcd 2 q≠0:=λe=>by rw [e] at h1;exact absurd (Nat.eq_zero_of_zero_dvd h1) zh
 have h4:Nat.gcd 2 q≠2:=λe=>h (Nat.mod_eq_zero_of_dvd (by rw [<-e];exact XX 2 q));omega
theorem jR {p q:Nat}(hp:p%2=0)(hq:q%2≠0):Nat.gcd (p / 2) q=Nat.gcd p q:=by
 have e:p=2*(p / 2):=za;have h:Nat.Coprime 2 q:=jq hq;rw [show Nat.gcd p q=Nat.gcd (2*(p / 2)) q from by rw [<-e]];exact(h.gcd_mul_left_cancel (p / 2)).symm
theorem tp {p q:Nat}(h:q<=p):Nat.gcd (p - q) q=Nat.gcd p q:=by
 obtain⟨s,rfl⟩:∃s,p=q+s:=⟨p - q,za⟩;rw [QW,Nat.gcd_self_add_left]
def vF (w:World)(z:Int)(b:Bool)(A:zf)(n c:Nat):Prop:=b=decide (z<0)/\rv w z.natAbs A n c
theorem vF.below (h:vF w z b A n c)(hb:Below w.heap.size w w'):vF w' z b A n c:=⟨h.1,h.2.below hb⟩
def vY (w:World)(r:Rat)(b:Bool)(A:zf)(n c:Nat)(E:zf)(k f:Nat):Prop:=vF w r.num b A n c/\rv w r.den E k f
theorem vY.below {r:Rat}{E:zf}{f:Nat}(h:vY w r b A n c E k f)(hb:Below w.heap.size w w'):vY w' r b A n c E k f:=⟨h.1.below hb,h.2.below hb⟩
theorem Wr {P:Program}(w:World)(dT sT ty m:TypeId)(g o h x:Nat)(a:Addr)(u A:Nat)(d:Array Value)(t:TypeId)(cs:List Value)
  (hu:P.underlying dT=some (.slice m)) (hs:(P.info? m).map (·.size)=some 3)
  (hg:w.heap[g]?=some (.cells d t (0,0))) (hn:cs.length=Nat.min u h*3)
  (z:∀j v,cs[j]?=some v->w.cell? (a.add j)=some v) (y:o+cs.length<=d.size) (h1:∀v ∈ cs,v.oneCell'=true):
  (Builtin.copy_ #[dT,sT] ty #[.slice (some ⟨g,o,none⟩) h x,.slice (some a) u A]).run P w =
    .ok (goInt (Nat.min u h)) (w.setRow g (d.toList.take o++cs++d.toList.drop (o+cs.length)).toArray):=by
 have hl:=run_loadCells_list (P:=P) w a cs z;have B:=run_storeCells_at P g o t cs 0 d w hg (by simpa using y) h1;cases hq:P.info? m with
 |none=>simp [hq] at hs
 |some i=>
   have hi:i.size=3:=by simpa [hq] using hs
   simp [Builtin.copy_,run_underlying hu,Builtin.lenOf,Builtin.firstCells,sizeOf,typeInfo,hq,hi,<-hn,hl,B]
