/- What this claim leans on. -/
import Derived.Test.YtkcjgcflloldoaaGreatDoorPPre
import Derived.Test.YtkcjgcflloldoaaGreatDoorRows
import Derived.Laws.Bits64b
import Derived.Laws.Externs
import Derived.Laws.MathBits
import Derived.Lib.Hide
import Derived.Lib.Mul64
import Derived.Lib.TrailingZeros
import Derived.Outline
import Derived.WalkKit
set_option linter.unusedVariables false
set_option linter.unusedSimpArgs false
namespace Go.Proofs.YtkcjgcflloldoaaGreatDoor
open Go Go.RowKit Go.Proofs.Tryz
set_option maxHeartbeats 16000000
variable {x y:Int}
def tg (x y c:Int):Int:=(x+y+c%2)%18446744073709551616
def tf (x y c:Int):Int:=(x+y+c%2) / 18446744073709551616
def o9 (x y c:Int):Int:=(x - y - c%2)%18446744073709551616
def o8 (x y c:Int):Int:=if x<y+c%2 then 1 else 0
def Wd (x:Int):Prop:=0<=x/\x<18446744073709551616
theorem rL (x y c:Int):Wd (tg x y c):=by unfold Wd tg;omega
theorem Ts {c:Int}(hx:Wd x)(hy:Wd y):0<=tf x y c/\tf x y c<=1:=by unfold Wd at hx hy;unfold tf;omega
def sI (x y:Int):Int:=x*y / 18446744073709551616
def vP (x y:Int):Int:=x*y%18446744073709551616
def vH (x y a b:Int):Int:=(x*y+a+b) / 18446744073709551616
def sx (x y a b:Int):Int:=(x*y+a+b)%18446744073709551616
theorem pF (hx:Wd x)(hy:Wd y):0<=x*y/\x*y<=340282366920938463426481119284349108225:=by
 obtain⟨a,b⟩:=hx;obtain⟨c,d⟩:=hy;refine⟨jZ a c,?_⟩;have:x*y<=18446744073709551615*18446744073709551615:=Int.mul_le_mul za za c za;simpa using this
theorem pD (hx:Wd x)(hy:Wd y):Wd (sI x y):=by have:=pF hx hy;unfold Wd sI;omega
theorem pE (x y:Int):Wd (vP x y):=by unfold Wd vP;omega
theorem mO {a b:Int}(hx:Wd x)(hy:Wd y)(ha:Wd a)(hb:Wd b):Wd (vH x y a b):=by
 have:=pF hx hy;unfold Wd at*;unfold vH;omega
theorem mP (x y a b:Int):((vP x y+a)%18446744073709551616+b)%18446744073709551616=sx x y a b:=by
 unfold vP sx;omega
theorem mN (x y a b:Int):sI x y+(vP x y+a) / 18446744073709551616+((vP x y+a)%18446744073709551616+b) / 18446744073709551616=vH x y a b:=by
 unfold vP sI vH;omega
def tN (x:Int):Int:=(bitLen x.toNat:Nat)
def gv (x:Int):Int:=(Lib.ctz 64 x.toNat:Nat)
theorem iE (n k:Nat)(h:n<2^k):bitLen n<=k:=by
 unfold bitLen
 split
 ·omega
 ·rename_i h0
  have:=(Nat.log2_lt h0).2 h;omega
theorem mE (hx:Wd x):0<=tN x/\tN x<=64:=by
 unfold Wd at hx;have:=iE x.toNat 64 za;unfold tN;omega
theorem jI (x:Nat)(hx:x<2^64):Lib.ctz 64 x<=64:=by
 by_cases h:x=0
 ·subst h;decide
 ·have:=(Lib.lowest_bit 64 x h hx).2;omega
def vD (hi lo y:Int):Int:=(hi*18446744073709551616+lo) / y
def vE (hi lo y:Int):Int:=(hi*18446744073709551616+lo)%y
theorem Wz (q Y:Int):q*Y=(q*(Y / 4294967296))*4294967296+q*(Y%4294967296):=by
 have h:Y=Y / 4294967296*4294967296+Y%4294967296:=za
 calc q * Y = q * (Y / 4294967296 * 4294967296 + Y % 4294967296):=by rw [← h]
  _=_:=by rw [Int.mul_add,Int.mul_assoc]
def nj (U u:Int):Int:=U*4294967296+u
def wN (U u Y:Int):Int:=nj U u / Y
def vo (U u Y:Int):Int:=nj U u%Y
structure tr (U u Y q r:Int):Prop where
 sum:U=q*(Y / 4294967296)+r
 low:0<=r
 q_lo:wN U u Y<=q
 q_hi:q<=4294967297
section
variable {U u Y q r:Int}
theorem gh (hU:0<=U)(hUY:U<Y)(hu:0<=u)(hu':u<4294967296):0<=wN U u Y/\wN U u Y<4294967296:=by
 unfold wN nj;refine⟨YE za za,Int.ediv_lt_of_lt_mul za ?_⟩;have:(U+1)*4294967296<=Y*4294967296:=yT za za;omega
theorem ZF (hY:0<Y):0<=vo U u Y/\vo U u Y<Y:=⟨YM _ za,YB _ hY⟩
theorem Xn (U u Y:Int):wN U u Y*Y+vo U u Y=nj U u:=by unfold wN vo;rw [yS];exact yU _ _
theorem Wt (hY:0<Y):q<=wN U u Y↔q*Y<=nj U u:=by unfold wN;exact Int.le_ediv_iff_mul_le hY
theorem tr.start (hU:0<=U)(a:U<Y)(hY:9223372036854775808<=Y)(hY':Y<18446744073709551616)(hu:0<=u)(c:u<4294967296):
  tr U u Y (U / (Y / 4294967296)) (U - U / (Y / 4294967296)*(Y / 4294967296)):=by
 have hA:2147483648<=Y / 4294967296:=za;have hm:=yU U (Y / 4294967296);have hr0:=YM U (show Y / 4294967296≠0 by omega);rw [yS] at hm;refine⟨za,za,?_,?_⟩
 ·refine(Int.le_ediv_iff_mul_le za).2 ?_;have h1:=(Wt (U:=U) (u:=u) (Y:=Y) (q:=wN U u Y) za).1 (Int.le_refl _);have hb:=gh hU a hu c;have h2:=Wz (wN U u Y) Y;have h3:0<=wN U u Y*(Y%4294967296):=jZ hb.1 za;unfold nj at h1;omega
 ·have h4:U / (Y / 4294967296)<4294967298:=by
   refine Int.ediv_lt_of_lt_mul za ?_;omega
  omega
theorem tr.down (h:tr U u Y q r)(hU:0<=U)(a:U<Y)(hY:9223372036854775808<=Y)(hu:0<=u)(c:u<4294967296)
  (ht:4294967296<=q\/4294967296*r+u<q*(Y%4294967296)):tr U u Y (q - 1) (r+Y / 4294967296):=by
 have hb:=gh hU a hu c;obtain⟨hs,hl,h1,h2⟩:=h;refine⟨by rw [Int.sub_mul];omega,za,?_,za⟩;rcases ht with ht|ht
 ·omega
 ·have:¬ q<=wN U u Y:=by
   rw [Wt za];have:=Wz q Y;unfold nj;omega
  omega
theorem tr.done (h:tr U u Y q r)(hY:9223372036854775808<=Y)(ht:q*(Y%4294967296)<=4294967296*r+u):q=wN U u Y:=by
 obtain⟨hs,hl,h1,h2⟩:=h;have:q<=wN U u Y:=by
  rw [Wt za];have:=Wz q Y;unfold nj;omega
 omega
theorem tr.past (h:tr U u Y q r)(hY:9223372036854775808<=Y)(hu:0<=u)(hq:q<=4294967296)(hr:4294967296<=r):q=wN U u Y:=by
 refine h.done hY ?_;have h0:q*(Y%4294967296)<=4294967296*(Y%4294967296):=yT hq za;omega
theorem tr.room (h:tr U u Y q r)(hU:0<=U)(a:U<Y)(hu:0<=u)(c:u<4294967296)(hr:r<4294967296):
  0<=q/\0<=q*(Y%4294967296)/\q*(Y%4294967296)<18446744073709551616/\0<=4294967296*r+u/\4294967296*r+u<18446744073709551616:=by
 have hb:=gh hU a hu c;obtain⟨hs,hl,h1,h2⟩:=h;have h3:q*(Y%4294967296)<=4294967297*(Y%4294967296):=yT h2 za;have h4:0<=q*(Y%4294967296):=jZ za za;omega
theorem Si (hY:0<Y)(hY':Y<18446744073709551616):
  ((U*4294967296%18446744073709551616+u)%18446744073709551616 - wN U u Y*Y%18446744073709551616)%18446744073709551616=vo U u Y:=by
 have h:=Xn U u Y;have hb:=ZF (U:=U) (u:=u) hY;unfold nj at h;omega
end
theorem jO (U V Y:Int)(hU:0<=U)(hUY:U<Y):
  wN U (V / 4294967296) Y*4294967296+wN (vo U (V / 4294967296) Y) (V%4294967296) Y=(U*18446744073709551616+V) / Y/\
  vo (vo U (V / 4294967296) Y) (V%4294967296) Y=(U*18446744073709551616+V)%Y:=by
 have hY:0<Y:=za;have h1:=Xn U (V / 4294967296) Y;have h2:=Xn (vo U (V / 4294967296) Y) (V%4294967296) Y;have b2:=ZF (U:=vo U (V / 4294967296) Y) (u:=V%4294967296) hY;have c:Y*(wN U (V / 4294967296) Y*4294967296+wN (vo U (V / 4294967296) Y) (V%4294967296) Y)+vo (vo U (V / 4294967296) Y) (V%4294967296) Y=U*18446744073709551616+V:=by
  generalize wN (vo U (V / 4294967296) Y) (V%4294967296) Y=q0 at*;generalize vo (vo U (V / 4294967296) Y) (V%4294967296) Y=r0 at*;generalize wN U (V / 4294967296) Y=q1 at*;generalize vo U (V / 4294967296) Y=r1 at*;unfold nj at h1 h2;rw [Int.mul_add,yS Y,yS Y,Int.mul_right_comm];omega
 have e1:=Int.ediv_emod_unique (a:=U*18446744073709551616+V) (b:=Y) (r:=vo (vo U (V / 4294967296) Y) (V%4294967296) Y) (q:=wN U (V / 4294967296) Y*4294967296+wN (vo U (V / 4294967296) Y) (V%4294967296) Y) hY;obtain⟨g1,g2⟩:=e1.2 ⟨by rw [Int.add_comm];exact c,b2.1,b2.2⟩;exact⟨g1.symm,g2.symm⟩
theorem qj (M y P:Int)(hP:0<P):(M*P) / (y*P)=M / y/\(M*P)%(y*P) / P=M%y:=by
 refine⟨Int.mul_ediv_mul_of_pos_left _ _ hP,?_⟩;rw [yS M,yS y,Int.mul_emod_mul_of_pos _ _ hP];exact Int.mul_ediv_cancel_left _ za
theorem me (hi lo y:Int)(s:Nat)(hs:s<=63)(hh:0<=hi)(hy0:hi<y)(hl:0<=lo)(i:lo<18446744073709551616):
  0<=hi*2^s+lo / 2^(64 - s)/\hi*2^s+lo / 2^(64 - s)<y*2^s/\
  (hi*2^s+lo / 2^(64 - s))*18446744073709551616+lo*2^s%18446744073709551616=(hi*18446744073709551616+lo)*2^s:=by
 have hp:(0:Int)<2^s:=Int.pow_pos zf;have j:(0:Int)<2^(64 - s):=Int.pow_pos zf;have g:(2:Int)^(64 - s)*2^s=18446744073709551616:=by
  rw [<-Int.pow_add,show 64 - s+s=64 from by omega];decide
 have hlt:lo / 2^(64 - s)<2^s:=by
  refine Int.ediv_lt_of_lt_mul j ?_;rw [yS,g];exact i
 have h0:0<=lo / 2^(64 - s):=YE hl za;have hh2:0<=hi*2^s:=jZ hh za;have d:(hi+1)*2^s<=y*2^s:=yT za za;have e:lo*2^s / 18446744073709551616=lo / 2^(64 - s):=by
  rw [<-g];exact Int.mul_ediv_mul_of_pos_left _ _ hp
 have e2:=yU (lo*2^s) 18446744073709551616;rw [e] at e2;refine⟨za,?_,?_⟩
 ·rw [Int.add_mul] at d;omega
 ·generalize lo / 2^(64 - s)=a at*;generalize hb:lo*2^s=b at*;have:(hi*18446744073709551616+lo)*2^s=hi*2^s*18446744073709551616+b:=by
   rw [Int.add_mul,hb,Int.mul_right_comm]
  rw [this];generalize hi*2^s=c at*;omega
theorem Tj (y:Int)(h0:0<y)(h1:y<18446744073709551616):∃s:Nat,64 - tN y=s/\s<=63/\9223372036854775808<=y*2^s/\y*2^s<18446744073709551616:=by
 have hb:=bitLen_spec y.toNat;have hl:=iE y.toNat 64 za;have a:y.toNat≠0:=za;have h3:=hb.2 a;have hpos:1<=bitLen y.toNat:=by
  rcases xQ (bitLen y.toNat) with h|h
  ·rw [h] at hb;simp at hb;omega
  ·exact h
 refine⟨64 - bitLen y.toNat,by unfold tN;omega,za,?_,?_⟩
 ·have:(2:Nat)^(bitLen y.toNat - 1)*2^(64 - bitLen y.toNat)<=y.toNat*2^(64 - bitLen y.toNat):=qE _ h3;rw [<-xU,show bitLen y.toNat - 1+(64 - bitLen y.toNat)=63 from by omega] at this;have e:y*2^(64 - bitLen y.toNat)=((y.toNat*2^(64 - bitLen y.toNat):Nat):Int):=by
   rw [xX,Int.toNat_of_nonneg za,yB];rfl
  rw [e];omega
 ·have:y.toNat*2^(64 - bitLen y.toNat)<2^bitLen y.toNat*2^(64 - bitLen y.toNat):=Nat.mul_lt_mul_of_pos_right hb.1 (xZ _);rw [<-xU,show bitLen y.toNat+(64 - bitLen y.toNat)=64 from by omega] at this;have e:y*2^(64 - bitLen y.toNat)=((y.toNat*2^(64 - bitLen y.toNat):Nat):Int):=by
   rw [xX,Int.toNat_of_nonneg za,yB];rfl
  rw [e];omega
theorem ln (a b:Int)(s:Nat)(h0:0<=a)(h1:a*2^s<18446744073709551616)(h2:0<=b)(h3:b<2^s)(hs:s<=63):
  bits .or .u64 (a*2^s) b=a*2^s+b:=by
 obtain⟨a,rfl⟩:=xP h0;obtain⟨b,rfl⟩:=xP h2;have e:(a:Int)*2^s=((a*2^s:Nat):Int):=by rw [xX,yB];rfl
 have e3:b<2^s:=by
  have:((2^s:Nat):Int)=(2:Int)^s:=by rw [yB];rfl
  omega
 have c:b<18446744073709551616:=qJ e3 (by
  have:=qG (n:=2) zf (show s<=64 from by omega);simpa using this)
 rw [e] at h1⊢;rw [bits_or_u64_nat _ _ za c];have:=Nat.shiftLeft_add_eq_or_of_lt e3 a;rw [Nat.shiftLeft_eq] at this;rw [<-this];omega
theorem eE (c:Int)(hc:Wd c):bits .and .u64 c 1=c%2:=by
 obtain⟨h0,h1⟩:=hc;obtain⟨c,rfl⟩:=xP h0;have h:=bits_and_u64_nat c 1 za za;have e:c&&&1=c%2:=Nat.and_two_pow_sub_one_eq_mod c 1;rw [e] at h;simpa using h
theorem rK (x y c:Int)(hx:Wd x)(hy:Wd y)(a:0<=c)(hc:c<=1)(w:World):
  (callFunc 163 #[.int .u64 x,.int .u64 y,.int .u64 c]).run prog w=.ok (.value (.tuple #[.int .u64 (tg x y c),.int .u64 (tf x y c)])) w:=by
 rw [run_callFunc_extern func163 zU zU zU (e:=add64Entry) zU,run_add64 x y c hx.1 hy.1 a hc];have e:c%2=c:=za;unfold tg tf;rw [e];rfl
def oA:Array Value->Sem Value:=λargs=>do
 let (x,y,b) ← Extern.MathBitsCarry.three "Sub64" args
 pure (Extern.MathBitsCarry.pair ((x+Extern.MathBitsCarry.m64 - y - b)%Extern.MathBitsCarry.m64) (if x<y+b then 1 else 0))
theorem P4 (P:Program)(x y b:Nat)(hb:b<=1)(w:World):
  (oA #[.int .u64 x,.int .u64 y,.int .u64 b]).run P w =
    .ok (.tuple #[.int .u64 (((x+18446744073709551616 - y - b)%18446744073709551616:Nat):Int),.int .u64 ((if x<y+b then 1 else 0:Nat):Int)]) w:=by
 have:b=0\/b=1:=za;rcases this with rfl|rfl<;>rfl
theorem ja (x y b:Int)(hx:Wd x)(hy:Wd y)(a:0<=b)(hb:b<=1)(w:World):
  (callFunc 186 #[.int .u64 x,.int .u64 y,.int .u64 b]).run prog w=.ok (.value (.tuple #[.int .u64 (o9 x y b),.int .u64 (o8 x y b)])) w:=by
 obtain⟨c,hx1⟩:=hx;obtain⟨d,hy1⟩:=hy;obtain⟨x,rfl⟩:=xP c;obtain⟨y,rfl⟩:=xP d;obtain⟨b,rfl⟩:=xP a;have e1:(((x+18446744073709551616 - y - b)%18446744073709551616:Nat):Int)=o9 x y b:=by unfold o9;omega
 have e2:((if x<y+b then 1 else 0:Nat):Int)=o8 x y b:=by unfold o8;split<;>split<;>omega
 rw [run_callFunc_extern func186 zU zU zU (e:=oA) zU,P4 _ x y b za,e1,e2];rfl
namespace M64
set_option maxHeartbeats 16000000
theorem maskN (a:Nat)(ha:a<18446744073709551616):bits .and .u64 (a:Int) 4294967295=((a%4294967296:Nat):Int):=by
 have h:=bits_and_u64_nat a 4294967295 ha za;have e:a&&&4294967295=a%4294967296:=Nat.and_two_pow_sub_one_eq_mod a 32;rw [e] at h;exact h
theorem divN (a:Nat):(a:Int) / 4294967296=((a / 4294967296:Nat):Int):=za
theorem mulN (a b:Nat):(a:Int)*(b:Int)=((a*b:Nat):Int):=(xX a b).symm
theorem addN (a b:Nat):(a:Int)+(b:Int)=((a+b:Nat):Int):=(Int.natCast_add a b).symm
theorem wrapN (a:Nat)(ha:a<18446744073709551616):IntKind.u64.wrap (a:Int)=(a:Int):=by rw [QT];omega
theorem wrapM (a:Nat):IntKind.u64.wrap (a:Int)=((a%18446744073709551616:Nat):Int):=by rw [QT];omega
end M64
theorem NQ (x y:Nat)(hx:x<18446744073709551616)(hy:y<18446744073709551616)(w:World):
  Calls prog 162 #[.int .u64 x,.int .u64 y] w λe w'=>e=.returned (.tuple #[.int .u64 ((x*y / 18446744073709551616:Nat):Int),.int .u64 ((x*y%18446744073709551616:Nat):Int)])/\w=w':=by
 obtain⟨bd,bt,bw,j⟩:=Lib.mul64_hi x y hx hy;have ba:=Lib.half_mul_le (a:=x / 4294967296) (b:=y / 4294967296) za za;have bb:=Lib.half_mul_le (a:=x / 4294967296) (b:=y%4294967296) za za;have bc:=Lib.half_mul_le (a:=x%4294967296) (b:=y / 4294967296) za za;have c:x / 4294967296*(y / 4294967296)<18446744073709551616:=za;have d:x / 4294967296*(y%4294967296)<18446744073709551616:=za;have g:x%4294967296*(y / 4294967296)<18446744073709551616:=za;have i:x / 4294967296*(y / 4294967296)+(x / 4294967296*(y%4294967296)+x%4294967296*(y%4294967296) / 4294967296) / 4294967296<18446744073709551616:=za;have bh:x / 4294967296*(y / 4294967296)+(x / 4294967296*(y%4294967296)+x%4294967296*(y%4294967296) / 4294967296) / 4294967296+((x / 4294967296*(y%4294967296)+x%4294967296*(y%4294967296) / 4294967296)%4294967296+x%4294967296*(y / 4294967296)) / 4294967296<18446744073709551616:=za;go_enter func162,ntmps162;go_wp2;simp only [M64.maskN x hx,M64.maskN y hy,M64.divN,M64.mulN,M64.addN,M64.wrapN _ bd,M64.wrapN _ d,M64.wrapN _ bt,M64.maskN _ bt,M64.wrapN _ g,M64.wrapN _ bw,M64.wrapN _ c,M64.wrapN _ i,M64.wrapN _ bh,M64.wrapM (x*y)];rw [j]
 go_ret2
 exact⟨rfl,rfl⟩
theorem kV (x y:Int)(hx:Wd x)(hy:Wd y)(w:World):
  Calls prog 162 #[.int .u64 x,.int .u64 y] w λe w'=>e=.returned (.tuple #[.int .u64 (sI x y),.int .u64 (vP x y)])/\w=w':=by
 obtain⟨a,hx1⟩:=hx;obtain⟨c,hy1⟩:=hy;obtain⟨x,rfl⟩:=xP a;obtain⟨y,rfl⟩:=xP c;have e1:sI x y=((x*y / 18446744073709551616:Nat):Int):=by unfold sI;rw [<-xX];omega
 have e2:vP x y=((x*y%18446744073709551616:Nat):Int):=by unfold vP;rw [<-xX];omega
 rw [e1,e2];exact NQ x y za za w
theorem iS (x z:Int)(k:Nat)(hk:k<=56)(h0:0<=z)(h1:z<256)(hz:z.toNat=x.toNat / 2^k)(a:k=0\/z≠0):wrap64 ((k:Int)+wrap64 ((bitLen z.toNat:Nat):Int))=tN x:=by
 have hl:=bitLen_le8 z.toNat za;have e1:wrap64 ((bitLen z.toNat:Nat):Int)=((bitLen z.toNat:Nat):Int):=IntWalk.wrap64_in _ za;have e2:bitLen x.toNat=k+bitLen z.toNat:=by
  rcases a with rfl|a
  ·rw [hz];simp
  ·rw [hz];exact bitLen_shift x.toNat k (by rw [<-hz];omega)
 rw [e1,IntWalk.wrap64_in _ za];unfold tN;rw [e2];omega
theorem pm (x:Int)(h0:0<=x)(h1:x<256):wrap64 (wrap64 ((bitLen x.toNat:Nat):Int))=tN x:=by
 have hl:=bitLen_le8 x.toNat za;have e:wrap64 ((bitLen x.toNat:Nat):Int)=((bitLen x.toNat:Nat):Int):=IntWalk.wrap64_in _ za;rw [e,e];rfl
set_option maxRecDepth 100000 in
theorem kU (x:Int)(hx:Wd x)(w:World):
  Calls prog 155 #[.int .u64 x] w λe w'=>e=.returned (.int .i64 (tN x))/\w=w':=by
 obtain⟨h0,h1⟩:=hx;go_enter func155,ntmps155;go_wp2
 all_goals
  go_ret
  refine⟨congrArg Ending.returned (congrArg (Value.int IntKind.i64) ?_),rfl⟩
  rw [len8tab_get]
 all_goals first
  |exact iS x (x / 4294967296 / 65536 / 256) 56 za za za za (.inr za)
  |exact iS x (x / 4294967296 / 65536) 48 za za za za (.inr za)
  |exact iS x (x / 4294967296 / 256) 40 za za za za (.inr za)
  |exact iS x (x / 4294967296) 32 za za za za (.inr za)
  |exact iS x (x / 65536 / 256) 24 za za za za (.inr za)
  |exact iS x (x / 65536) 16 za za za za (.inr za)
  |exact iS x (x / 256) 8 za za za za (.inr za)
  |exact pm x za za
theorem pi (x:Int)(hx:Wd x)(w:World):
  Calls prog 189 #[.int .u64 x] w λe w'=>e=.returned (.int .i64 (64 - tN x))/\w=w':=by
 have H:=zb (kU x hx w);have b:=mE hx;obtain⟨b0,b1⟩:=b;go_enter func189,ntmps189;go_wp2_with (go_at_call 155;refine H.o.mono ?_;rintro e w' ⟨rfl,rfl⟩);go_ret;exact⟨rfl,rfl⟩
theorem TT (x y c:Int)(hx:Wd x)(hy:Wd y)(hc:Wd c)(w:World):
  Calls prog 174 #[.int .u64 x,.int .u64 y,.int .u64 c] w λe w'=>e=.returned (.tuple #[.int .u64 (tg x y c),.int .u64 (tf x y c)])/\w=w':=by
 have L:=zb (eE c hc);have H:=zb (rK x y (c%2) hx hy za za);have e1:tg x y (c%2)=tg x y c:=by unfold tg;omega
 have e2:tf x y (c%2)=tf x y c:=by unfold tf;omega
 rw [e1,e2] at H;clear e1 e2;go_enter func174,ntmps174;go_wp2_with (first|simp only [L.o,H.o])
 go_ret2
 exact⟨rfl,rfl⟩
theorem Sb (x y c:Int)(hx:Wd x)(hy:Wd y)(hc:Wd c)(w:World):
  Calls prog 175 #[.int .u64 x,.int .u64 y,.int .u64 c] w λe w'=>e=.returned (.tuple #[.int .u64 (o9 x y c),.int .u64 (o8 x y c)])/\w=w':=by
 have L:=zb (eE c hc);have H:=zb (ja x y (c%2) hx hy za za);have e1:o9 x y (c%2)=o9 x y c:=by unfold o9;omega
 have e2:o8 x y (c%2)=o8 x y c:=by unfold o8;rw [show c%2%2=c%2 from by omega]
 rw [e1,e2] at H;clear e1 e2;go_enter func175,ntmps175;go_wp2_with (first|simp only [L.o,H.o])
 go_ret2
 exact⟨rfl,rfl⟩
theorem oP (x y:Int)(hx:Wd x)(hy:Wd y)(w:World):
  Calls prog 193 #[.int .u64 x,.int .u64 y] w λe w'=>e=.returned (.tuple #[.int .u64 (sI x y),.int .u64 (vP x y)])/\w=w':=by
 have H:=zb (kV x y hx hy w);go_enter func193,ntmps193;go_wp2_with (go_at_call 162;refine H.o.mono ?_;rintro e w' ⟨rfl,rfl⟩)
 go_ret2
 exact⟨rfl,rfl⟩
theorem PI (x y a b:Int)(hx:Wd x)(hy:Wd y)(ha:Wd a)(hb:Wd b)(w:World):
  Calls prog 146 #[.int .u64 x,.int .u64 y,.int .u64 a,.int .u64 b] w λe w'=>e=.returned (.tuple #[.int .u64 (vH x y a b),.int .u64 (sx x y a b)])/\w=w':=by
 have hl:=pE x y;have hs:=rL (vP x y) a 0;have H:=zb (kV x y hx hy w);have A1:=zb (rK (vP x y) a 0 hl ha za za w);have A2:=zb (rK (tg (vP x y) a 0) b 0 hs hb za za w);have eL:tg (tg (vP x y) a 0) b 0=sx x y a b:=by rw [<-mP];unfold tg;omega
 have eH:sI x y+tf (vP x y) a 0+tf (tg (vP x y) a 0) b 0=vH x y a b:=by rw [<-mN];unfold tf tg;omega
 have b1:=pD hx hy;have b2:=Ts (c:=0) hl ha;have b3:=Ts (c:=0) hs hb;have b4:=mO hx hy ha hb;have EL:=zb eL;have EH:=zb eH;have W1:zd (IntKind.u64.wrap (sI x y+tf (vP x y) a 0)=sI x y+tf (vP x y) a 0):=by
  rw [QT];unfold Wd at*;show _%_=_;omega
 have W2:zd (IntKind.u64.wrap (vH x y a b)=vH x y a b):=by
  rw [QT];unfold Wd at*;show _%_=_;omega
 clear eL eH b1 b2 b3 b4 hl hs;go_enter func146,ntmps146;go_wp2_with (first|(go_at_call 162;refine H.o.mono ?_;rintro e w' ⟨rfl,rfl⟩)|simp only [A1.o]|simp only [A2.o]);simp only [W1.o,W2.o,EL.o,EH.o]
 go_ret2
 exact⟨rfl,rfl⟩
theorem oO (x:Int)(hx:Wd x)(w:World):
  Calls prog 141 #[.int .u64 x] w λe w'=>e=.returned (.int .i64 (tN x))/\w=w':=by
 have H:=zb (kU x hx w);go_enter func141,ntmps141;go_wp2_with (go_at_call 155;refine H.o.mono ?_;rintro e w' ⟨rfl,rfl⟩);go_ret;exact⟨rfl,rfl⟩
theorem Mc (x:Int)(hx:Wd x)(w:World):
  Calls prog 183 #[.int .u64 x] w λe w'=>e=.returned (.int .i64 (64 - tN x))/\w=w':=by
 have H:=zb (pi x hx w);go_enter func183,ntmps183;go_wp2_with (go_at_call 189;refine H.o.mono ?_;rintro e w' ⟨rfl,rfl⟩);go_ret;exact⟨rfl,rfl⟩
