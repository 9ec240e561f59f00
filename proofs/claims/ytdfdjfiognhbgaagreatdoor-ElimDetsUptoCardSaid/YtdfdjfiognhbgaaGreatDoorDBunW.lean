/- What this claim leans on. -/
import Derived.Test.YtdfdjfiognhbgaaGreatDoorDPre
import Derived.Test.YtdfdjfiognhbgaaGreatDoorRows
import Derived.Laws.Bits64b
import Derived.Laws.Externs
import Derived.Laws.MathBits
import Derived.Lib.Hide
import Derived.Lib.Mul64
import Derived.Lib.TrailingZeros
import Derived.Outline
import Derived.WalkKit
set_option linter.unusedVariables false
set_option linter.unusedSimpArgs false
namespace Go.Proofs.YtdfdjfiognhbgaaGreatDoor
open Go Go.RowKit Go.Proofs.Tryz
set_option maxHeartbeats 16000000
variable {x y:Int}
def uw (x y c:Int):Int:=(x+y+c%2)%18446744073709551616
def uv (x y c:Int):Int:=(x+y+c%2) / 18446744073709551616
def oe (x y c:Int):Int:=(x - y - c%2)%18446744073709551616
def od (x y c:Int):Int:=if x<y+c%2 then 1 else 0
def Wd (x:Int):Prop:=0<=x/\x<18446744073709551616
theorem sO (x y c:Int):Wd (uw x y c):=by unfold Wd uw;omega
theorem VK {c:Int}(hx:Wd x)(hy:Wd y):0<=uv x y c/\uv x y c<=1:=by unfold Wd at hx hy;unfold uv;omega
def tP (x y:Int):Int:=x*y / 18446744073709551616
def vu (x y:Int):Int:=x*y%18446744073709551616
def vo (x y a b:Int):Int:=(x*y+a+b) / 18446744073709551616
def tC (x y a b:Int):Int:=(x*y+a+b)%18446744073709551616
theorem r9 (hx:Wd x)(hy:Wd y):0<=x*y/\x*y<=340282366920938463426481119284349108225:=by
 obtain⟨a,b⟩:=hx;obtain⟨c,d⟩:=hy;refine⟨YW a c,?_⟩;have:x*y<=18446744073709551615*18446744073709551615:=Int.mul_le_mul zb zb c zb;simpa using this
theorem rU (hx:Wd x)(hy:Wd y):Wd (tP x y):=by have:=r9 hx hy;unfold Wd tP;omega
theorem rZ (x y:Int):Wd (vu x y):=by unfold Wd vu;omega
theorem nQ {a b:Int}(hx:Wd x)(hy:Wd y)(ha:Wd a)(hb:Wd b):Wd (vo x y a b):=by
 have:=r9 hx hy;unfold Wd at*;unfold vo;omega
theorem nR (x y a b:Int):((vu x y+a)%18446744073709551616+b)%18446744073709551616=tC x y a b:=by
 unfold vu tC;omega
theorem nP (x y a b:Int):tP x y+(vu x y+a) / 18446744073709551616+((vu x y+a)%18446744073709551616+b) / 18446744073709551616=vo x y a b:=by
 unfold vu tP vo;omega
def uX (x:Int):Int:=(bitLen x.toNat:Nat)
def jW (x:Int):Int:=(Lib.ctz 64 x.toNat:Nat)
theorem jt (n k:Nat)(h:n<2^k):bitLen n<=k:=by
 unfold bitLen
 split
 ·omega
 ·rename_i h0
  have:=(Nat.log2_lt h0).2 h;omega
theorem nM (hx:Wd x):0<=uX x/\uX x<=64:=by
 unfold Wd at hx;have:=jt x.toNat 64 zb;unfold uX;omega
theorem kI (x:Nat)(hx:x<2^64):Lib.ctz 64 x<=64:=by
 by_cases h:x=0
 ·subst h;decide
 ·have:=(Lib.lowest_bit 64 x h hx).2;omega
def vm (hi lo y:Int):Int:=(hi*18446744073709551616+lo) / y
def vn (hi lo y:Int):Int:=(hi*18446744073709551616+lo)%y
theorem ZS (q Y:Int):q*Y=(q*(Y / 4294967296))*4294967296+q*(Y%4294967296):=by
 have h:Y=Y / 4294967296*4294967296+Y%4294967296:=zb
 calc q * Y = q * (Y / 4294967296 * 4294967296 + Y % 4294967296):=by rw [← h]
  _=_:=by rw [Int.mul_add,Int.mul_assoc]
def ou (U u:Int):Int:=U*4294967296+u
def ww (U u Y:Int):Int:=ou U u / Y
def wY (U u Y:Int):Int:=ou U u%Y
structure uE (U u Y q r:Int):Prop where
 sum:U=q*(Y / 4294967296)+r
 low:0<=r
 q_lo:ww U u Y<=q
 q_hi:q<=4294967297
section
variable {U u Y q r:Int}
theorem jS (hU:0<=U)(hUY:U<Y)(hu:0<=u)(hu':u<4294967296):0<=ww U u Y/\ww U u Y<4294967296:=by
 unfold ww ou;refine⟨YS zb zb,Int.ediv_lt_of_lt_mul zb ?_⟩;have:(U+1)*4294967296<=Y*4294967296:=yN zb zb;omega
theorem dM (hY:0<Y):0<=wY U u Y/\wY U u Y<Y:=⟨YA _ zb,YL _ hY⟩
theorem aX (U u Y:Int):ww U u Y*Y+wY U u Y=ou U u:=by unfold ww wY;rw [yP];exact yQ _ _
theorem ZO (hY:0<Y):q<=ww U u Y↔q*Y<=ou U u:=by unfold ww;exact Int.le_ediv_iff_mul_le hY
theorem uE.start (hU:0<=U)(a:U<Y)(hY:9223372036854775808<=Y)(hY':Y<18446744073709551616)(hu:0<=u)(c:u<4294967296):
  uE U u Y (U / (Y / 4294967296)) (U - U / (Y / 4294967296)*(Y / 4294967296)):=by
 have hA:2147483648<=Y / 4294967296:=zb;have hm:=yQ U (Y / 4294967296);have hr0:=YA U (show Y / 4294967296≠0 by omega);rw [yP] at hm;refine⟨zb,zb,?_,?_⟩
 ·refine(Int.le_ediv_iff_mul_le zb).2 ?_;have h1:=(ZO (U:=U) (u:=u) (Y:=Y) (q:=ww U u Y) zb).1 (Int.le_refl _);have hb:=jS hU a hu c;have h2:=ZS (ww U u Y) Y;have h3:0<=ww U u Y*(Y%4294967296):=YW hb.1 zb;unfold ou at h1;omega
 ·have h4:U / (Y / 4294967296)<4294967298:=by
   refine Int.ediv_lt_of_lt_mul zb ?_;omega
  omega
theorem uE.down (h:uE U u Y q r)(hU:0<=U)(a:U<Y)(hY:9223372036854775808<=Y)(hu:0<=u)(c:u<4294967296)
  (ht:4294967296<=q\/4294967296*r+u<q*(Y%4294967296)):uE U u Y (q - 1) (r+Y / 4294967296):=by
 have hb:=jS hU a hu c;obtain⟨hs,hl,h1,h2⟩:=h;refine⟨by rw [Int.sub_mul];omega,zb,?_,zb⟩;rcases ht with ht|ht
 ·omega
 ·have:¬ q<=ww U u Y:=by
   rw [ZO zb];have:=ZS q Y;unfold ou;omega
  omega
theorem uE.done (h:uE U u Y q r)(hY:9223372036854775808<=Y)(ht:q*(Y%4294967296)<=4294967296*r+u):q=ww U u Y:=by
 obtain⟨hs,hl,h1,h2⟩:=h;have:q<=ww U u Y:=by
  rw [ZO zb];have:=ZS q Y;unfold ou;omega
 omega
theorem uE.past (h:uE U u Y q r)(hY:9223372036854775808<=Y)(hu:0<=u)(hq:q<=4294967296)(hr:4294967296<=r):q=ww U u Y:=by
 refine h.done hY ?_;have h0:q*(Y%4294967296)<=4294967296*(Y%4294967296):=yN hq zb;omega
theorem uE.room (h:uE U u Y q r)(hU:0<=U)(a:U<Y)(hu:0<=u)(c:u<4294967296)(hr:r<4294967296):
  0<=q/\0<=q*(Y%4294967296)/\q*(Y%4294967296)<18446744073709551616/\0<=4294967296*r+u/\4294967296*r+u<18446744073709551616:=by
 have hb:=jS hU a hu c;obtain⟨hs,hl,h1,h2⟩:=h;have h3:q*(Y%4294967296)<=4294967297*(Y%4294967296):=yN h2 zb;have h4:0<=q*(Y%4294967296):=YW zb zb;omega
theorem UC (hY:0<Y)(hY':Y<18446744073709551616):
  ((U*4294967296%18446744073709551616+u)%18446744073709551616 - ww U u Y*Y%18446744073709551616)%18446744073709551616=wY U u Y:=by
 have h:=aX U u Y;have hb:=dM (U:=U) (u:=u) hY;unfold ou at h;omega
end
theorem kN (U V Y:Int)(hU:0<=U)(hUY:U<Y):
  ww U (V / 4294967296) Y*4294967296+ww (wY U (V / 4294967296) Y) (V%4294967296) Y=(U*18446744073709551616+V) / Y/\
  wY (wY U (V / 4294967296) Y) (V%4294967296) Y=(U*18446744073709551616+V)%Y:=by
 have hY:0<Y:=zb;have h1:=aX U (V / 4294967296) Y;have h2:=aX (wY U (V / 4294967296) Y) (V%4294967296) Y;have b2:=dM (U:=wY U (V / 4294967296) Y) (u:=V%4294967296) hY;have c:Y*(ww U (V / 4294967296) Y*4294967296+ww (wY U (V / 4294967296) Y) (V%4294967296) Y)+wY (wY U (V / 4294967296) Y) (V%4294967296) Y=U*18446744073709551616+V:=by
  generalize ww (wY U (V / 4294967296) Y) (V%4294967296) Y=q0 at*;generalize wY (wY U (V / 4294967296) Y) (V%4294967296) Y=r0 at*;generalize ww U (V / 4294967296) Y=q1 at*;generalize wY U (V / 4294967296) Y=r1 at*;unfold ou at h1 h2;rw [Int.mul_add,yP Y,yP Y,Int.mul_right_comm];omega
 have e1:=Int.ediv_emod_unique (a:=U*18446744073709551616+V) (b:=Y) (r:=wY (wY U (V / 4294967296) Y) (V%4294967296) Y) (q:=ww U (V / 4294967296) Y*4294967296+ww (wY U (V / 4294967296) Y) (V%4294967296) Y) hY;obtain⟨g1,g2⟩:=e1.2 ⟨by rw [Int.add_comm];exact c,b2.1,b2.2⟩;exact⟨g1.symm,g2.symm⟩
theorem rh (M y P:Int)(hP:0<P):(M*P) / (y*P)=M / y/\(M*P)%(y*P) / P=M%y:=by
 refine⟨Int.mul_ediv_mul_of_pos_left _ _ hP,?_⟩;rw [yP M,yP y,Int.mul_emod_mul_of_pos _ _ hP];exact Int.mul_ediv_cancel_left _ zb
theorem ni (hi lo y:Int)(s:Nat)(hs:s<=63)(hh:0<=hi)(hy0:hi<y)(hl:0<=lo)(i:lo<18446744073709551616):
  0<=hi*2^s+lo / 2^(64 - s)/\hi*2^s+lo / 2^(64 - s)<y*2^s/\
  (hi*2^s+lo / 2^(64 - s))*18446744073709551616+lo*2^s%18446744073709551616=(hi*18446744073709551616+lo)*2^s:=by
 have hp:(0:Int)<2^s:=Int.pow_pos zg;have j:(0:Int)<2^(64 - s):=Int.pow_pos zg;have g:(2:Int)^(64 - s)*2^s=18446744073709551616:=by
  rw [<-Int.pow_add,show 64 - s+s=64 from by omega];decide
 have hlt:lo / 2^(64 - s)<2^s:=by
  refine Int.ediv_lt_of_lt_mul j ?_;rw [yP,g];exact i
 have h0:0<=lo / 2^(64 - s):=YS hl zb;have hh2:0<=hi*2^s:=YW hh zb;have d:(hi+1)*2^s<=y*2^s:=yN zb zb;have e:lo*2^s / 18446744073709551616=lo / 2^(64 - s):=by
  rw [<-g];exact Int.mul_ediv_mul_of_pos_left _ _ hp
 have e2:=yQ (lo*2^s) 18446744073709551616;rw [e] at e2;refine⟨zb,?_,?_⟩
 ·rw [Int.add_mul] at d;omega
 ·generalize lo / 2^(64 - s)=a at*;generalize hb:lo*2^s=b at*;have:(hi*18446744073709551616+lo)*2^s=hi*2^s*18446744073709551616+b:=by
   rw [Int.add_mul,hb,Int.mul_right_comm]
  rw [this];generalize hi*2^s=c at*;omega
theorem VD (y:Int)(h0:0<y)(h1:y<18446744073709551616):∃s:Nat,64 - uX y=s/\s<=63/\9223372036854775808<=y*2^s/\y*2^s<18446744073709551616:=by
 have hb:=bitLen_spec y.toNat;have hl:=jt y.toNat 64 zb;have a:y.toNat≠0:=zb;have h3:=hb.2 a;have hpos:1<=bitLen y.toNat:=by
  rcases QT (bitLen y.toNat) with h|h
  ·rw [h] at hb;simp at hb;omega
  ·exact h
 refine⟨64 - bitLen y.toNat,by unfold uX;omega,zb,?_,?_⟩
 ·have:(2:Nat)^(bitLen y.toNat - 1)*2^(64 - bitLen y.toNat)<=y.toNat*2^(64 - bitLen y.toNat):=qW _ h3;rw [<-xX,show bitLen y.toNat - 1+(64 - bitLen y.toNat)=63 from by omega] at this;have e:y*2^(64 - bitLen y.toNat)=((y.toNat*2^(64 - bitLen y.toNat):Nat):Int):=by
   rw [QN,Int.toNat_of_nonneg zb,yS];rfl
  rw [e];omega
 ·have:y.toNat*2^(64 - bitLen y.toNat)<2^bitLen y.toNat*2^(64 - bitLen y.toNat):=Nat.mul_lt_mul_of_pos_right hb.1 (QW _);rw [<-xX,show bitLen y.toNat+(64 - bitLen y.toNat)=64 from by omega] at this;have e:y*2^(64 - bitLen y.toNat)=((y.toNat*2^(64 - bitLen y.toNat):Nat):Int):=by
   rw [QN,Int.toNat_of_nonneg zb,yS];rfl
  rw [e];omega
theorem mg (a b:Int)(s:Nat)(h0:0<=a)(h1:a*2^s<18446744073709551616)(h2:0<=b)(h3:b<2^s)(hs:s<=63):
  bits .or .u64 (a*2^s) b=a*2^s+b:=by
 obtain⟨a,rfl⟩:=xU h0;obtain⟨b,rfl⟩:=xU h2;have e:(a:Int)*2^s=((a*2^s:Nat):Int):=by rw [QN,yS];rfl
 have e3:b<2^s:=by
  have:((2^s:Nat):Int)=(2:Int)^s:=by rw [yS];rfl
  omega
 have c:b<18446744073709551616:=qJ e3 (by
  have:=qV (n:=2) zg (show s<=64 from by omega);simpa using this)
 rw [e] at h1⊢;rw [bits_or_u64_nat _ _ zb c];have:=Nat.shiftLeft_add_eq_or_of_lt e3 a;rw [Nat.shiftLeft_eq] at this;rw [<-this];omega
theorem gD (c:Int)(hc:Wd c):bits .and .u64 c 1=c%2:=by
 obtain⟨h0,h1⟩:=hc;obtain⟨c,rfl⟩:=xU h0;have h:=bits_and_u64_nat c 1 zb zb;have e:c&&&1=c%2:=Nat.and_two_pow_sub_one_eq_mod c 1;rw [e] at h;simpa using h
theorem sN (x y c:Int)(hx:Wd x)(hy:Wd y)(a:0<=c)(hc:c<=1)(w:World):
  (callFunc 183 #[.int .u64 x,.int .u64 y,.int .u64 c]).run prog w=.ok (.value (.tuple #[.int .u64 (uw x y c),.int .u64 (uv x y c)])) w:=by
 rw [run_callFunc_extern func183 zP zP zP (e:=add64Entry) zP,run_add64 x y c hx.1 hy.1 a hc];have e:c%2=c:=zb;unfold uw uv;rw [e];rfl
def pB:Array Value->Sem Value:=λargs=>do
 let (x,y,b) ← Extern.MathBitsCarry.three "Sub64" args
 pure (Extern.MathBitsCarry.pair ((x+Extern.MathBitsCarry.m64 - y - b)%Extern.MathBitsCarry.m64) (if x<y+b then 1 else 0))
theorem Ql (P:Program)(x y b:Nat)(hb:b<=1)(w:World):
  (pB #[.int .u64 x,.int .u64 y,.int .u64 b]).run P w =
    .ok (.tuple #[.int .u64 (((x+18446744073709551616 - y - b)%18446744073709551616:Nat):Int),.int .u64 ((if x<y+b then 1 else 0:Nat):Int)]) w:=by
 have:b=0\/b=1:=zb;rcases this with rfl|rfl<;>rfl
theorem lO (x y b:Int)(hx:Wd x)(hy:Wd y)(a:0<=b)(hb:b<=1)(w:World):
  (callFunc 207 #[.int .u64 x,.int .u64 y,.int .u64 b]).run prog w=.ok (.value (.tuple #[.int .u64 (oe x y b),.int .u64 (od x y b)])) w:=by
 obtain⟨c,hx1⟩:=hx;obtain⟨d,hy1⟩:=hy;obtain⟨x,rfl⟩:=xU c;obtain⟨y,rfl⟩:=xU d;obtain⟨b,rfl⟩:=xU a;have e1:(((x+18446744073709551616 - y - b)%18446744073709551616:Nat):Int)=oe x y b:=by unfold oe;omega
 have e2:((if x<y+b then 1 else 0:Nat):Int)=od x y b:=by unfold od;split<;>split<;>omega
 rw [run_callFunc_extern func207 zP zP zP (e:=pB) zP,Ql _ x y b zb,e1,e2];rfl
namespace M64
set_option maxHeartbeats 16000000
theorem maskN (a:Nat)(ha:a<18446744073709551616):bits .and .u64 (a:Int) 4294967295=((a%4294967296:Nat):Int):=by
 have h:=bits_and_u64_nat a 4294967295 ha zb;have e:a&&&4294967295=a%4294967296:=Nat.and_two_pow_sub_one_eq_mod a 32;rw [e] at h;exact h
theorem divN (a:Nat):(a:Int) / 4294967296=((a / 4294967296:Nat):Int):=zb
theorem mulN (a b:Nat):(a:Int)*(b:Int)=((a*b:Nat):Int):=(QN a b).symm
theorem addN (a b:Nat):(a:Int)+(b:Int)=((a+b:Nat):Int):=(Int.natCast_add a b).symm
theorem wrapN (a:Nat)(ha:a<18446744073709551616):IntKind.u64.wrap (a:Int)=(a:Int):=by rw [QA];omega
theorem wrapM (a:Nat):IntKind.u64.wrap (a:Int)=((a%18446744073709551616:Nat):Int):=by rw [QA];omega
end M64
theorem PW (x y:Nat)(hx:x<18446744073709551616)(hy:y<18446744073709551616)(w:World):
  Calls prog 182 #[.int .u64 x,.int .u64 y] w λe w'=>e=.returned (.tuple #[.int .u64 ((x*y / 18446744073709551616:Nat):Int),.int .u64 ((x*y%18446744073709551616:Nat):Int)])/\w=w':=by
 obtain⟨bd,bt,bw,j⟩:=Lib.mul64_hi x y hx hy;have ba:=Lib.half_mul_le (a:=x / 4294967296) (b:=y / 4294967296) zb zb;have bb:=Lib.half_mul_le (a:=x / 4294967296) (b:=y%4294967296) zb zb;have bc:=Lib.half_mul_le (a:=x%4294967296) (b:=y / 4294967296) zb zb;have c:x / 4294967296*(y / 4294967296)<18446744073709551616:=zb;have d:x / 4294967296*(y%4294967296)<18446744073709551616:=zb;have g:x%4294967296*(y / 4294967296)<18446744073709551616:=zb;have i:x / 4294967296*(y / 4294967296)+(x / 4294967296*(y%4294967296)+x%4294967296*(y%4294967296) / 4294967296) / 4294967296<18446744073709551616:=zb;have bh:x / 4294967296*(y / 4294967296)+(x / 4294967296*(y%4294967296)+x%4294967296*(y%4294967296) / 4294967296) / 4294967296+((x / 4294967296*(y%4294967296)+x%4294967296*(y%4294967296) / 4294967296)%4294967296+x%4294967296*(y / 4294967296)) / 4294967296<18446744073709551616:=zb;go_enter func182,ntmps182;go_wp2;simp only [M64.maskN x hx,M64.maskN y hy,M64.divN,M64.mulN,M64.addN,M64.wrapN _ bd,M64.wrapN _ d,M64.wrapN _ bt,M64.maskN _ bt,M64.wrapN _ g,M64.wrapN _ bw,M64.wrapN _ c,M64.wrapN _ i,M64.wrapN _ bh,M64.wrapM (x*y)];rw [j]
 go_ret2
 exact⟨rfl,rfl⟩
theorem lI (x y:Int)(hx:Wd x)(hy:Wd y)(w:World):
  Calls prog 182 #[.int .u64 x,.int .u64 y] w λe w'=>e=.returned (.tuple #[.int .u64 (tP x y),.int .u64 (vu x y)])/\w=w':=by
 obtain⟨a,hx1⟩:=hx;obtain⟨c,hy1⟩:=hy;obtain⟨x,rfl⟩:=xU a;obtain⟨y,rfl⟩:=xU c;have e1:tP x y=((x*y / 18446744073709551616:Nat):Int):=by unfold tP;rw [<-QN];omega
 have e2:vu x y=((x*y%18446744073709551616:Nat):Int):=by unfold vu;rw [<-QN];omega
 rw [e1,e2];exact PW x y zb zb w
theorem jL (x z:Int)(k:Nat)(hk:k<=56)(h0:0<=z)(h1:z<256)(hz:z.toNat=x.toNat / 2^k)(a:k=0\/z≠0):wrap64 ((k:Int)+wrap64 ((bitLen z.toNat:Nat):Int))=uX x:=by
 have hl:=bitLen_le8 z.toNat zb;have e1:wrap64 ((bitLen z.toNat:Nat):Int)=((bitLen z.toNat:Nat):Int):=IntWalk.wrap64_in _ zb;have e2:bitLen x.toNat=k+bitLen z.toNat:=by
  rcases a with rfl|a
  ·rw [hz];simp
  ·rw [hz];exact bitLen_shift x.toNat k (by rw [<-hz];omega)
 rw [e1,IntWalk.wrap64_in _ zb];unfold uX;rw [e2];omega
theorem rN (x:Int)(h0:0<=x)(h1:x<256):wrap64 (wrap64 ((bitLen x.toNat:Nat):Int))=uX x:=by
 have hl:=bitLen_le8 x.toNat zb;have e:wrap64 ((bitLen x.toNat:Nat):Int)=((bitLen x.toNat:Nat):Int):=IntWalk.wrap64_in _ zb;rw [e,e];rfl
set_option maxRecDepth 100000 in
theorem lH (x:Int)(hx:Wd x)(w:World):
  Calls prog 170 #[.int .u64 x] w λe w'=>e=.returned (.int .i64 (uX x))/\w=w':=by
 obtain⟨h0,h1⟩:=hx;go_enter func170,ntmps170;go_wp2
 all_goals
  go_ret
  refine⟨congrArg Ending.returned (congrArg (Value.int IntKind.i64) ?_),rfl⟩
  rw [len8tab_get]
 all_goals first
  |exact jL x (x / 4294967296 / 65536 / 256) 56 zb zb zb zb (.inr zb)
  |exact jL x (x / 4294967296 / 65536) 48 zb zb zb zb (.inr zb)
  |exact jL x (x / 4294967296 / 256) 40 zb zb zb zb (.inr zb)
  |exact jL x (x / 4294967296) 32 zb zb zb zb (.inr zb)
  |exact jL x (x / 65536 / 256) 24 zb zb zb zb (.inr zb)
  |exact jL x (x / 65536) 16 zb zb zb zb (.inr zb)
  |exact jL x (x / 256) 8 zb zb zb zb (.inr zb)
  |exact rN x zb zb
theorem rL (x:Int)(hx:Wd x)(w:World):
  Calls prog 210 #[.int .u64 x] w λe w'=>e=.returned (.int .i64 (64 - uX x))/\w=w':=by
 have H:=za (lH x hx w);have b:=nM hx;obtain⟨b0,b1⟩:=b;go_enter func210,ntmps210;go_wp2_with (go_at_call 170;refine H.o.mono ?_;rintro e w' ⟨rfl,rfl⟩);go_ret;exact⟨rfl,rfl⟩
theorem Ud (x y c:Int)(hx:Wd x)(hy:Wd y)(hc:Wd c)(w:World):
  Calls prog 205 #[.int .u64 x,.int .u64 y,.int .u64 c] w λe w'=>e=.returned (.tuple #[.int .u64 (uw x y c),.int .u64 (uv x y c)])/\w=w':=by
 have L:=za (gD c hc);have H:=za (sN x y (c%2) hx hy zb zb);have e1:uw x y (c%2)=uw x y c:=by unfold uw;omega
 have e2:uv x y (c%2)=uv x y c:=by unfold uv;omega
 rw [e1,e2] at H;clear e1 e2;go_enter func205,ntmps205;go_wp2_with (first|simp only [L.o,H.o])
 go_ret2
 exact⟨rfl,rfl⟩
theorem Uu (x y c:Int)(hx:Wd x)(hy:Wd y)(hc:Wd c)(w:World):
  Calls prog 206 #[.int .u64 x,.int .u64 y,.int .u64 c] w λe w'=>e=.returned (.tuple #[.int .u64 (oe x y c),.int .u64 (od x y c)])/\w=w':=by
 have L:=za (gD c hc);have H:=za (lO x y (c%2) hx hy zb zb);have e1:oe x y (c%2)=oe x y c:=by unfold oe;omega
 have e2:od x y (c%2)=od x y c:=by unfold od;rw [show c%2%2=c%2 from by omega]
 rw [e1,e2] at H;clear e1 e2;go_enter func206,ntmps206;go_wp2_with (first|simp only [L.o,H.o])
 go_ret2
 exact⟨rfl,rfl⟩
theorem pR (x y:Int)(hx:Wd x)(hy:Wd y)(w:World):
  Calls prog 214 #[.int .u64 x,.int .u64 y] w λe w'=>e=.returned (.tuple #[.int .u64 (tP x y),.int .u64 (vu x y)])/\w=w':=by
 have H:=za (lI x y hx hy w);go_enter func214,ntmps214;go_wp2_with (go_at_call 182;refine H.o.mono ?_;rintro e w' ⟨rfl,rfl⟩)
 go_ret2
 exact⟨rfl,rfl⟩
theorem SQ (x y a b:Int)(hx:Wd x)(hy:Wd y)(ha:Wd a)(hb:Wd b)(w:World):
  Calls prog 165 #[.int .u64 x,.int .u64 y,.int .u64 a,.int .u64 b] w λe w'=>e=.returned (.tuple #[.int .u64 (vo x y a b),.int .u64 (tC x y a b)])/\w=w':=by
 have hl:=rZ x y;have hs:=sO (vu x y) a 0;have H:=za (lI x y hx hy w);have A1:=za (sN (vu x y) a 0 hl ha zb zb w);have A2:=za (sN (uw (vu x y) a 0) b 0 hs hb zb zb w);have eL:uw (uw (vu x y) a 0) b 0=tC x y a b:=by rw [<-nR];unfold uw;omega
 have eH:tP x y+uv (vu x y) a 0+uv (uw (vu x y) a 0) b 0=vo x y a b:=by rw [<-nP];unfold uv uw;omega
 have b1:=rU hx hy;have b2:=VK (c:=0) hl ha;have b3:=VK (c:=0) hs hb;have b4:=nQ hx hy ha hb;have EL:=za eL;have EH:=za eH;have W1:zd (IntKind.u64.wrap (tP x y+uv (vu x y) a 0)=tP x y+uv (vu x y) a 0):=by
  rw [QA];unfold Wd at*;show _%_=_;omega
 have W2:zd (IntKind.u64.wrap (vo x y a b)=vo x y a b):=by
  rw [QA];unfold Wd at*;show _%_=_;omega
 clear eL eH b1 b2 b3 b4 hl hs;go_enter func165,ntmps165;go_wp2_with (first|(go_at_call 182;refine H.o.mono ?_;rintro e w' ⟨rfl,rfl⟩)|simp only [A1.o]|simp only [A2.o]);simp only [W1.o,W2.o,EL.o,EH.o]
 go_ret2
 exact⟨rfl,rfl⟩
theorem pQ (x:Int)(hx:Wd x)(w:World):
  Calls prog 150 #[.int .u64 x] w λe w'=>e=.returned (.int .i64 (uX x))/\w=w':=by
 have H:=za (lH x hx w);go_enter func150,ntmps150;go_wp2_with (go_at_call 170;refine H.o.mono ?_;rintro e w' ⟨rfl,rfl⟩);go_ret;exact⟨rfl,rfl⟩
theorem Ok (x:Int)(hx:Wd x)(w:World):
  Calls prog 202 #[.int .u64 x] w λe w'=>e=.returned (.int .i64 (64 - uX x))/\w=w':=by
 have H:=za (rL x hx w);go_enter func202,ntmps202;go_wp2_with (go_at_call 210;refine H.o.mono ?_;rintro e w' ⟨rfl,rfl⟩);go_ret;exact⟨rfl,rfl⟩
