/- What this claim leans on. -/
import Derived.Test.YtielpgdebeggbaaGreatDoorWPre
import Derived.Test.YtielpgdebeggbaaGreatDoorRows
import Derived.Laws.Bits64b
import Derived.Laws.Externs
import Derived.Laws.MathBits
import Derived.Lib.Hide
import Derived.Lib.Mul64
import Derived.Lib.TrailingZeros
import Derived.Outline
import Derived.WalkKit
set_option linter.unusedVariables false
set_option linter.unusedSimpArgs false
namespace Go.Proofs.YtielpgdebeggbaaGreatDoor
open Go Go.RowKit Go.Proofs.Tryz
set_option maxHeartbeats 16000000
variable {x y:Int}
def uM (x y c:Int):Int:=(x+y+c%2)%18446744073709551616
def uL (x y c:Int):Int:=(x+y+c%2) / 18446744073709551616
def ow (x y c:Int):Int:=(x - y - c%2)%18446744073709551616
def ov (x y c:Int):Int:=if x<y+c%2 then 1 else 0
def Wd (x:Int):Prop:=0<=x/\x<18446744073709551616
theorem rl (x y c:Int):Wd (uM x y c):=by unfold Wd uM;omega
theorem Vu {c:Int}(hx:Wd x)(hy:Wd y):0<=uL x y c/\uL x y c<=1:=by unfold Wd at hx hy;unfold uL;omega
def sh (x y:Int):Int:=x*y / 18446744073709551616
def vt (x y:Int):Int:=x*y%18446744073709551616
def vk (x y a b:Int):Int:=(x*y+a+b) / 18446744073709551616
def tN (x y a b:Int):Int:=(x*y+a+b)%18446744073709551616
theorem qr (hx:Wd x)(hy:Wd y):0<=x*y/\x*y<=340282366920938463426481119284349108225:=by
 obtain⟨a,b⟩:=hx;obtain⟨c,d⟩:=hy;refine⟨jZ a c,?_⟩;have:x*y<=18446744073709551615*18446744073709551615:=Int.mul_le_mul zb zb c zb;simpa using this
theorem qn (hx:Wd x)(hy:Wd y):Wd (sh x y):=by have:=qr hx hy;unfold Wd sh;omega
theorem qo (x y:Int):Wd (vt x y):=by unfold Wd vt;omega
theorem nU {a b:Int}(hx:Wd x)(hy:Wd y)(ha:Wd a)(hb:Wd b):Wd (vk x y a b):=by
 have:=qr hx hy;unfold Wd at*;unfold vk;omega
theorem nV (x y a b:Int):((vt x y+a)%18446744073709551616+b)%18446744073709551616=tN x y a b:=by
 unfold vt tN;omega
theorem nT (x y a b:Int):sh x y+(vt x y+a) / 18446744073709551616+((vt x y+a)%18446744073709551616+b) / 18446744073709551616=vk x y a b:=by
 unfold vt sh vk;omega
def te (x:Int):Int:=(bitLen x.toNat:Nat)
def jv (x:Int):Int:=(Lib.ctz 64 x.toNat:Nat)
theorem eT (n k:Nat)(h:n<2^k):bitLen n<=k:=by
 unfold bitLen
 split
 ·omega
 ·rename_i h0
  have:=(Nat.log2_lt h0).2 h;omega
theorem nN (hx:Wd x):0<=te x/\te x<=64:=by
 unfold Wd at hx;have:=eT x.toNat 64 zb;unfold te;omega
theorem lX (x:Nat)(hx:x<2^64):Lib.ctz 64 x<=64:=by
 by_cases h:x=0
 ·subst h;decide
 ·have:=(Lib.lowest_bit 64 x h hx).2;omega
def vg (hi lo y:Int):Int:=(hi*18446744073709551616+lo) / y
def vh (hi lo y:Int):Int:=(hi*18446744073709551616+lo)%y
theorem ZS (q Y:Int):q*Y=(q*(Y / 4294967296))*4294967296+q*(Y%4294967296):=by
 have h:Y=Y / 4294967296*4294967296+Y%4294967296:=zb
 calc q * Y = q * (Y / 4294967296 * 4294967296 + Y % 4294967296):=by rw [← h]
  _=_:=by rw [Int.mul_add,Int.mul_assoc]
def oC (U u:Int):Int:=U*4294967296+u
def wC (U u Y:Int):Int:=oC U u / Y
def wV (U u Y:Int):Int:=oC U u%Y
structure uP (U u Y q r:Int):Prop where
 sum:U=q*(Y / 4294967296)+r
 low:0<=r
 q_lo:wC U u Y<=q
 q_hi:q<=4294967297
section
variable {U u Y q r:Int}
theorem jt (hU:0<=U)(hUY:U<Y)(hu:0<=u)(hu':u<4294967296):0<=wC U u Y/\wC U u Y<4294967296:=by
 unfold wC oC;refine⟨YC zb zb,Int.ediv_lt_of_lt_mul zb ?_⟩;have:(U+1)*4294967296<=Y*4294967296:=yA zb zb;omega
theorem cK (hY:0<Y):0<=wV U u Y/\wV U u Y<Y:=⟨YE _ zb,YO _ hY⟩
theorem Zm (U u Y:Int):wC U u Y*Y+wV U u Y=oC U u:=by unfold wC wV;rw [yU];exact XT _ _
theorem ZV (hY:0<Y):q<=wC U u Y↔q*Y<=oC U u:=by unfold wC;exact Int.le_ediv_iff_mul_le hY
theorem uP.start (hU:0<=U)(a:U<Y)(hY:9223372036854775808<=Y)(hY':Y<18446744073709551616)(hu:0<=u)(c:u<4294967296):
  uP U u Y (U / (Y / 4294967296)) (U - U / (Y / 4294967296)*(Y / 4294967296)):=by
 have hA:2147483648<=Y / 4294967296:=zb;have hm:=XT U (Y / 4294967296);have hr0:=YE U (show Y / 4294967296≠0 by omega);rw [yU] at hm;refine⟨zb,zb,?_,?_⟩
 ·refine(Int.le_ediv_iff_mul_le zb).2 ?_;have h1:=(ZV (U:=U) (u:=u) (Y:=Y) (q:=wC U u Y) zb).1 (Int.le_refl _);have hb:=jt hU a hu c;have h2:=ZS (wC U u Y) Y;have h3:0<=wC U u Y*(Y%4294967296):=jZ hb.1 zb;unfold oC at h1;omega
 ·have h4:U / (Y / 4294967296)<4294967298:=by
   refine Int.ediv_lt_of_lt_mul zb ?_;omega
  omega
theorem uP.down (h:uP U u Y q r)(hU:0<=U)(a:U<Y)(hY:9223372036854775808<=Y)(hu:0<=u)(c:u<4294967296)
  (ht:4294967296<=q\/4294967296*r+u<q*(Y%4294967296)):uP U u Y (q - 1) (r+Y / 4294967296):=by
 have hb:=jt hU a hu c;obtain⟨hs,hl,h1,h2⟩:=h;refine⟨by rw [Int.sub_mul];omega,zb,?_,zb⟩;rcases ht with ht|ht
 ·omega
 ·have:¬ q<=wC U u Y:=by
   rw [ZV zb];have:=ZS q Y;unfold oC;omega
  omega
theorem uP.done (h:uP U u Y q r)(hY:9223372036854775808<=Y)(ht:q*(Y%4294967296)<=4294967296*r+u):q=wC U u Y:=by
 obtain⟨hs,hl,h1,h2⟩:=h;have:q<=wC U u Y:=by
  rw [ZV zb];have:=ZS q Y;unfold oC;omega
 omega
theorem uP.past (h:uP U u Y q r)(hY:9223372036854775808<=Y)(hu:0<=u)(hq:q<=4294967296)(hr:4294967296<=r):q=wC U u Y:=by
 refine h.done hY ?_;have h0:q*(Y%4294967296)<=4294967296*(Y%4294967296):=yA hq zb;omega
theorem uP.room (h:uP U u Y q r)(hU:0<=U)(a:U<Y)(hu:0<=u)(c:u<4294967296)(hr:r<4294967296):
  0<=q/\0<=q*(Y%4294967296)/\q*(Y%4294967296)<18446744073709551616/\0<=4294967296*r+u/\4294967296*r+u<18446744073709551616:=by
 have hb:=jt hU a hu c;obtain⟨hs,hl,h1,h2⟩:=h;have h3:q*(Y%4294967296)<=4294967297*(Y%4294967296):=yA h2 zb;have h4:0<=q*(Y%4294967296):=jZ zb zb;omega
theorem Up (hY:0<Y)(hY':Y<18446744073709551616):
  ((U*4294967296%18446744073709551616+u)%18446744073709551616 - wC U u Y*Y%18446744073709551616)%18446744073709551616=wV U u Y:=by
 have h:=Zm U u Y;have hb:=cK (U:=U) (u:=u) hY;unfold oC at h;omega
end
theorem lZ (U V Y:Int)(hU:0<=U)(hUY:U<Y):
  wC U (V / 4294967296) Y*4294967296+wC (wV U (V / 4294967296) Y) (V%4294967296) Y=(U*18446744073709551616+V) / Y/\
  wV (wV U (V / 4294967296) Y) (V%4294967296) Y=(U*18446744073709551616+V)%Y:=by
 have hY:0<Y:=zb;have h1:=Zm U (V / 4294967296) Y;have h2:=Zm (wV U (V / 4294967296) Y) (V%4294967296) Y;have b2:=cK (U:=wV U (V / 4294967296) Y) (u:=V%4294967296) hY;have c:Y*(wC U (V / 4294967296) Y*4294967296+wC (wV U (V / 4294967296) Y) (V%4294967296) Y)+wV (wV U (V / 4294967296) Y) (V%4294967296) Y=U*18446744073709551616+V:=by
  generalize wC (wV U (V / 4294967296) Y) (V%4294967296) Y=q0 at*;generalize wV (wV U (V / 4294967296) Y) (V%4294967296) Y=r0 at*;generalize wC U (V / 4294967296) Y=q1 at*;generalize wV U (V / 4294967296) Y=r1 at*;unfold oC at h1 h2;rw [Int.mul_add,yU Y,yU Y,Int.mul_right_comm];omega
 have e1:=Int.ediv_emod_unique (a:=U*18446744073709551616+V) (b:=Y) (r:=wV (wV U (V / 4294967296) Y) (V%4294967296) Y) (q:=wC U (V / 4294967296) Y*4294967296+wC (wV U (V / 4294967296) Y) (V%4294967296) Y) hY;obtain⟨g1,g2⟩:=e1.2 ⟨by rw [Int.add_comm];exact c,b2.1,b2.2⟩;exact⟨g1.symm,g2.symm⟩
theorem rJ (M y P:Int)(hP:0<P):(M*P) / (y*P)=M / y/\(M*P)%(y*P) / P=M%y:=by
 refine⟨Int.mul_ediv_mul_of_pos_left _ _ hP,?_⟩;rw [yU M,yU y,Int.mul_emod_mul_of_pos _ _ hP];exact Int.mul_ediv_cancel_left _ zb
theorem nv (hi lo y:Int)(s:Nat)(hs:s<=63)(hh:0<=hi)(hy0:hi<y)(hl:0<=lo)(h:lo<18446744073709551616):
  0<=hi*2^s+lo / 2^(64 - s)/\hi*2^s+lo / 2^(64 - s)<y*2^s/\
  (hi*2^s+lo / 2^(64 - s))*18446744073709551616+lo*2^s%18446744073709551616=(hi*18446744073709551616+lo)*2^s:=by
 have hp:(0:Int)<2^s:=Int.pow_pos zf;have i:(0:Int)<2^(64 - s):=Int.pow_pos zf;have g:(2:Int)^(64 - s)*2^s=18446744073709551616:=by
  rw [<-Int.pow_add,show 64 - s+s=64 from by omega];decide
 have hlt:lo / 2^(64 - s)<2^s:=by
  refine Int.ediv_lt_of_lt_mul i ?_;rw [yU,g];exact h
 have h0:0<=lo / 2^(64 - s):=YC hl zb;have hh2:0<=hi*2^s:=jZ hh zb;have d:(hi+1)*2^s<=y*2^s:=yA zb zb;have e:lo*2^s / 18446744073709551616=lo / 2^(64 - s):=by
  rw [<-g];exact Int.mul_ediv_mul_of_pos_left _ _ hp
 have e2:=XT (lo*2^s) 18446744073709551616;rw [e] at e2;refine⟨zb,?_,?_⟩
 ·rw [Int.add_mul] at d;omega
 ·generalize lo / 2^(64 - s)=a at*;generalize hb:lo*2^s=b at*;have:(hi*18446744073709551616+lo)*2^s=hi*2^s*18446744073709551616+b:=by
   rw [Int.add_mul,hb,Int.mul_right_comm]
  rw [this];generalize hi*2^s=c at*;omega
theorem VV (y:Int)(h0:0<y)(h1:y<18446744073709551616):∃s:Nat,64 - te y=s/\s<=63/\9223372036854775808<=y*2^s/\y*2^s<18446744073709551616:=by
 have hb:=bitLen_spec y.toNat;have hl:=eT y.toNat 64 zb;have a:y.toNat≠0:=zb;have h3:=hb.2 a;have hpos:1<=bitLen y.toNat:=by
  rcases xQ (bitLen y.toNat) with h|h
  ·rw [h] at hb;simp at hb;omega
  ·exact h
 refine⟨64 - bitLen y.toNat,by unfold te;omega,zb,?_,?_⟩
 ·have:(2:Nat)^(bitLen y.toNat - 1)*2^(64 - bitLen y.toNat)<=y.toNat*2^(64 - bitLen y.toNat):=qS _ h3;rw [<-xI,show bitLen y.toNat - 1+(64 - bitLen y.toNat)=63 from by omega] at this;have e:y*2^(64 - bitLen y.toNat)=((y.toNat*2^(64 - bitLen y.toNat):Nat):Int):=by
   rw [QI,Int.toNat_of_nonneg zb,yH];rfl
  rw [e];omega
 ·have:y.toNat*2^(64 - bitLen y.toNat)<2^bitLen y.toNat*2^(64 - bitLen y.toNat):=Nat.mul_lt_mul_of_pos_right hb.1 (xS _);rw [<-xI,show bitLen y.toNat+(64 - bitLen y.toNat)=64 from by omega] at this;have e:y*2^(64 - bitLen y.toNat)=((y.toNat*2^(64 - bitLen y.toNat):Nat):Int):=by
   rw [QI,Int.toNat_of_nonneg zb,yH];rfl
  rw [e];omega
theorem mp (a b:Int)(s:Nat)(h0:0<=a)(h1:a*2^s<18446744073709551616)(h2:0<=b)(h3:b<2^s)(hs:s<=63):
  bits .or .u64 (a*2^s) b=a*2^s+b:=by
 obtain⟨a,rfl⟩:=xP h0;obtain⟨b,rfl⟩:=xP h2;have e:(a:Int)*2^s=((a*2^s:Nat):Int):=by rw [QI,yH];rfl
 have e3:b<2^s:=by
  have:((2^s:Nat):Int)=(2:Int)^s:=by rw [yH];rfl
  omega
 have c:b<18446744073709551616:=qJ e3 (by
  have:=qR (n:=2) zf (show s<=64 from by omega);simpa using this)
 rw [e] at h1⊢;rw [bits_or_u64_nat _ _ zb c];have:=Nat.shiftLeft_add_eq_or_of_lt e3 a;rw [Nat.shiftLeft_eq] at this;rw [<-this];omega
theorem low1 (c:Int)(hc:Wd c):bits .and .u64 c 1=c%2:=by
 obtain⟨h0,h1⟩:=hc;obtain⟨c,rfl⟩:=xP h0;have h:=bits_and_u64_nat c 1 zb zb;have e:c&&&1=c%2:=Nat.and_two_pow_sub_one_eq_mod c 1;rw [e] at h;simpa using h
theorem rk (x y c:Int)(hx:Wd x)(hy:Wd y)(a:0<=c)(hc:c<=1)(w:World):
  (callFunc 143 #[.int .u64 x,.int .u64 y,.int .u64 c]).run prog w=.ok (.value (.tuple #[.int .u64 (uM x y c),.int .u64 (uL x y c)])) w:=by
 rw [run_callFunc_extern func143 ye ye ye (e:=add64Entry) ye,run_add64 x y c hx.1 hy.1 a hc];have e:c%2=c:=zb;unfold uM uL;rw [e];rfl
def pL:Array Value->Sem Value:=λargs=>do
 let (x,y,b) ← Extern.MathBitsCarry.three "Sub64" args
 pure (Extern.MathBitsCarry.pair ((x+Extern.MathBitsCarry.m64 - y - b)%Extern.MathBitsCarry.m64) (if x<y+b then 1 else 0))
theorem S5 (P:Program)(x y b:Nat)(hb:b<=1)(w:World):
  (pL #[.int .u64 x,.int .u64 y,.int .u64 b]).run P w =
    .ok (.tuple #[.int .u64 (((x+18446744073709551616 - y - b)%18446744073709551616:Nat):Int),.int .u64 ((if x<y+b then 1 else 0:Nat):Int)]) w:=by
 have:b=0\/b=1:=zb;rcases this with rfl|rfl<;>rfl
theorem lv (x y b:Int)(hx:Wd x)(hy:Wd y)(a:0<=b)(hb:b<=1)(w:World):
  (callFunc 166 #[.int .u64 x,.int .u64 y,.int .u64 b]).run prog w=.ok (.value (.tuple #[.int .u64 (ow x y b),.int .u64 (ov x y b)])) w:=by
 obtain⟨c,hx1⟩:=hx;obtain⟨d,hy1⟩:=hy;obtain⟨x,rfl⟩:=xP c;obtain⟨y,rfl⟩:=xP d;obtain⟨b,rfl⟩:=xP a;have e1:(((x+18446744073709551616 - y - b)%18446744073709551616:Nat):Int)=ow x y b:=by unfold ow;omega
 have e2:((if x<y+b then 1 else 0:Nat):Int)=ov x y b:=by unfold ov;split<;>split<;>omega
 rw [run_callFunc_extern func166 ye ye ye (e:=pL) ye,S5 _ x y b zb,e1,e2];rfl
namespace M64
set_option maxHeartbeats 16000000
theorem maskN (a:Nat)(ha:a<18446744073709551616):bits .and .u64 (a:Int) 4294967295=((a%4294967296:Nat):Int):=by
 have h:=bits_and_u64_nat a 4294967295 ha zb;have e:a&&&4294967295=a%4294967296:=Nat.and_two_pow_sub_one_eq_mod a 32;rw [e] at h;exact h
theorem divN (a:Nat):(a:Int) / 4294967296=((a / 4294967296:Nat):Int):=zb
theorem mulN (a b:Nat):(a:Int)*(b:Int)=((a*b:Nat):Int):=(QI a b).symm
theorem addN (a b:Nat):(a:Int)+(b:Int)=((a+b:Nat):Int):=(Int.natCast_add a b).symm
theorem wrapN (a:Nat)(ha:a<18446744073709551616):IntKind.u64.wrap (a:Int)=(a:Int):=by rw [xY];omega
theorem wrapM (a:Nat):IntKind.u64.wrap (a:Int)=((a%18446744073709551616:Nat):Int):=by rw [xY];omega
end M64
theorem Q6 (x y:Nat)(hx:x<18446744073709551616)(hy:y<18446744073709551616)(w:World):
  Calls prog 142 #[.int .u64 x,.int .u64 y] w λe w'=>e=.returned (.tuple #[.int .u64 ((x*y / 18446744073709551616:Nat):Int),.int .u64 ((x*y%18446744073709551616:Nat):Int)])/\w=w':=by
 obtain⟨bd,bt,bw,i⟩:=Lib.mul64_hi x y hx hy;have ba:=Lib.half_mul_le (a:=x / 4294967296) (b:=y / 4294967296) zb zb;have bb:=Lib.half_mul_le (a:=x / 4294967296) (b:=y%4294967296) zb zb;have bc:=Lib.half_mul_le (a:=x%4294967296) (b:=y / 4294967296) zb zb;have c:x / 4294967296*(y / 4294967296)<18446744073709551616:=zb;have d:x / 4294967296*(y%4294967296)<18446744073709551616:=zb;have g:x%4294967296*(y / 4294967296)<18446744073709551616:=zb;have h:x / 4294967296*(y / 4294967296)+(x / 4294967296*(y%4294967296)+x%4294967296*(y%4294967296) / 4294967296) / 4294967296<18446744073709551616:=zb;have bh:x / 4294967296*(y / 4294967296)+(x / 4294967296*(y%4294967296)+x%4294967296*(y%4294967296) / 4294967296) / 4294967296+((x / 4294967296*(y%4294967296)+x%4294967296*(y%4294967296) / 4294967296)%4294967296+x%4294967296*(y / 4294967296)) / 4294967296<18446744073709551616:=zb;go_enter func142,ntmps142;go_wp2;simp only [M64.maskN x hx,M64.maskN y hy,M64.divN,M64.mulN,M64.addN,M64.wrapN _ bd,M64.wrapN _ d,M64.wrapN _ bt,M64.maskN _ bt,M64.wrapN _ g,M64.wrapN _ bw,M64.wrapN _ c,M64.wrapN _ h,M64.wrapN _ bh,M64.wrapM (x*y)];rw [i]
 go_ret2
 exact⟨rfl,rfl⟩
theorem lr (x y:Int)(hx:Wd x)(hy:Wd y)(w:World):
  Calls prog 142 #[.int .u64 x,.int .u64 y] w λe w'=>e=.returned (.tuple #[.int .u64 (sh x y),.int .u64 (vt x y)])/\w=w':=by
 obtain⟨a,hx1⟩:=hx;obtain⟨c,hy1⟩:=hy;obtain⟨x,rfl⟩:=xP a;obtain⟨y,rfl⟩:=xP c;have e1:sh x y=((x*y / 18446744073709551616:Nat):Int):=by unfold sh;rw [<-QI];omega
 have e2:vt x y=((x*y%18446744073709551616:Nat):Int):=by unfold vt;rw [<-QI];omega
 rw [e1,e2];exact Q6 x y zb zb w
theorem jm (x z:Int)(k:Nat)(hk:k<=56)(h0:0<=z)(h1:z<256)(hz:z.toNat=x.toNat / 2^k)(a:k=0\/z≠0):wrap64 ((k:Int)+wrap64 ((bitLen z.toNat:Nat):Int))=te x:=by
 have hl:=bitLen_le8 z.toNat zb;have e1:wrap64 ((bitLen z.toNat:Nat):Int)=((bitLen z.toNat:Nat):Int):=IntWalk.wrap64_in _ zb;have e2:bitLen x.toNat=k+bitLen z.toNat:=by
  rcases a with rfl|a
  ·rw [hz];simp
  ·rw [hz];exact bitLen_shift x.toNat k (by rw [<-hz];omega)
 rw [e1,IntWalk.wrap64_in _ zb];unfold te;rw [e2];omega
theorem qe (x:Int)(h0:0<=x)(h1:x<256):wrap64 (wrap64 ((bitLen x.toNat:Nat):Int))=te x:=by
 have hl:=bitLen_le8 x.toNat zb;have e:wrap64 ((bitLen x.toNat:Nat):Int)=((bitLen x.toNat:Nat):Int):=IntWalk.wrap64_in _ zb;rw [e,e];rfl
set_option maxRecDepth 100000 in
theorem ln (x:Int)(hx:Wd x)(w:World):
  Calls prog 174 #[.int .u64 x] w λe w'=>e=.returned (.int .i64 (te x))/\w=w':=by
 obtain⟨h0,h1⟩:=hx;go_enter func174,ntmps174;go_wp2
 all_goals
  go_ret
  refine⟨congrArg Ending.returned (congrArg (Value.int IntKind.i64) ?_),rfl⟩
  rw [len8tab_get]
 all_goals first
  |exact jm x (x / 4294967296 / 65536 / 256) 56 zb zb zb zb (.inr zb)
  |exact jm x (x / 4294967296 / 65536) 48 zb zb zb zb (.inr zb)
  |exact jm x (x / 4294967296 / 256) 40 zb zb zb zb (.inr zb)
  |exact jm x (x / 4294967296) 32 zb zb zb zb (.inr zb)
  |exact jm x (x / 65536 / 256) 24 zb zb zb zb (.inr zb)
  |exact jm x (x / 65536) 16 zb zb zb zb (.inr zb)
  |exact jm x (x / 256) 8 zb zb zb zb (.inr zb)
  |exact qe x zb zb
theorem qd (x:Int)(hx:Wd x)(w:World):
  Calls prog 170 #[.int .u64 x] w λe w'=>e=.returned (.int .i64 (64 - te x))/\w=w':=by
 have H:=za (ln x hx w);have b:=nN hx;obtain⟨b0,b1⟩:=b;go_enter func170,ntmps170;go_wp2_with (go_at_call 174;refine H.o.mono ?_;rintro e w' ⟨rfl,rfl⟩);go_ret;exact⟨rfl,rfl⟩
theorem Ug (x y c:Int)(hx:Wd x)(hy:Wd y)(hc:Wd c)(w:World):
  Calls prog 153 #[.int .u64 x,.int .u64 y,.int .u64 c] w λe w'=>e=.returned (.tuple #[.int .u64 (uM x y c),.int .u64 (uL x y c)])/\w=w':=by
 have L:=za (low1 c hc);have H:=za (rk x y (c%2) hx hy zb zb);have e1:uM x y (c%2)=uM x y c:=by unfold uM;omega
 have e2:uL x y (c%2)=uL x y c:=by unfold uL;omega
 rw [e1,e2] at H;clear e1 e2;go_enter func153,ntmps153;go_wp2_with (first|simp only [L.o,H.o])
 go_ret2
 exact⟨rfl,rfl⟩
theorem Uh (x y c:Int)(hx:Wd x)(hy:Wd y)(hc:Wd c)(w:World):
  Calls prog 154 #[.int .u64 x,.int .u64 y,.int .u64 c] w λe w'=>e=.returned (.tuple #[.int .u64 (ow x y c),.int .u64 (ov x y c)])/\w=w':=by
 have L:=za (low1 c hc);have H:=za (lv x y (c%2) hx hy zb zb);have e1:ow x y (c%2)=ow x y c:=by unfold ow;omega
 have e2:ov x y (c%2)=ov x y c:=by unfold ov;rw [show c%2%2=c%2 from by omega]
 rw [e1,e2] at H;clear e1 e2;go_enter func154,ntmps154;go_wp2_with (first|simp only [L.o,H.o])
 go_ret2
 exact⟨rfl,rfl⟩
theorem pZ (x y:Int)(hx:Wd x)(hy:Wd y)(w:World):
  Calls prog 175 #[.int .u64 x,.int .u64 y] w λe w'=>e=.returned (.tuple #[.int .u64 (sh x y),.int .u64 (vt x y)])/\w=w':=by
 have H:=za (lr x y hx hy w);go_enter func175,ntmps175;go_wp2_with (go_at_call 142;refine H.o.mono ?_;rintro e w' ⟨rfl,rfl⟩)
 go_ret2
 exact⟨rfl,rfl⟩
theorem SR (x y a b:Int)(hx:Wd x)(hy:Wd y)(ha:Wd a)(hb:Wd b)(w:World):
  Calls prog 127 #[.int .u64 x,.int .u64 y,.int .u64 a,.int .u64 b] w λe w'=>e=.returned (.tuple #[.int .u64 (vk x y a b),.int .u64 (tN x y a b)])/\w=w':=by
 have hl:=qo x y;have hs:=rl (vt x y) a 0;have H:=za (lr x y hx hy w);have A1:=za (rk (vt x y) a 0 hl ha zb zb w);have A2:=za (rk (uM (vt x y) a 0) b 0 hs hb zb zb w);have eL:uM (uM (vt x y) a 0) b 0=tN x y a b:=by rw [<-nV];unfold uM;omega
 have eH:sh x y+uL (vt x y) a 0+uL (uM (vt x y) a 0) b 0=vk x y a b:=by rw [<-nT];unfold uL uM;omega
 have b1:=qn hx hy;have b2:=Vu (c:=0) hl ha;have b3:=Vu (c:=0) hs hb;have b4:=nU hx hy ha hb;have EL:=za eL;have EH:=za eH;have W1:zd (IntKind.u64.wrap (sh x y+uL (vt x y) a 0)=sh x y+uL (vt x y) a 0):=by
  rw [xY];unfold Wd at*;show _%_=_;omega
 have W2:zd (IntKind.u64.wrap (vk x y a b)=vk x y a b):=by
  rw [xY];unfold Wd at*;show _%_=_;omega
 clear eL eH b1 b2 b3 b4 hl hs;go_enter func127,ntmps127;go_wp2_with (first|(go_at_call 142;refine H.o.mono ?_;rintro e w' ⟨rfl,rfl⟩)|simp only [A1.o]|simp only [A2.o]);simp only [W1.o,W2.o,EL.o,EH.o]
 go_ret2
 exact⟨rfl,rfl⟩
theorem pY (x:Int)(hx:Wd x)(w:World):
  Calls prog 167 #[.int .u64 x] w λe w'=>e=.returned (.int .i64 (te x))/\w=w':=by
 have H:=za (ln x hx w);go_enter func167,ntmps167;go_wp2_with (go_at_call 174;refine H.o.mono ?_;rintro e w' ⟨rfl,rfl⟩);go_ret;exact⟨rfl,rfl⟩
theorem Ps (x:Int)(hx:Wd x)(w:World):
  Calls prog 163 #[.int .u64 x] w λe w'=>e=.returned (.int .i64 (64 - te x))/\w=w':=by
 have H:=za (qd x hx w);go_enter func163,ntmps163;go_wp2_with (go_at_call 170;refine H.o.mono ?_;rintro e w' ⟨rfl,rfl⟩);go_ret;exact⟨rfl,rfl⟩
