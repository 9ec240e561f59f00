/- What this claim leans on. -/
import Derived.Test.YtielpgdebeggbaaGreatDoorMPre
import Derived.Test.YtielpgdebeggbaaGreatDoorRows
import Derived.Laws.Bits64b
import Derived.Laws.Externs
import Derived.Laws.MathBits
import Derived.Lib.Hide
import Derived.Lib.Mul64
import Derived.Lib.TrailingZeros
import Derived.Outline
import Derived.WalkKit
set_option linter.unusedVariables false
set_option linter.unusedSimpArgs false
namespace Go.Proofs.YtielpgdebeggbaaGreatDoor
open Go Go.RowKit Go.Proofs.Tryz
set_option maxHeartbeats 16000000
variable {x y:Int}
def uS (x y c:Int):Int:=(x+y+c%2)%18446744073709551616
def uR (x y c:Int):Int:=(x+y+c%2) / 18446744073709551616
def o8 (x y c:Int):Int:=(x - y - c%2)%18446744073709551616
def o7 (x y c:Int):Int:=if x<y+c%2 then 1 else 0
def Wd (x:Int):Prop:=0<=x/\x<18446744073709551616
theorem rM (x y c:Int):Wd (uS x y c):=by unfold Wd uS;omega
theorem Uz {c:Int}(hx:Wd x)(hy:Wd y):0<=uR x y c/\uR x y c<=1:=by unfold Wd at hx hy;unfold uR;omega
def sD (x y:Int):Int:=x*y / 18446744073709551616
def vw (x y:Int):Int:=x*y%18446744073709551616
def vp (x y a b:Int):Int:=(x*y+a+b) / 18446744073709551616
def sm (x y a b:Int):Int:=(x*y+a+b)%18446744073709551616
theorem pB (hx:Wd x)(hy:Wd y):0<=x*y/\x*y<=340282366920938463426481119284349108225:=by
 obtain⟨a,b⟩:=hx;obtain⟨c,d⟩:=hy;refine⟨jZ a c,?_⟩;have:x*y<=18446744073709551615*18446744073709551615:=Int.mul_le_mul za za c za;simpa using this
theorem py (hx:Wd x)(hy:Wd y):Wd (sD x y):=by have:=pB hx hy;unfold Wd sD;omega
theorem pz (x y:Int):Wd (vw x y):=by unfold Wd vw;omega
theorem mG {a b:Int}(hx:Wd x)(hy:Wd y)(ha:Wd a)(hb:Wd b):Wd (vp x y a b):=by
 have:=pB hx hy;unfold Wd at*;unfold vp;omega
theorem mH (x y a b:Int):((vw x y+a)%18446744073709551616+b)%18446744073709551616=sm x y a b:=by
 unfold vw sm;omega
theorem mF (x y a b:Int):sD x y+(vw x y+a) / 18446744073709551616+((vw x y+a)%18446744073709551616+b) / 18446744073709551616=vp x y a b:=by
 unfold vw sD vp;omega
def tD (x:Int):Int:=(bitLen x.toNat:Nat)
def il (x:Int):Int:=(Lib.ctz 64 x.toNat:Nat)
theorem cR (n k:Nat)(h:n<2^k):bitLen n<=k:=by
 unfold bitLen
 split
 ·omega
 ·rename_i h0
  have:=(Nat.log2_lt h0).2 h;omega
theorem mv (hx:Wd x):0<=tD x/\tD x<=64:=by
 unfold Wd at hx;have:=cR x.toNat 64 za;unfold tD;omega
theorem kV (x:Nat)(hx:x<2^64):Lib.ctz 64 x<=64:=by
 by_cases h:x=0
 ·subst h;decide
 ·have:=(Lib.lowest_bit 64 x h hx).2;omega
def vn (hi lo y:Int):Int:=(hi*18446744073709551616+lo) / y
def vo (hi lo y:Int):Int:=(hi*18446744073709551616+lo)%y
theorem Xc (q Y:Int):q*Y=(q*(Y / 4294967296))*4294967296+q*(Y%4294967296):=by
 have h:Y=Y / 4294967296*4294967296+Y%4294967296:=za
 calc q * Y = q * (Y / 4294967296 * 4294967296 + Y % 4294967296):=by rw [← h]
  _=_:=by rw [Int.mul_add,Int.mul_assoc]
def nh (U u:Int):Int:=U*4294967296+u
def wM (U u Y:Int):Int:=nh U u / Y
def vh (U u Y:Int):Int:=nh U u%Y
structure uZ (U u Y q r:Int):Prop where
 sum:U=q*(Y / 4294967296)+r
 low:0<=r
 q_lo:wM U u Y<=q
 q_hi:q<=4294967297
section
variable {U u Y q r:Int}
theorem ip (hU:0<=U)(hUY:U<Y)(hu:0<=u)(hu':u<4294967296):0<=wM U u Y/\wM U u Y<4294967296:=by
 unfold wM nh;refine⟨YC za za,Int.ediv_lt_of_lt_mul za ?_⟩;have:(U+1)*4294967296<=Y*4294967296:=yC za za;omega
theorem aP (hY:0<Y):0<=vh U u Y/\vh U u Y<Y:=⟨YE _ za,YS _ hY⟩
theorem Z4 (U u Y:Int):wM U u Y*Y+vh U u Y=nh U u:=by unfold wM vh;rw [yV];exact XW _ _
theorem Y3 (hY:0<Y):q<=wM U u Y↔q*Y<=nh U u:=by unfold wM;exact Int.le_ediv_iff_mul_le hY
theorem uZ.start (hU:0<=U)(a:U<Y)(hY:9223372036854775808<=Y)(hY':Y<18446744073709551616)(hu:0<=u)(d:u<4294967296):
  uZ U u Y (U / (Y / 4294967296)) (U - U / (Y / 4294967296)*(Y / 4294967296)):=by
 have hA:2147483648<=Y / 4294967296:=za;have hm:=XW U (Y / 4294967296);have hr0:=YE U (show Y / 4294967296≠0 by omega);rw [yV] at hm;refine⟨za,za,?_,?_⟩
 ·refine(Int.le_ediv_iff_mul_le za).2 ?_;have h1:=(Y3 (U:=U) (u:=u) (Y:=Y) (q:=wM U u Y) za).1 (Int.le_refl _);have hb:=ip hU a hu d;have h2:=Xc (wM U u Y) Y;have h3:0<=wM U u Y*(Y%4294967296):=jZ hb.1 za;unfold nh at h1;omega
 ·have h4:U / (Y / 4294967296)<4294967298:=by
   refine Int.ediv_lt_of_lt_mul za ?_;omega
  omega
theorem uZ.down (h:uZ U u Y q r)(hU:0<=U)(a:U<Y)(hY:9223372036854775808<=Y)(hu:0<=u)(d:u<4294967296)
  (ht:4294967296<=q\/4294967296*r+u<q*(Y%4294967296)):uZ U u Y (q - 1) (r+Y / 4294967296):=by
 have hb:=ip hU a hu d;obtain⟨hs,hl,h1,h2⟩:=h;refine⟨by rw [Int.sub_mul];omega,za,?_,za⟩;rcases ht with ht|ht
 ·omega
 ·have:¬ q<=wM U u Y:=by
   rw [Y3 za];have:=Xc q Y;unfold nh;omega
  omega
theorem uZ.done (h:uZ U u Y q r)(hY:9223372036854775808<=Y)(ht:q*(Y%4294967296)<=4294967296*r+u):q=wM U u Y:=by
 obtain⟨hs,hl,h1,h2⟩:=h;have:q<=wM U u Y:=by
  rw [Y3 za];have:=Xc q Y;unfold nh;omega
 omega
theorem uZ.past (h:uZ U u Y q r)(hY:9223372036854775808<=Y)(hu:0<=u)(hq:q<=4294967296)(hr:4294967296<=r):q=wM U u Y:=by
 refine h.done hY ?_;have h0:q*(Y%4294967296)<=4294967296*(Y%4294967296):=yC hq za;omega
theorem uZ.room (h:uZ U u Y q r)(hU:0<=U)(a:U<Y)(hu:0<=u)(d:u<4294967296)(hr:r<4294967296):
  0<=q/\0<=q*(Y%4294967296)/\q*(Y%4294967296)<18446744073709551616/\0<=4294967296*r+u/\4294967296*r+u<18446744073709551616:=by
 have hb:=ip hU a hu d;obtain⟨hs,hl,h1,h2⟩:=h;have h3:q*(Y%4294967296)<=4294967297*(Y%4294967296):=yC h2 za;have h4:0<=q*(Y%4294967296):=jZ za za;omega
theorem Te (hY:0<Y)(hY':Y<18446744073709551616):
  ((U*4294967296%18446744073709551616+u)%18446744073709551616 - wM U u Y*Y%18446744073709551616)%18446744073709551616=vh U u Y:=by
 have h:=Z4 U u Y;have hb:=aP (U:=U) (u:=u) hY;unfold nh at h;omega
end
theorem kX (U V Y:Int)(hU:0<=U)(hUY:U<Y):
  wM U (V / 4294967296) Y*4294967296+wM (vh U (V / 4294967296) Y) (V%4294967296) Y=(U*18446744073709551616+V) / Y/\
  vh (vh U (V / 4294967296) Y) (V%4294967296) Y=(U*18446744073709551616+V)%Y:=by
 have hY:0<Y:=za;have h1:=Z4 U (V / 4294967296) Y;have h2:=Z4 (vh U (V / 4294967296) Y) (V%4294967296) Y;have b2:=aP (U:=vh U (V / 4294967296) Y) (u:=V%4294967296) hY;have d:Y*(wM U (V / 4294967296) Y*4294967296+wM (vh U (V / 4294967296) Y) (V%4294967296) Y)+vh (vh U (V / 4294967296) Y) (V%4294967296) Y=U*18446744073709551616+V:=by
  generalize wM (vh U (V / 4294967296) Y) (V%4294967296) Y=q0 at*;generalize vh (vh U (V / 4294967296) Y) (V%4294967296) Y=r0 at*;generalize wM U (V / 4294967296) Y=q1 at*;generalize vh U (V / 4294967296) Y=r1 at*;unfold nh at h1 h2;rw [Int.mul_add,yV Y,yV Y,Int.mul_right_comm];omega
 have e1:=Int.ediv_emod_unique (a:=U*18446744073709551616+V) (b:=Y) (r:=vh (vh U (V / 4294967296) Y) (V%4294967296) Y) (q:=wM U (V / 4294967296) Y*4294967296+wM (vh U (V / 4294967296) Y) (V%4294967296) Y) hY;obtain⟨g1,g2⟩:=e1.2 ⟨by rw [Int.add_comm];exact d,b2.1,b2.2⟩;exact⟨g1.symm,g2.symm⟩
theorem qf (M y P:Int)(hP:0<P):(M*P) / (y*P)=M / y/\(M*P)%(y*P) / P=M%y:=by
 refine⟨Int.mul_ediv_mul_of_pos_left _ _ hP,?_⟩;rw [yV M,yV y,Int.mul_emod_mul_of_pos _ _ hP];exact Int.mul_ediv_cancel_left _ za
theorem me (hi lo y:Int)(s:Nat)(hs:s<=63)(hh:0<=hi)(hy0:hi<y)(hl:0<=lo)(h:lo<18446744073709551616):
  0<=hi*2^s+lo / 2^(64 - s)/\hi*2^s+lo / 2^(64 - s)<y*2^s/\
  (hi*2^s+lo / 2^(64 - s))*18446744073709551616+lo*2^s%18446744073709551616=(hi*18446744073709551616+lo)*2^s:=by
 have hp:(0:Int)<2^s:=Int.pow_pos zf;have i:(0:Int)<2^(64 - s):=Int.pow_pos zf;have g:(2:Int)^(64 - s)*2^s=18446744073709551616:=by
  rw [<-Int.pow_add,show 64 - s+s=64 from by omega];decide
 have hlt:lo / 2^(64 - s)<2^s:=by
  refine Int.ediv_lt_of_lt_mul i ?_;rw [yV,g];exact h
 have h0:0<=lo / 2^(64 - s):=YC hl za;have hh2:0<=hi*2^s:=jZ hh za;have d:(hi+1)*2^s<=y*2^s:=yC za za;have e:lo*2^s / 18446744073709551616=lo / 2^(64 - s):=by
  rw [<-g];exact Int.mul_ediv_mul_of_pos_left _ _ hp
 have e2:=XW (lo*2^s) 18446744073709551616;rw [e] at e2;refine⟨za,?_,?_⟩
 ·rw [Int.add_mul] at d;omega
 ·generalize lo / 2^(64 - s)=a at*;generalize hb:lo*2^s=b at*;have:(hi*18446744073709551616+lo)*2^s=hi*2^s*18446744073709551616+b:=by
   rw [Int.add_mul,hb,Int.mul_right_comm]
  rw [this];generalize hi*2^s=c at*;omega
theorem Uo (y:Int)(h0:0<y)(h1:y<18446744073709551616):∃s:Nat,64 - tD y=s/\s<=63/\9223372036854775808<=y*2^s/\y*2^s<18446744073709551616:=by
 have hb:=bitLen_spec y.toNat;have hl:=cR y.toNat 64 za;have a:y.toNat≠0:=za;have h3:=hb.2 a;have hpos:1<=bitLen y.toNat:=by
  rcases QW (bitLen y.toNat) with h|h
  ·rw [h] at hb;simp at hb;omega
  ·exact h
 refine⟨64 - bitLen y.toNat,by unfold tD;omega,za,?_,?_⟩
 ·have:(2:Nat)^(bitLen y.toNat - 1)*2^(64 - bitLen y.toNat)<=y.toNat*2^(64 - bitLen y.toNat):=qS _ h3;rw [<-xW,show bitLen y.toNat - 1+(64 - bitLen y.toNat)=63 from by omega] at this;have e:y*2^(64 - bitLen y.toNat)=((y.toNat*2^(64 - bitLen y.toNat):Nat):Int):=by
   rw [QT,Int.toNat_of_nonneg za,yL];rfl
  rw [e];omega
 ·have:y.toNat*2^(64 - bitLen y.toNat)<2^bitLen y.toNat*2^(64 - bitLen y.toNat):=Nat.mul_lt_mul_of_pos_right hb.1 (xA _);rw [<-xW,show bitLen y.toNat+(64 - bitLen y.toNat)=64 from by omega] at this;have e:y*2^(64 - bitLen y.toNat)=((y.toNat*2^(64 - bitLen y.toNat):Nat):Int):=by
   rw [QT,Int.toNat_of_nonneg za,yL];rfl
  rw [e];omega
theorem mW (a b:Int)(s:Nat)(h0:0<=a)(h1:a*2^s<18446744073709551616)(h2:0<=b)(h3:b<2^s)(hs:s<=63):
  bits .or .u64 (a*2^s) b=a*2^s+b:=by
 obtain⟨a,rfl⟩:=xR h0;obtain⟨b,rfl⟩:=xR h2;have e:(a:Int)*2^s=((a*2^s:Nat):Int):=by rw [QT,yL];rfl
 have e3:b<2^s:=by
  have:((2^s:Nat):Int)=(2:Int)^s:=by rw [yL];rfl
  omega
 have d:b<18446744073709551616:=qJ e3 (by
  have:=qA (n:=2) zf (show s<=64 from by omega);simpa using this)
 rw [e] at h1⊢;rw [bits_or_u64_nat _ _ za d];have:=Nat.shiftLeft_add_eq_or_of_lt e3 a;rw [Nat.shiftLeft_eq] at this;rw [<-this];omega
theorem fs (c:Int)(hc:Wd c):bits .and .u64 c 1=c%2:=by
 obtain⟨h0,h1⟩:=hc;obtain⟨c,rfl⟩:=xR h0;have h:=bits_and_u64_nat c 1 za za;have e:c&&&1=c%2:=Nat.and_two_pow_sub_one_eq_mod c 1;rw [e] at h;simpa using h
theorem rL (x y c:Int)(hx:Wd x)(hy:Wd y)(a:0<=c)(hc:c<=1)(w:World):
  (callFunc 143 #[.int .u64 x,.int .u64 y,.int .u64 c]).run prog w=.ok (.value (.tuple #[.int .u64 (uS x y c),.int .u64 (uR x y c)])) w:=by
 rw [run_callFunc_extern func143 yd yd yd (e:=add64Entry) yd,run_add64 x y c hx.1 hy.1 a hc];have e:c%2=c:=za;unfold uS uR;rw [e];rfl
def ot:Array Value->Sem Value:=λargs=>do
 let (x,y,b) ← Extern.MathBitsCarry.three "Sub64" args
 pure (Extern.MathBitsCarry.pair ((x+Extern.MathBitsCarry.m64 - y - b)%Extern.MathBitsCarry.m64) (if x<y+b then 1 else 0))
theorem Pb (P:Program)(x y b:Nat)(hb:b<=1)(w:World):
  (ot #[.int .u64 x,.int .u64 y,.int .u64 b]).run P w =
    .ok (.tuple #[.int .u64 (((x+18446744073709551616 - y - b)%18446744073709551616:Nat):Int),.int .u64 ((if x<y+b then 1 else 0:Nat):Int)]) w:=by
 have:b=0\/b=1:=za;rcases this with rfl|rfl<;>rfl
theorem ki (x y b:Int)(hx:Wd x)(hy:Wd y)(a:0<=b)(hb:b<=1)(w:World):
  (callFunc 166 #[.int .u64 x,.int .u64 y,.int .u64 b]).run prog w=.ok (.value (.tuple #[.int .u64 (o8 x y b),.int .u64 (o7 x y b)])) w:=by
 obtain⟨d,hx1⟩:=hx;obtain⟨g,hy1⟩:=hy;obtain⟨x,rfl⟩:=xR d;obtain⟨y,rfl⟩:=xR g;obtain⟨b,rfl⟩:=xR a;have e1:(((x+18446744073709551616 - y - b)%18446744073709551616:Nat):Int)=o8 x y b:=by unfold o8;omega
 have e2:((if x<y+b then 1 else 0:Nat):Int)=o7 x y b:=by unfold o7;split<;>split<;>omega
 rw [run_callFunc_extern func166 yd yd yd (e:=ot) yd,Pb _ x y b za,e1,e2];rfl
namespace M64
set_option maxHeartbeats 16000000
theorem maskN (a:Nat)(ha:a<18446744073709551616):bits .and .u64 (a:Int) 4294967295=((a%4294967296:Nat):Int):=by
 have h:=bits_and_u64_nat a 4294967295 ha za;have e:a&&&4294967295=a%4294967296:=Nat.and_two_pow_sub_one_eq_mod a 32;rw [e] at h;exact h
theorem divN (a:Nat):(a:Int) / 4294967296=((a / 4294967296:Nat):Int):=za
theorem mulN (a b:Nat):(a:Int)*(b:Int)=((a*b:Nat):Int):=(QT a b).symm
theorem addN (a b:Nat):(a:Int)+(b:Int)=((a+b:Nat):Int):=(Int.natCast_add a b).symm
theorem wrapN (a:Nat)(ha:a<18446744073709551616):IntKind.u64.wrap (a:Int)=(a:Int):=by rw [xX];omega
theorem wrapM (a:Nat):IntKind.u64.wrap (a:Int)=((a%18446744073709551616:Nat):Int):=by rw [xX];omega
end M64
theorem Oo (x y:Nat)(hx:x<18446744073709551616)(hy:y<18446744073709551616)(w:World):
  Calls prog 142 #[.int .u64 x,.int .u64 y] w λe w'=>e=.returned (.tuple #[.int .u64 ((x*y / 18446744073709551616:Nat):Int),.int .u64 ((x*y%18446744073709551616:Nat):Int)])/\w=w':=by
 obtain⟨bd,bt,bw,j⟩:=Lib.mul64_hi x y hx hy;have ba:=Lib.half_mul_le (a:=x / 4294967296) (b:=y / 4294967296) za za;have bb:=Lib.half_mul_le (a:=x / 4294967296) (b:=y%4294967296) za za;have bc:=Lib.half_mul_le (a:=x%4294967296) (b:=y / 4294967296) za za;have d:x / 4294967296*(y / 4294967296)<18446744073709551616:=za;have g:x / 4294967296*(y%4294967296)<18446744073709551616:=za;have h:x%4294967296*(y / 4294967296)<18446744073709551616:=za;have i:x / 4294967296*(y / 4294967296)+(x / 4294967296*(y%4294967296)+x%4294967296*(y%4294967296) / 4294967296) / 4294967296<18446744073709551616:=za;have bh:x / 4294967296*(y / 4294967296)+(x / 4294967296*(y%4294967296)+x%4294967296*(y%4294967296) / 4294967296) / 4294967296+((x / 4294967296*(y%4294967296)+x%4294967296*(y%4294967296) / 4294967296)%4294967296+x%4294967296*(y / 4294967296)) / 4294967296<18446744073709551616:=za;go_enter func142,ntmps142;go_wp2;simp only [M64.maskN x hx,M64.maskN y hy,M64.divN,M64.mulN,M64.addN,M64.wrapN _ bd,M64.wrapN _ g,M64.wrapN _ bt,M64.maskN _ bt,M64.wrapN _ h,M64.wrapN _ bw,M64.wrapN _ d,M64.wrapN _ i,M64.wrapN _ bh,M64.wrapM (x*y)];rw [j]
 go_ret2
 exact⟨rfl,rfl⟩
theorem ke (x y:Int)(hx:Wd x)(hy:Wd y)(w:World):
  Calls prog 142 #[.int .u64 x,.int .u64 y] w λe w'=>e=.returned (.tuple #[.int .u64 (sD x y),.int .u64 (vw x y)])/\w=w':=by
 obtain⟨a,hx1⟩:=hx;obtain⟨d,hy1⟩:=hy;obtain⟨x,rfl⟩:=xR a;obtain⟨y,rfl⟩:=xR d;have e1:sD x y=((x*y / 18446744073709551616:Nat):Int):=by unfold sD;rw [<-QT];omega
 have e2:vw x y=((x*y%18446744073709551616:Nat):Int):=by unfold vw;rw [<-QT];omega
 rw [e1,e2];exact Oo x y za za w
theorem jV (x z:Int)(k:Nat)(hk:k<=56)(h0:0<=z)(h1:z<256)(hz:z.toNat=x.toNat / 2^k)(a:k=0\/z≠0):wrap64 ((k:Int)+wrap64 ((bitLen z.toNat:Nat):Int))=tD x:=by
 have hl:=bitLen_le8 z.toNat za;have e1:wrap64 ((bitLen z.toNat:Nat):Int)=((bitLen z.toNat:Nat):Int):=IntWalk.wrap64_in _ za;have e2:bitLen x.toNat=k+bitLen z.toNat:=by
  rcases a with rfl|a
  ·rw [hz];simp
  ·rw [hz];exact bitLen_shift x.toNat k (by rw [<-hz];omega)
 rw [e1,IntWalk.wrap64_in _ za];unfold tD;rw [e2];omega
theorem pg (x:Int)(h0:0<=x)(h1:x<256):wrap64 (wrap64 ((bitLen x.toNat:Nat):Int))=tD x:=by
 have hl:=bitLen_le8 x.toNat za;have e:wrap64 ((bitLen x.toNat:Nat):Int)=((bitLen x.toNat:Nat):Int):=IntWalk.wrap64_in _ za;rw [e,e];rfl
set_option maxRecDepth 100000 in
theorem lY (x:Int)(hx:Wd x)(w:World):
  Calls prog 174 #[.int .u64 x] w λe w'=>e=.returned (.int .i64 (tD x))/\w=w':=by
 obtain⟨h0,h1⟩:=hx;go_enter func174,ntmps174;go_wp2
 all_goals
  go_ret
  refine⟨congrArg Ending.returned (congrArg (Value.int IntKind.i64) ?_),rfl⟩
  rw [len8tab_get]
 all_goals first
  |exact jV x (x / 4294967296 / 65536 / 256) 56 za za za za (.inr za)
  |exact jV x (x / 4294967296 / 65536) 48 za za za za (.inr za)
  |exact jV x (x / 4294967296 / 256) 40 za za za za (.inr za)
  |exact jV x (x / 4294967296) 32 za za za za (.inr za)
  |exact jV x (x / 65536 / 256) 24 za za za za (.inr za)
  |exact jV x (x / 65536) 16 za za za za (.inr za)
  |exact jV x (x / 256) 8 za za za za (.inr za)
  |exact pg x za za
theorem pe (x:Int)(hx:Wd x)(w:World):
  Calls prog 170 #[.int .u64 x] w λe w'=>e=.returned (.int .i64 (64 - tD x))/\w=w':=by
 have H:=zb (lY x hx w);have b:=mv hx;obtain⟨b0,b1⟩:=b;go_enter func170,ntmps170;go_wp2_with (go_at_call 174;refine H.o.mono ?_;rintro e w' ⟨rfl,rfl⟩);go_ret;exact⟨rfl,rfl⟩
theorem UV (x y c:Int)(hx:Wd x)(hy:Wd y)(hc:Wd c)(w:World):
  Calls prog 153 #[.int .u64 x,.int .u64 y,.int .u64 c] w λe w'=>e=.returned (.tuple #[.int .u64 (uS x y c),.int .u64 (uR x y c)])/\w=w':=by
 have L:=zb (fs c hc);have H:=zb (rL x y (c%2) hx hy za za);have e1:uS x y (c%2)=uS x y c:=by unfold uS;omega
 have e2:uR x y (c%2)=uR x y c:=by unfold uR;omega
 rw [e1,e2] at H;clear e1 e2;go_enter func153,ntmps153;go_wp2_with (first|simp only [L.o,H.o])
 go_ret2
 exact⟨rfl,rfl⟩
theorem UW (x y c:Int)(hx:Wd x)(hy:Wd y)(hc:Wd c)(w:World):
  Calls prog 154 #[.int .u64 x,.int .u64 y,.int .u64 c] w λe w'=>e=.returned (.tuple #[.int .u64 (o8 x y c),.int .u64 (o7 x y c)])/\w=w':=by
 have L:=zb (fs c hc);have H:=zb (ki x y (c%2) hx hy za za);have e1:o8 x y (c%2)=o8 x y c:=by unfold o8;omega
 have e2:o7 x y (c%2)=o7 x y c:=by unfold o7;rw [show c%2%2=c%2 from by omega]
 rw [e1,e2] at H;clear e1 e2;go_enter func154,ntmps154;go_wp2_with (first|simp only [L.o,H.o])
 go_ret2
 exact⟨rfl,rfl⟩
theorem oK (x y:Int)(hx:Wd x)(hy:Wd y)(w:World):
  Calls prog 175 #[.int .u64 x,.int .u64 y] w λe w'=>e=.returned (.tuple #[.int .u64 (sD x y),.int .u64 (vw x y)])/\w=w':=by
 have H:=zb (ke x y hx hy w);go_enter func175,ntmps175;go_wp2_with (go_at_call 142;refine H.o.mono ?_;rintro e w' ⟨rfl,rfl⟩)
 go_ret2
 exact⟨rfl,rfl⟩
theorem Rl (x y a b:Int)(hx:Wd x)(hy:Wd y)(ha:Wd a)(hb:Wd b)(w:World):
  Calls prog 127 #[.int .u64 x,.int .u64 y,.int .u64 a,.int .u64 b] w λe w'=>e=.returned (.tuple #[.int .u64 (vp x y a b),.int .u64 (sm x y a b)])/\w=w':=by
 have hl:=pz x y;have hs:=rM (vw x y) a 0;have H:=zb (ke x y hx hy w);have A1:=zb (rL (vw x y) a 0 hl ha za za w);have A2:=zb (rL (uS (vw x y) a 0) b 0 hs hb za za w);have eL:uS (uS (vw x y) a 0) b 0=sm x y a b:=by rw [<-mH];unfold uS;omega
 have eH:sD x y+uR (vw x y) a 0+uR (uS (vw x y) a 0) b 0=vp x y a b:=by rw [<-mF];unfold uR uS;omega
 have b1:=py hx hy;have b2:=Uz (c:=0) hl ha;have b3:=Uz (c:=0) hs hb;have b4:=mG hx hy ha hb;have EL:=zb eL;have EH:=zb eH;have W1:zd (IntKind.u64.wrap (sD x y+uR (vw x y) a 0)=sD x y+uR (vw x y) a 0):=by
  rw [xX];unfold Wd at*;show _%_=_;omega
 have W2:zd (IntKind.u64.wrap (vp x y a b)=vp x y a b):=by
  rw [xX];unfold Wd at*;show _%_=_;omega
 clear eL eH b1 b2 b3 b4 hl hs;go_enter func127,ntmps127;go_wp2_with (first|(go_at_call 142;refine H.o.mono ?_;rintro e w' ⟨rfl,rfl⟩)|simp only [A1.o]|simp only [A2.o]);simp only [W1.o,W2.o,EL.o,EH.o]
 go_ret2
 exact⟨rfl,rfl⟩
theorem oJ (x:Int)(hx:Wd x)(w:World):
  Calls prog 167 #[.int .u64 x] w λe w'=>e=.returned (.int .i64 (tD x))/\w=w':=by
 have H:=zb (lY x hx w);go_enter func167,ntmps167;go_wp2_with (go_at_call 174;refine H.o.mono ?_;rintro e w' ⟨rfl,rfl⟩);go_ret;exact⟨rfl,rfl⟩
theorem OJ (x:Int)(hx:Wd x)(w:World):
  Calls prog 163 #[.int .u64 x] w λe w'=>e=.returned (.int .i64 (64 - tD x))/\w=w':=by
 have H:=zb (pe x hx w);go_enter func163,ntmps163;go_wp2_with (go_at_call 170;refine H.o.mono ?_;rintro e w' ⟨rfl,rfl⟩);go_ret;exact⟨rfl,rfl⟩
