/- What this claim leans on. -/
import Derived.Test.YtipmllfnpldbdaaGreatDoorYPre
import Derived.Test.YtipmllfnpldbdaaGreatDoorRows
import Derived.Laws.Bits64b
import Derived.Laws.Externs
import Derived.Laws.MathBits
import Derived.Lib.Hide
import Derived.Lib.Mul64
import Derived.Lib.TrailingZeros
import Derived.Outline
import Derived.WalkKit
set_option linter.unusedVariables false
set_option linter.unusedSimpArgs false
namespace Go.Proofs.YtipmllfnpldbdaaGreatDoor
open Go Go.RowKit Go.Proofs.Tryz
set_option maxHeartbeats 16000000
variable {x y:Int}
def vh (x y c:Int):Int:=(x+y+c%2)%18446744073709551616
def vg (x y c:Int):Int:=(x+y+c%2) / 18446744073709551616
def rm (x y c:Int):Int:=(x - y - c%2)%18446744073709551616
def rl (x y c:Int):Int:=if x<y+c%2 then 1 else 0
def Wd (x:Int):Prop:=0<=x/\x<18446744073709551616
theorem u7 (x y c:Int):Wd (vh x y c):=by unfold Wd vh;omega
theorem bH {c:Int}(hx:Wd x)(hy:Wd y):0<=vg x y c/\vg x y c<=1:=by unfold Wd at hx hy;unfold vg;omega
def uh (x y:Int):Int:=x*y / 18446744073709551616
def wi (x y:Int):Int:=x*y%18446744073709551616
def x5 (x y a b:Int):Int:=(x*y+a+b) / 18446744073709551616
def vZ (x y a b:Int):Int:=(x*y+a+b)%18446744073709551616
theorem se (hx:Wd x)(hy:Wd y):0<=x*y/\x*y<=340282366920938463426481119284349108225:=by
 obtain⟨a,b⟩:=hx;obtain⟨c,d⟩:=hy;refine⟨YQ a c,?_⟩;have:x*y<=18446744073709551615*18446744073709551615:=Int.mul_le_mul za za c za;simpa using this
theorem sc (hx:Wd x)(hy:Wd y):Wd (uh x y):=by have:=se hx hy;unfold Wd uh;omega
theorem sd (x y:Int):Wd (wi x y):=by unfold Wd wi;omega
theorem qw {a b:Int}(hx:Wd x)(hy:Wd y)(ha:Wd a)(hb:Wd b):Wd (x5 x y a b):=by
 have:=se hx hy;unfold Wd at*;unfold x5;omega
theorem qz (x y a b:Int):((wi x y+a)%18446744073709551616+b)%18446744073709551616=vZ x y a b:=by
 unfold wi vZ;omega
theorem qv (x y a b:Int):uh x y+(wi x y+a) / 18446744073709551616+((wi x y+a)%18446744073709551616+b) / 18446744073709551616=x5 x y a b:=by
 unfold wi uh x5;omega
def vw (x:Int):Int:=(bitLen x.toNat:Nat)
def mm (x:Int):Int:=(Lib.ctz 64 x.toNat:Nat)
theorem kT (n k:Nat)(h:n<2^k):bitLen n<=k:=by
 unfold bitLen
 split
 ·omega
 ·rename_i h0
  have:=(Nat.log2_lt h0).2 h;omega
theorem qt (hx:Wd x):0<=vw x/\vw x<=64:=by
 unfold Wd at hx;have:=kT x.toNat 64 za;unfold vw;omega
theorem oW (x:Nat)(hx:x<2^64):Lib.ctz 64 x<=64:=by
 by_cases h:x=0
 ·subst h;decide
 ·have:=(Lib.lowest_bit 64 x h hx).2;omega
def xF (hi lo y:Int):Int:=(hi*18446744073709551616+lo) / y
def x4 (hi lo y:Int):Int:=(hi*18446744073709551616+lo)%y
theorem fj (q Y:Int):q*Y=(q*(Y / 4294967296))*4294967296+q*(Y%4294967296):=by
 have h:Y=Y / 4294967296*4294967296+Y%4294967296:=za
 calc q * Y = q * (Y / 4294967296 * 4294967296 + Y % 4294967296):=by rw [← h]
  _=_:=by rw [Int.mul_add,Int.mul_assoc]
def rv (U u:Int):Int:=U*4294967296+u
def xg (U u Y:Int):Int:=rv U u / Y
def xv (U u Y:Int):Int:=rv U u%Y
structure vi (U u Y q r:Int):Prop where
 sum:U=q*(Y / 4294967296)+r
 low:0<=r
 q_lo:xg U u Y<=q
 q_hi:q<=4294967297
section
variable {U u Y q r:Int}
theorem ml (hU:0<=U)(hUY:U<Y)(hu:0<=u)(hu':u<4294967296):0<=xg U u Y/\xg U u Y<4294967296:=by
 unfold xg rv;refine⟨yP za za,Int.ediv_lt_of_lt_mul za ?_⟩;have:(U+1)*4294967296<=Y*4294967296:=XA za za;omega
theorem jB (hY:0<Y):0<=xv U u Y/\xv U u Y<Y:=⟨yO _ za,yU _ hY⟩
theorem iF (U u Y:Int):xg U u Y*Y+xv U u Y=rv U u:=by unfold xg xv;rw [XG];exact XZ _ _
theorem fo (hY:0<Y):q<=xg U u Y↔q*Y<=rv U u:=by unfold xg;exact Int.le_ediv_iff_mul_le hY
theorem vi.start (hU:0<=U)(a:U<Y)(hY:9223372036854775808<=Y)(hY':Y<18446744073709551616)(hu:0<=u)(d:u<4294967296):
  vi U u Y (U / (Y / 4294967296)) (U - U / (Y / 4294967296)*(Y / 4294967296)):=by
 have hA:2147483648<=Y / 4294967296:=za;have hm:=XZ U (Y / 4294967296);have hr0:=yO U (show Y / 4294967296≠0 by omega);rw [XG] at hm;refine⟨za,za,?_,?_⟩
 ·refine(Int.le_ediv_iff_mul_le za).2 ?_;have h1:=(fo (U:=U) (u:=u) (Y:=Y) (q:=xg U u Y) za).1 (Int.le_refl _);have hb:=ml hU a hu d;have h2:=fj (xg U u Y) Y;have h3:0<=xg U u Y*(Y%4294967296):=YQ hb.1 za;unfold rv at h1;omega
 ·have h4:U / (Y / 4294967296)<4294967298:=by
   refine Int.ediv_lt_of_lt_mul za ?_;omega
  omega
theorem vi.down (h:vi U u Y q r)(hU:0<=U)(a:U<Y)(hY:9223372036854775808<=Y)(hu:0<=u)(d:u<4294967296)
  (ht:4294967296<=q\/4294967296*r+u<q*(Y%4294967296)):vi U u Y (q - 1) (r+Y / 4294967296):=by
 have hb:=ml hU a hu d;obtain⟨hs,hl,h1,h2⟩:=h;refine⟨by rw [Int.sub_mul];omega,za,?_,za⟩;rcases ht with ht|ht
 ·omega
 ·have:¬ q<=xg U u Y:=by
   rw [fo za];have:=fj q Y;unfold rv;omega
  omega
theorem vi.done (h:vi U u Y q r)(hY:9223372036854775808<=Y)(ht:q*(Y%4294967296)<=4294967296*r+u):q=xg U u Y:=by
 obtain⟨hs,hl,h1,h2⟩:=h;have:q<=xg U u Y:=by
  rw [fo za];have:=fj q Y;unfold rv;omega
 omega
theorem vi.past (h:vi U u Y q r)(hY:9223372036854775808<=Y)(hu:0<=u)(hq:q<=4294967296)(hr:4294967296<=r):q=xg U u Y:=by
 refine h.done hY ?_;have h0:q*(Y%4294967296)<=4294967296*(Y%4294967296):=XA hq za;omega
theorem vi.room (h:vi U u Y q r)(hU:0<=U)(a:U<Y)(hu:0<=u)(d:u<4294967296)(hr:r<4294967296):
  0<=q/\0<=q*(Y%4294967296)/\q*(Y%4294967296)<18446744073709551616/\0<=4294967296*r+u/\4294967296*r+u<18446744073709551616:=by
 have hb:=ml hU a hu d;obtain⟨hs,hl,h1,h2⟩:=h;have h3:q*(Y%4294967296)<=4294967297*(Y%4294967296):=XA h2 za;have h4:0<=q*(Y%4294967296):=YQ za za;omega
theorem aV (hY:0<Y)(hY':Y<18446744073709551616):
  ((U*4294967296%18446744073709551616+u)%18446744073709551616 - xg U u Y*Y%18446744073709551616)%18446744073709551616=xv U u Y:=by
 have h:=iF U u Y;have hb:=jB (U:=U) (u:=u) hY;unfold rv at h;omega
end
theorem oX (U V Y:Int)(hU:0<=U)(hUY:U<Y):
  xg U (V / 4294967296) Y*4294967296+xg (xv U (V / 4294967296) Y) (V%4294967296) Y=(U*18446744073709551616+V) / Y/\
  xv (xv U (V / 4294967296) Y) (V%4294967296) Y=(U*18446744073709551616+V)%Y:=by
 have hY:0<Y:=za;have h1:=iF U (V / 4294967296) Y;have h2:=iF (xv U (V / 4294967296) Y) (V%4294967296) Y;have b2:=jB (U:=xv U (V / 4294967296) Y) (u:=V%4294967296) hY;have d:Y*(xg U (V / 4294967296) Y*4294967296+xg (xv U (V / 4294967296) Y) (V%4294967296) Y)+xv (xv U (V / 4294967296) Y) (V%4294967296) Y=U*18446744073709551616+V:=by
  generalize xg (xv U (V / 4294967296) Y) (V%4294967296) Y=q0 at*;generalize xv (xv U (V / 4294967296) Y) (V%4294967296) Y=r0 at*;generalize xg U (V / 4294967296) Y=q1 at*;generalize xv U (V / 4294967296) Y=r1 at*;unfold rv at h1 h2;rw [Int.mul_add,XG Y,XG Y,Int.mul_right_comm];omega
 have e1:=Int.ediv_emod_unique (a:=U*18446744073709551616+V) (b:=Y) (r:=xv (xv U (V / 4294967296) Y) (V%4294967296) Y) (q:=xg U (V / 4294967296) Y*4294967296+xg (xv U (V / 4294967296) Y) (V%4294967296) Y) hY;obtain⟨g1,g2⟩:=e1.2 ⟨by rw [Int.add_comm];exact d,b2.1,b2.2⟩;exact⟨g1.symm,g2.symm⟩
theorem tu (M y P:Int)(hP:0<P):(M*P) / (y*P)=M / y/\(M*P)%(y*P) / P=M%y:=by
 refine⟨Int.mul_ediv_mul_of_pos_left _ _ hP,?_⟩;rw [XG M,XG y,Int.mul_emod_mul_of_pos _ _ hP];exact Int.mul_ediv_cancel_left _ za
theorem qi (hi lo y:Int)(s:Nat)(hs:s<=63)(hh:0<=hi)(hy0:hi<y)(hl:0<=lo)(h:lo<18446744073709551616):
  0<=hi*2^s+lo / 2^(64 - s)/\hi*2^s+lo / 2^(64 - s)<y*2^s/\
  (hi*2^s+lo / 2^(64 - s))*18446744073709551616+lo*2^s%18446744073709551616=(hi*18446744073709551616+lo)*2^s:=by
 have hp:(0:Int)<2^s:=Int.pow_pos zh;have i:(0:Int)<2^(64 - s):=Int.pow_pos zh;have g:(2:Int)^(64 - s)*2^s=18446744073709551616:=by
  rw [<-Int.pow_add,show 64 - s+s=64 from by omega];decide
 have hlt:lo / 2^(64 - s)<2^s:=by
  refine Int.ediv_lt_of_lt_mul i ?_;rw [XG,g];exact h
 have h0:0<=lo / 2^(64 - s):=yP hl za;have hh2:0<=hi*2^s:=YQ hh za;have d:(hi+1)*2^s<=y*2^s:=XA za za;have e:lo*2^s / 18446744073709551616=lo / 2^(64 - s):=by
  rw [<-g];exact Int.mul_ediv_mul_of_pos_left _ _ hp
 have e2:=XZ (lo*2^s) 18446744073709551616;rw [e] at e2;refine⟨za,?_,?_⟩
 ·rw [Int.add_mul] at d;omega
 ·generalize lo / 2^(64 - s)=a at*;generalize hb:lo*2^s=b at*;have:(hi*18446744073709551616+lo)*2^s=hi*2^s*18446744073709551616+b:=by
   rw [Int.add_mul,hb,Int.mul_right_comm]
  rw [this];generalize hi*2^s=c at*;omega
theorem bC (y:Int)(h0:0<y)(h1:y<18446744073709551616):∃s:Nat,64 - vw y=s/\s<=63/\9223372036854775808<=y*2^s/\y*2^s<18446744073709551616:=by
 have hb:=bitLen_spec y.toNat;have hl:=kT y.toNat 64 za;have a:y.toNat≠0:=za;have h3:=hb.2 a;have hpos:1<=bitLen y.toNat:=by
  rcases QS (bitLen y.toNat) with h|h
  ·rw [h] at hb;simp at hb;omega
  ·exact h
 refine⟨64 - bitLen y.toNat,by unfold vw;omega,za,?_,?_⟩
 ·have:(2:Nat)^(bitLen y.toNat - 1)*2^(64 - bitLen y.toNat)<=y.toNat*2^(64 - bitLen y.toNat):=QK _ h3;rw [<-xU,show bitLen y.toNat - 1+(64 - bitLen y.toNat)=63 from by omega] at this;have e:y*2^(64 - bitLen y.toNat)=((y.toNat*2^(64 - bitLen y.toNat):Nat):Int):=by
   rw [QV,Int.toNat_of_nonneg za,XO];rfl
  rw [e];omega
 ·have:y.toNat*2^(64 - bitLen y.toNat)<2^bitLen y.toNat*2^(64 - bitLen y.toNat):=Nat.mul_lt_mul_of_pos_right hb.1 (xZ _);rw [<-xU,show bitLen y.toNat+(64 - bitLen y.toNat)=64 from by omega] at this;have e:y*2^(64 - bitLen y.toNat)=((y.toNat*2^(64 - bitLen y.toNat):Nat):Int):=by
   rw [QV,Int.toNat_of_nonneg za,XO];rfl
  rw [e];omega
theorem pt (a b:Int)(s:Nat)(h0:0<=a)(h1:a*2^s<18446744073709551616)(h2:0<=b)(h3:b<2^s)(hs:s<=63):
  bits .or .u64 (a*2^s) b=a*2^s+b:=by
 obtain⟨a,rfl⟩:=QT h0;obtain⟨b,rfl⟩:=QT h2;have e:(a:Int)*2^s=((a*2^s:Nat):Int):=by rw [QV,XO];rfl
 have e3:b<2^s:=by
  have:((2^s:Nat):Int)=(2:Int)^s:=by rw [XO];rfl
  omega
 have d:b<18446744073709551616:=qJ e3 (by
  have:=qL (n:=2) zh (show s<=64 from by omega);simpa using this)
 rw [e] at h1⊢;rw [bits_or_u64_nat _ _ za d];have:=Nat.shiftLeft_add_eq_or_of_lt e3 a;rw [Nat.shiftLeft_eq] at this;rw [<-this];omega
theorem lv (c:Int)(hc:Wd c):bits .and .u64 c 1=c%2:=by
 obtain⟨h0,h1⟩:=hc;obtain⟨c,rfl⟩:=QT h0;have h:=bits_and_u64_nat c 1 za za;have e:c&&&1=c%2:=Nat.and_two_pow_sub_one_eq_mod c 1;rw [e] at h;simpa using h
theorem uZ (x y c:Int)(hx:Wd x)(hy:Wd y)(a:0<=c)(hc:c<=1)(w:World):
  (callFunc 132 #[.int .u64 x,.int .u64 y,.int .u64 c]).run prog w=.ok (.value (.tuple #[.int .u64 (vh x y c),.int .u64 (vg x y c)])) w:=by
 rw [run_callFunc_extern func132 zm zm zm (e:=add64Entry) zm,run_add64 x y c hx.1 hy.1 a hc];have e:c%2=c:=za;unfold vh vg;rw [e];rfl
def sK:Array Value->Sem Value:=λargs=>do
 let (x,y,b) ← Extern.MathBitsCarry.three "Sub64" args
 pure (Extern.MathBitsCarry.pair ((x+Extern.MathBitsCarry.m64 - y - b)%Extern.MathBitsCarry.m64) (if x<y+b then 1 else 0))
theorem Wz (P:Program)(x y b:Nat)(hb:b<=1)(w:World):
  (sK #[.int .u64 x,.int .u64 y,.int .u64 b]).run P w =
    .ok (.tuple #[.int .u64 (((x+18446744073709551616 - y - b)%18446744073709551616:Nat):Int),.int .u64 ((if x<y+b then 1 else 0:Nat):Int)]) w:=by
 have:b=0\/b=1:=za;rcases this with rfl|rfl<;>rfl
theorem oB (x y b:Int)(hx:Wd x)(hy:Wd y)(a:0<=b)(hb:b<=1)(w:World):
  (callFunc 142 #[.int .u64 x,.int .u64 y,.int .u64 b]).run prog w=.ok (.value (.tuple #[.int .u64 (rm x y b),.int .u64 (rl x y b)])) w:=by
 obtain⟨d,hx1⟩:=hx;obtain⟨g,hy1⟩:=hy;obtain⟨x,rfl⟩:=QT d;obtain⟨y,rfl⟩:=QT g;obtain⟨b,rfl⟩:=QT a;have e1:(((x+18446744073709551616 - y - b)%18446744073709551616:Nat):Int)=rm x y b:=by unfold rm;omega
 have e2:((if x<y+b then 1 else 0:Nat):Int)=rl x y b:=by unfold rl;split<;>split<;>omega
 rw [run_callFunc_extern func142 zm zm zm (e:=sK) zm,Wz _ x y b za,e1,e2];rfl
namespace M64
set_option maxHeartbeats 16000000
theorem maskN (a:Nat)(ha:a<18446744073709551616):bits .and .u64 (a:Int) 4294967295=((a%4294967296:Nat):Int):=by
 have h:=bits_and_u64_nat a 4294967295 ha za;have e:a&&&4294967295=a%4294967296:=Nat.and_two_pow_sub_one_eq_mod a 32;rw [e] at h;exact h
theorem divN (a:Nat):(a:Int) / 4294967296=((a / 4294967296:Nat):Int):=za
theorem mulN (a b:Nat):(a:Int)*(b:Int)=((a*b:Nat):Int):=(QV a b).symm
theorem addN (a b:Nat):(a:Int)+(b:Int)=((a+b:Nat):Int):=(Int.natCast_add a b).symm
theorem wrapN (a:Nat)(ha:a<18446744073709551616):IntKind.u64.wrap (a:Int)=(a:Int):=by rw [QL];omega
theorem wrapM (a:Nat):IntKind.u64.wrap (a:Int)=((a%18446744073709551616:Nat):Int):=by rw [QL];omega
end M64
theorem Ul (x y:Nat)(hx:x<18446744073709551616)(hy:y<18446744073709551616)(w:World):
  Calls prog 131 #[.int .u64 x,.int .u64 y] w λe w'=>e=.returned (.tuple #[.int .u64 ((x*y / 18446744073709551616:Nat):Int),.int .u64 ((x*y%18446744073709551616:Nat):Int)])/\w=w':=by
 obtain⟨bd,bt,bw,j⟩:=Lib.mul64_hi x y hx hy;have ba:=Lib.half_mul_le (a:=x / 4294967296) (b:=y / 4294967296) za za;have bb:=Lib.half_mul_le (a:=x / 4294967296) (b:=y%4294967296) za za;have bc:=Lib.half_mul_le (a:=x%4294967296) (b:=y / 4294967296) za za;have d:x / 4294967296*(y / 4294967296)<18446744073709551616:=za;have g:x / 4294967296*(y%4294967296)<18446744073709551616:=za;have h:x%4294967296*(y / 4294967296)<18446744073709551616:=za;have i:x / 4294967296*(y / 4294967296)+(x / 4294967296*(y%4294967296)+x%4294967296*(y%4294967296) / 4294967296) / 4294967296<18446744073709551616:=za;have bh:x / 4294967296*(y / 4294967296)+(x / 4294967296*(y%4294967296)+x%4294967296*(y%4294967296) / 4294967296) / 4294967296+((x / 4294967296*(y%4294967296)+x%4294967296*(y%4294967296) / 4294967296)%4294967296+x%4294967296*(y / 4294967296)) / 4294967296<18446744073709551616:=za;go_enter func131,ntmps131;go_wp2;simp only [M64.maskN x hx,M64.maskN y hy,M64.divN,M64.mulN,M64.addN,M64.wrapN _ bd,M64.wrapN _ g,M64.wrapN _ bt,M64.maskN _ bt,M64.wrapN _ h,M64.wrapN _ bw,M64.wrapN _ d,M64.wrapN _ i,M64.wrapN _ bh,M64.wrapM (x*y)];rw [j]
 go_ret2
 exact⟨rfl,rfl⟩
theorem ot (x y:Int)(hx:Wd x)(hy:Wd y)(w:World):
  Calls prog 131 #[.int .u64 x,.int .u64 y] w λe w'=>e=.returned (.tuple #[.int .u64 (uh x y),.int .u64 (wi x y)])/\w=w':=by
 obtain⟨a,hx1⟩:=hx;obtain⟨d,hy1⟩:=hy;obtain⟨x,rfl⟩:=QT a;obtain⟨y,rfl⟩:=QT d;have e1:uh x y=((x*y / 18446744073709551616:Nat):Int):=by unfold uh;rw [<-QV];omega
 have e2:wi x y=((x*y%18446744073709551616:Nat):Int):=by unfold wi;rw [<-QV];omega
 rw [e1,e2];exact Ul x y za za w
theorem nW (x z:Int)(k:Nat)(hk:k<=56)(h0:0<=z)(h1:z<256)(hz:z.toNat=x.toNat / 2^k)(a:k=0\/z≠0):wrap64 ((k:Int)+wrap64 ((bitLen z.toNat:Nat):Int))=vw x:=by
 have hl:=bitLen_le8 z.toNat za;have e1:wrap64 ((bitLen z.toNat:Nat):Int)=((bitLen z.toNat:Nat):Int):=IntWalk.wrap64_in _ za;have e2:bitLen x.toNat=k+bitLen z.toNat:=by
  rcases a with rfl|a
  ·rw [hz];simp
  ·rw [hz];exact bitLen_shift x.toNat k (by rw [<-hz];omega)
 rw [e1,IntWalk.wrap64_in _ za];unfold vw;rw [e2];omega
theorem tL (x:Int)(h0:0<=x)(h1:x<256):wrap64 (wrap64 ((bitLen x.toNat:Nat):Int))=vw x:=by
 have hl:=bitLen_le8 x.toNat za;have e:wrap64 ((bitLen x.toNat:Nat):Int)=((bitLen x.toNat:Nat):Int):=IntWalk.wrap64_in _ za;rw [e,e];rfl
set_option maxRecDepth 100000 in
theorem oq (x:Int)(hx:Wd x)(w:World):
  Calls prog 161 #[.int .u64 x] w λe w'=>e=.returned (.int .i64 (vw x))/\w=w':=by
 obtain⟨h0,h1⟩:=hx;go_enter func161,ntmps161;go_wp2
 all_goals
  go_ret
  refine⟨congrArg Ending.returned (congrArg (Value.int IntKind.i64) ?_),rfl⟩
  rw [len8tab_get]
 all_goals first
  |exact nW x (x / 4294967296 / 65536 / 256) 56 za za za za (.inr za)
  |exact nW x (x / 4294967296 / 65536) 48 za za za za (.inr za)
  |exact nW x (x / 4294967296 / 256) 40 za za za za (.inr za)
  |exact nW x (x / 4294967296) 32 za za za za (.inr za)
  |exact nW x (x / 65536 / 256) 24 za za za za (.inr za)
  |exact nW x (x / 65536) 16 za za za za (.inr za)
  |exact nW x (x / 256) 8 za za za za (.inr za)
  |exact tL x za za
theorem tK (x:Int)(hx:Wd x)(w:World):
  Calls prog 157 #[.int .u64 x] w λe w'=>e=.returned (.int .i64 (64 - vw x))/\w=w':=by
 have H:=zd (oq x hx w);have b:=qt hx;obtain⟨b0,b1⟩:=b;go_enter func157,ntmps157;go_wp2_with (go_at_call 161;refine H.o.mono ?_;rintro e w' ⟨rfl,rfl⟩);go_ret;exact⟨rfl,rfl⟩
theorem bK (x y c:Int)(hx:Wd x)(hy:Wd y)(hc:Wd c)(w:World):
  Calls prog 133 #[.int .u64 x,.int .u64 y,.int .u64 c] w λe w'=>e=.returned (.tuple #[.int .u64 (vh x y c),.int .u64 (vg x y c)])/\w=w':=by
 have L:=zd (lv c hc);have H:=zd (uZ x y (c%2) hx hy za za);have e1:vh x y (c%2)=vh x y c:=by unfold vh;omega
 have e2:vg x y (c%2)=vg x y c:=by unfold vg;omega
 rw [e1,e2] at H;clear e1 e2;go_enter func133,ntmps133;go_wp2_with (first|simp only [L.o,H.o])
 go_ret2
 exact⟨rfl,rfl⟩
theorem bL (x y c:Int)(hx:Wd x)(hy:Wd y)(hc:Wd c)(w:World):
  Calls prog 134 #[.int .u64 x,.int .u64 y,.int .u64 c] w λe w'=>e=.returned (.tuple #[.int .u64 (rm x y c),.int .u64 (rl x y c)])/\w=w':=by
 have L:=zd (lv c hc);have H:=zd (oB x y (c%2) hx hy za za);have e1:rm x y (c%2)=rm x y c:=by unfold rm;omega
 have e2:rl x y (c%2)=rl x y c:=by unfold rl;rw [show c%2%2=c%2 from by omega]
 rw [e1,e2] at H;clear e1 e2;go_enter func134,ntmps134;go_wp2_with (first|simp only [L.o,H.o])
 go_ret2
 exact⟨rfl,rfl⟩
theorem sW (x y:Int)(hx:Wd x)(hy:Wd y)(w:World):
  Calls prog 162 #[.int .u64 x,.int .u64 y] w λe w'=>e=.returned (.tuple #[.int .u64 (uh x y),.int .u64 (wi x y)])/\w=w':=by
 have H:=zd (ot x y hx hy w);go_enter func162,ntmps162;go_wp2_with (go_at_call 131;refine H.o.mono ?_;rintro e w' ⟨rfl,rfl⟩)
 go_ret2
 exact⟨rfl,rfl⟩
theorem Xk (x y a b:Int)(hx:Wd x)(hy:Wd y)(ha:Wd a)(hb:Wd b)(w:World):
  Calls prog 119 #[.int .u64 x,.int .u64 y,.int .u64 a,.int .u64 b] w λe w'=>e=.returned (.tuple #[.int .u64 (x5 x y a b),.int .u64 (vZ x y a b)])/\w=w':=by
 have hl:=sd x y;have hs:=u7 (wi x y) a 0;have H:=zd (ot x y hx hy w);have A1:=zd (uZ (wi x y) a 0 hl ha za za w);have A2:=zd (uZ (vh (wi x y) a 0) b 0 hs hb za za w);have eL:vh (vh (wi x y) a 0) b 0=vZ x y a b:=by rw [<-qz];unfold vh;omega
 have eH:uh x y+vg (wi x y) a 0+vg (vh (wi x y) a 0) b 0=x5 x y a b:=by rw [<-qv];unfold vg vh;omega
 have b1:=sc hx hy;have b2:=bH (c:=0) hl ha;have b3:=bH (c:=0) hs hb;have b4:=qw hx hy ha hb;have EL:=zd eL;have EH:=zd eH;have W1:zg (IntKind.u64.wrap (uh x y+vg (wi x y) a 0)=uh x y+vg (wi x y) a 0):=by
  rw [QL];unfold Wd at*;show _%_=_;omega
 have W2:zg (IntKind.u64.wrap (x5 x y a b)=x5 x y a b):=by
  rw [QL];unfold Wd at*;show _%_=_;omega
 clear eL eH b1 b2 b3 b4 hl hs;go_enter func119,ntmps119;go_wp2_with (first|(go_at_call 131;refine H.o.mono ?_;rintro e w' ⟨rfl,rfl⟩)|simp only [A1.o]|simp only [A2.o]);simp only [W1.o,W2.o,EL.o,EH.o]
 go_ret2
 exact⟨rfl,rfl⟩
theorem sV (x:Int)(hx:Wd x)(w:World):
  Calls prog 154 #[.int .u64 x] w λe w'=>e=.returned (.int .i64 (vw x))/\w=w':=by
 have H:=zd (oq x hx w);go_enter func154,ntmps154;go_wp2_with (go_at_call 161;refine H.o.mono ?_;rintro e w' ⟨rfl,rfl⟩);go_ret;exact⟨rfl,rfl⟩
theorem Uy (x:Int)(hx:Wd x)(w:World):
  Calls prog 151 #[.int .u64 x] w λe w'=>e=.returned (.int .i64 (64 - vw x))/\w=w':=by
 have H:=zd (tK x hx w);go_enter func151,ntmps151;go_wp2_with (go_at_call 157;refine H.o.mono ?_;rintro e w' ⟨rfl,rfl⟩);go_ret;exact⟨rfl,rfl⟩
