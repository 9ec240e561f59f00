/- What this claim leans on. -/
import Derived.Test.YtghpdeciaaagnaaGreatDoorQPre
import Derived.Test.YtghpdeciaaagnaaGreatDoorRows
import Derived.Laws.Bits64b
import Derived.Laws.Externs
import Derived.Laws.MathBits
import Derived.Lib.Hide
import Derived.Lib.Mul64
import Derived.Lib.TrailingZeros
import Derived.Outline
import Derived.WalkKit
namespace Go.Proofs.YtghpdeciaaagnaaGreatDoor
open Go Go.RowKit Go.Proofs.Tryz
set_option maxHeartbeats 16000000
def zdW (x y c:Int):Int:=(x+y+c%2)%18446744073709551616
def zdV (x y c:Int):Int:=(x+y+c%2) / 18446744073709551616
def zge (x y c:Int):Int:=(x - y - c%2)%18446744073709551616
def zgd (x y c:Int):Int:=if x<y+c%2 then 1 else 0
def Wd (x:Int):Prop:=0<=x/\x<18446744073709551616
theorem addLo_wd (x y c:Int):Wd (zdW x y c):=by unfold Wd zdW;omega
theorem zmh {x y c:Int}(hx:Wd x)(hy:Wd y):0<=zdV x y c/\zdV x y c<=1:=by unfold Wd at hx hy;unfold zdV;omega
def zeU (x y:Int):Int:=x*y / 18446744073709551616
def zcS (x y:Int):Int:=x*y%18446744073709551616
def maHi (x y a b:Int):Int:=(x*y+a+b) / 18446744073709551616
def maLo (x y a b:Int):Int:=(x*y+a+b)%18446744073709551616
theorem mul_bd {x y:Int}(hx:Wd x)(hy:Wd y):0<=x*y/\x*y<=340282366920938463426481119284349108225:=by
 obtain⟨a,b⟩:=hx;obtain⟨c,d⟩:=hy;refine⟨Int.mul_nonneg a c,?_⟩;have:x*y<=18446744073709551615*18446744073709551615:=Int.mul_le_mul om9 om9 c om9;simpa using this
theorem mulHi_wd {x y:Int}(hx:Wd x)(hy:Wd y):Wd (zeU x y):=by have:=mul_bd hx hy;unfold Wd zeU;omega
theorem mulLo_wd (x y:Int):Wd (zcS x y):=by unfold Wd zcS;omega
theorem maHi_wd {x y a b:Int}(hx:Wd x)(hy:Wd y)(ha:Wd a)(hb:Wd b):Wd (maHi x y a b):=by
 have:=mul_bd hx hy;unfold Wd at*;unfold maHi;omega
theorem maLo_eq (x y a b:Int):((zcS x y+a)%18446744073709551616+b)%18446744073709551616=maLo x y a b:=by
 unfold zcS maLo;omega
theorem maHi_eq (x y a b:Int):zeU x y+(zcS x y+a) / 18446744073709551616+((zcS x y+a)%18446744073709551616+b) / 18446744073709551616=maHi x y a b:=by
 unfold zcS zeU maHi;omega
def zgT (x:Int):Int:=(bitLen x.toNat:Nat)
def zgX (x:Int):Int:=(Lib.ctz 64 x.toNat:Nat)
theorem zeO (n k:Nat)(h:n<2^k):bitLen n<=k:=by
 unfold bitLen
 split
 ·omega
 ·rename_i h0
  have:=(Nat.log2_lt h0).2 h;omega
theorem lenN_bd {x:Int}(hx:Wd x):0<=zgT x/\zgT x<=64:=by
 unfold Wd at hx;have:=zeO x.toNat 64 om9;unfold zgT;omega
theorem ctz_le (x:Nat)(hx:x<2^64):Lib.ctz 64 x<=64:=by
 by_cases h:x=0
 ·subst h;decide
 ·have:=(Lib.lowest_bit 64 x h hx).2;omega
def divQ (hi lo y:Int):Int:=(hi*18446744073709551616+lo) / y
def divR (hi lo y:Int):Int:=(hi*18446744073709551616+lo)%y
theorem zoc (q Y:Int):q*Y=(q*(Y / 4294967296))*4294967296+q*(Y%4294967296):=by
 have h:Y=Y / 4294967296*4294967296+Y%4294967296:=om9
 calc q * Y = q * (Y / 4294967296 * 4294967296 + Y % 4294967296):=by rw [← h]
  _=_:=by rw [Int.mul_add,Int.mul_assoc]
def dgN (U u:Int):Int:=U*4294967296+u
def dgQ (U u Y:Int):Int:=dgN U u / Y
def dgR (U u Y:Int):Int:=dgN U u%Y
structure Dig (U u Y q r:Int):Prop where
 sum:U=q*(Y / 4294967296)+r
 low:0<=r
 q_lo:dgQ U u Y<=q
 q_hi:q<=4294967297
section
variable {U u Y q r:Int}
theorem zgO (hU:0<=U)(hUY:U<Y)(hu:0<=u)(hu':u<4294967296):0<=dgQ U u Y/\dgQ U u Y<4294967296:=by
 unfold dgQ dgN;refine⟨Int.ediv_nonneg om9 om9,Int.ediv_lt_of_lt_mul om9 ?_⟩;have:(U+1)*4294967296<=Y*4294967296:=Int.mul_le_mul_of_nonneg_right om9 om9;omega
theorem zls (hY:0<Y):0<=dgR U u Y/\dgR U u Y<Y:=⟨Int.emod_nonneg _ om9,Int.emod_lt_of_pos _ hY⟩
theorem zjg (U u Y:Int):dgQ U u Y*Y+dgR U u Y=dgN U u:=by unfold dgQ dgR;rw [Int.mul_comm];exact Int.mul_ediv_add_emod _ _
theorem zow (hY:0<Y):q<=dgQ U u Y↔q*Y<=dgN U u:=by unfold dgQ;exact Int.le_ediv_iff_mul_le hY
theorem Dig.start (hU:0<=U)(a:U<Y)(hY:9223372036854775808<=Y)(hY':Y<18446744073709551616)(hu:0<=u)(b:u<4294967296):
  Dig U u Y (U / (Y / 4294967296)) (U - U / (Y / 4294967296)*(Y / 4294967296)):=by
 have hA:2147483648<=Y / 4294967296:=om9;have hm:=Int.mul_ediv_add_emod U (Y / 4294967296);have hr0:=Int.emod_nonneg U (show Y / 4294967296≠0 by omega);rw [Int.mul_comm] at hm;refine⟨om9,om9,?_,?_⟩
 ·refine(Int.le_ediv_iff_mul_le om9).2 ?_;have h1:=(zow (U:=U) (u:=u) (Y:=Y) (q:=dgQ U u Y) om9).1 (Int.le_refl _);have hb:=zgO hU a hu b;have h2:=zoc (dgQ U u Y) Y;have h3:0<=dgQ U u Y*(Y%4294967296):=Int.mul_nonneg hb.1 om9;unfold dgN at h1;omega
 ·have h4:U / (Y / 4294967296)<4294967298:=by
   refine Int.ediv_lt_of_lt_mul om9 ?_;omega
  omega
theorem Dig.down (h:Dig U u Y q r)(hU:0<=U)(a:U<Y)(hY:9223372036854775808<=Y)(hu:0<=u)(b:u<4294967296)
  (ht:4294967296<=q\/4294967296*r+u<q*(Y%4294967296)):Dig U u Y (q - 1) (r+Y / 4294967296):=by
 have hb:=zgO hU a hu b;obtain⟨hs,hl,h1,h2⟩:=h;refine⟨by rw [Int.sub_mul];omega,om9,?_,om9⟩;rcases ht with ht|ht
 ·omega
 ·have:¬ q<=dgQ U u Y:=by
   rw [zow om9];have:=zoc q Y;unfold dgN;omega
  omega
theorem Dig.done (h:Dig U u Y q r)(hY:9223372036854775808<=Y)(ht:q*(Y%4294967296)<=4294967296*r+u):q=dgQ U u Y:=by
 obtain⟨hs,hl,h1,h2⟩:=h;have:q<=dgQ U u Y:=by
  rw [zow om9];have:=zoc q Y;unfold dgN;omega
 omega
theorem Dig.past (h:Dig U u Y q r)(hY:9223372036854775808<=Y)(hu:0<=u)(hq:q<=4294967296)(hr:4294967296<=r):q=dgQ U u Y:=by
 refine h.done hY ?_;have h0:q*(Y%4294967296)<=4294967296*(Y%4294967296):=Int.mul_le_mul_of_nonneg_right hq om9;omega
theorem Dig.room (h:Dig U u Y q r)(hU:0<=U)(a:U<Y)(hu:0<=u)(b:u<4294967296)(hr:r<4294967296):
  0<=q/\0<=q*(Y%4294967296)/\q*(Y%4294967296)<18446744073709551616/\0<=4294967296*r+u/\4294967296*r+u<18446744073709551616:=by
 have hb:=zgO hU a hu b;obtain⟨hs,hl,h1,h2⟩:=h;have h3:q*(Y%4294967296)<=4294967297*(Y%4294967296):=Int.mul_le_mul_of_nonneg_right h2 om9;have h4:0<=q*(Y%4294967296):=Int.mul_nonneg om9 om9;omega
theorem zpp (hY:0<Y)(hY':Y<18446744073709551616):
  ((U*4294967296%18446744073709551616+u)%18446744073709551616 - dgQ U u Y*Y%18446744073709551616)%18446744073709551616=dgR U u Y:=by
 have h:=zjg U u Y;have hb:=zls (U:=U) (u:=u) hY;unfold dgN at h;omega
end
theorem dq_two (U V Y:Int)(hU:0<=U)(hUY:U<Y):
  dgQ U (V / 4294967296) Y*4294967296+dgQ (dgR U (V / 4294967296) Y) (V%4294967296) Y=(U*18446744073709551616+V) / Y/\
  dgR (dgR U (V / 4294967296) Y) (V%4294967296) Y=(U*18446744073709551616+V)%Y:=by
 have hY:0<Y:=om9;have h1:=zjg U (V / 4294967296) Y;have h2:=zjg (dgR U (V / 4294967296) Y) (V%4294967296) Y;have b2:=zls (U:=dgR U (V / 4294967296) Y) (u:=V%4294967296) hY;have c:Y*(dgQ U (V / 4294967296) Y*4294967296+dgQ (dgR U (V / 4294967296) Y) (V%4294967296) Y)+dgR (dgR U (V / 4294967296) Y) (V%4294967296) Y=U*18446744073709551616+V:=by
  generalize dgQ (dgR U (V / 4294967296) Y) (V%4294967296) Y=q0 at*;generalize dgR (dgR U (V / 4294967296) Y) (V%4294967296) Y=r0 at*;generalize dgQ U (V / 4294967296) Y=q1 at*;generalize dgR U (V / 4294967296) Y=r1 at*;unfold dgN at h1 h2;rw [Int.mul_add,Int.mul_comm Y,Int.mul_comm Y,Int.mul_right_comm];omega
 have e1:=Int.ediv_emod_unique (a:=U*18446744073709551616+V) (b:=Y) (r:=dgR (dgR U (V / 4294967296) Y) (V%4294967296) Y) (q:=dgQ U (V / 4294967296) Y*4294967296+dgQ (dgR U (V / 4294967296) Y) (V%4294967296) Y) hY;obtain⟨g1,g2⟩:=e1.2 ⟨by rw [Int.add_comm];exact c,b2.1,b2.2⟩;exact⟨g1.symm,g2.symm⟩
theorem dg_shift (M y P:Int)(hP:0<P):(M*P) / (y*P)=M / y/\(M*P)%(y*P) / P=M%y:=by
 refine⟨Int.mul_ediv_mul_of_pos_left _ _ hP,?_⟩;rw [Int.mul_comm M,Int.mul_comm y,Int.mul_emod_mul_of_pos _ _ hP];exact Int.mul_ediv_cancel_left _ om9
theorem dg_norm (hi lo y:Int)(s:Nat)(hs:s<=63)(hh:0<=hi)(hy0:hi<y)(hl:0<=lo)(g:lo<18446744073709551616):
  0<=hi*2^s+lo / 2^(64 - s)/\hi*2^s+lo / 2^(64 - s)<y*2^s/\
  (hi*2^s+lo / 2^(64 - s))*18446744073709551616+lo*2^s%18446744073709551616=(hi*18446744073709551616+lo)*2^s:=by
 have hp:(0:Int)<2^s:=Int.pow_pos de9;have h:(0:Int)<2^(64 - s):=Int.pow_pos de9;have f:(2:Int)^(64 - s)*2^s=18446744073709551616:=by
  rw [<-Int.pow_add,show 64 - s+s=64 from by omega];decide
 have hlt:lo / 2^(64 - s)<2^s:=by
  refine Int.ediv_lt_of_lt_mul h ?_;rw [Int.mul_comm,f];exact g
 have h0:0<=lo / 2^(64 - s):=Int.ediv_nonneg hl om9;have hh2:0<=hi*2^s:=Int.mul_nonneg hh om9;have d:(hi+1)*2^s<=y*2^s:=Int.mul_le_mul_of_nonneg_right om9 om9;have e:lo*2^s / 18446744073709551616=lo / 2^(64 - s):=by
  rw [<-f];exact Int.mul_ediv_mul_of_pos_left _ _ hp
 have e2:=Int.mul_ediv_add_emod (lo*2^s) 18446744073709551616;rw [e] at e2;refine⟨om9,?_,?_⟩
 ·rw [Int.add_mul] at d;omega
 ·generalize lo / 2^(64 - s)=a at*;generalize hb:lo*2^s=b at*;have:(hi*18446744073709551616+lo)*2^s=hi*2^s*18446744073709551616+b:=by
   rw [Int.add_mul,hb,Int.mul_right_comm]
  rw [this];generalize hi*2^s=c at*;omega
theorem zmN (y:Int)(h0:0<y)(h1:y<18446744073709551616):∃s:Nat,64 - zgT y=s/\s<=63/\9223372036854775808<=y*2^s/\y*2^s<18446744073709551616:=by
 have hb:=bitLen_spec y.toNat;have hl:=zeO y.toNat 64 om9;have a:y.toNat≠0:=om9;have h3:=hb.2 a;have hpos:1<=bitLen y.toNat:=by
  rcases Nat.eq_zero_or_pos (bitLen y.toNat) with h|h
  ·rw [h] at hb;simp at hb;omega
  ·exact h
 refine⟨64 - bitLen y.toNat,by unfold zgT;omega,om9,?_,?_⟩
 ·have:(2:Nat)^(bitLen y.toNat - 1)*2^(64 - bitLen y.toNat)<=y.toNat*2^(64 - bitLen y.toNat):=Nat.mul_le_mul_right _ h3;rw [<-Nat.pow_add,show bitLen y.toNat - 1+(64 - bitLen y.toNat)=63 from by omega] at this;have e:y*2^(64 - bitLen y.toNat)=((y.toNat*2^(64 - bitLen y.toNat):Nat):Int):=by
   rw [Int.natCast_mul,Int.toNat_of_nonneg om9,Int.natCast_pow];rfl
  rw [e];omega
 ·have:y.toNat*2^(64 - bitLen y.toNat)<2^bitLen y.toNat*2^(64 - bitLen y.toNat):=Nat.mul_lt_mul_of_pos_right hb.1 (Nat.two_pow_pos _);rw [<-Nat.pow_add,show bitLen y.toNat+(64 - bitLen y.toNat)=64 from by omega] at this;have e:y*2^(64 - bitLen y.toNat)=((y.toNat*2^(64 - bitLen y.toNat):Nat):Int):=by
   rw [Int.natCast_mul,Int.toNat_of_nonneg om9,Int.natCast_pow];rfl
  rw [e];omega
theorem or_join (a b:Int)(s:Nat)(h0:0<=a)(h1:a*2^s<18446744073709551616)(h2:0<=b)(h3:b<2^s)(hs:s<=63):
  bits .or .u64 (a*2^s) b=a*2^s+b:=by
 obtain⟨a,rfl⟩:=Int.eq_ofNat_of_zero_le h0;obtain⟨b,rfl⟩:=Int.eq_ofNat_of_zero_le h2;have e:(a:Int)*2^s=((a*2^s:Nat):Int):=by rw [Int.natCast_mul,Int.natCast_pow];rfl
 have e3:b<2^s:=by
  have:((2^s:Nat):Int)=(2:Int)^s:=by rw [Int.natCast_pow];rfl
  omega
 have c:b<18446744073709551616:=Nat.lt_of_lt_of_le e3 (by
  have:=Nat.pow_le_pow_right (n:=2) de9 (show s<=64 from by omega);simpa using this)
 rw [e] at h1⊢;rw [bits_or_u64_nat _ _ om9 c];have:=Nat.shiftLeft_add_eq_or_of_lt e3 a;rw [Nat.shiftLeft_eq] at this;rw [<-this];omega
theorem low1 (c:Int)(hc:Wd c):bits .and .u64 c 1=c%2:=by
 obtain⟨h0,h1⟩:=hc;obtain⟨c,rfl⟩:=Int.eq_ofNat_of_zero_le h0;have h:=bits_and_u64_nat c 1 om9 om9;have e:c&&&1=c%2:=Nat.and_two_pow_sub_one_eq_mod c 1;rw [e] at h;simpa using h
theorem add64 (x y c:Int)(hx:Wd x)(hy:Wd y)(a:0<=c)(hc:c<=1)(w:World):
  (callFunc 202 #[.int .u64 x,.int .u64 y,.int .u64 c]).run prog w=.ok (.value (.tuple #[.int .u64 (zdW x y c),.int .u64 (zdV x y c)])) w:=by
 rw [run_callFunc_extern func202 kr9 kr9 kr9 (e:=add64Entry) kr9,run_add64 x y c hx.1 hy.1 a hc];have e:c%2=c:=om9;unfold zdW zdV;rw [e];rfl
def sub64E:Array Value->Sem Value:=λargs=>do
 let (x,y,b) ← Extern.MathBitsCarry.three "Sub64" args
 pure (Extern.MathBitsCarry.pair ((x+Extern.MathBitsCarry.m64 - y - b)%Extern.MathBitsCarry.m64) (if x<y+b then 1 else 0))
theorem zoZ (P:Program)(x y b:Nat)(hb:b<=1)(w:World):
  (sub64E #[.int .u64 x,.int .u64 y,.int .u64 b]).run P w =
    .ok (.tuple #[.int .u64 (((x+18446744073709551616 - y - b)%18446744073709551616:Nat):Int),.int .u64 ((if x<y+b then 1 else 0:Nat):Int)]) w:=by
 have:b=0\/b=1:=om9;rcases this with rfl|rfl<;>rfl
theorem sub64 (x y b:Int)(hx:Wd x)(hy:Wd y)(a:0<=b)(hb:b<=1)(w:World):
  (callFunc 232 #[.int .u64 x,.int .u64 y,.int .u64 b]).run prog w=.ok (.value (.tuple #[.int .u64 (zge x y b),.int .u64 (zgd x y b)])) w:=by
 obtain⟨c,hx1⟩:=hx;obtain⟨d,hy1⟩:=hy;obtain⟨x,rfl⟩:=Int.eq_ofNat_of_zero_le c;obtain⟨y,rfl⟩:=Int.eq_ofNat_of_zero_le d;obtain⟨b,rfl⟩:=Int.eq_ofNat_of_zero_le a;have e1:(((x+18446744073709551616 - y - b)%18446744073709551616:Nat):Int)=zge x y b:=by unfold zge;omega
 have e2:((if x<y+b then 1 else 0:Nat):Int)=zgd x y b:=by unfold zgd;split<;>split<;>omega
 rw [run_callFunc_extern func232 kr9 kr9 kr9 (e:=sub64E) kr9,zoZ _ x y b om9,e1,e2];rfl
namespace M64
set_option maxHeartbeats 16000000
theorem maskN (a:Nat)(ha:a<18446744073709551616):bits .and .u64 (a:Int) 4294967295=((a%4294967296:Nat):Int):=by
 have h:=bits_and_u64_nat a 4294967295 ha om9;have e:a&&&4294967295=a%4294967296:=Nat.and_two_pow_sub_one_eq_mod a 32;rw [e] at h;exact h
theorem divN (a:Nat):(a:Int) / 4294967296=((a / 4294967296:Nat):Int):=om9
theorem mulN (a b:Nat):(a:Int)*(b:Int)=((a*b:Nat):Int):=(Int.natCast_mul a b).symm
theorem addN (a b:Nat):(a:Int)+(b:Int)=((a+b:Nat):Int):=(Int.natCast_add a b).symm
theorem wrapN (a:Nat)(ha:a<18446744073709551616):IntKind.u64.wrap (a:Int)=(a:Int):=by rw [IntKind.wrap_u64];omega
theorem wrapM (a:Nat):IntKind.u64.wrap (a:Int)=((a%18446744073709551616:Nat):Int):=by rw [IntKind.wrap_u64];omega
end M64
theorem zqK (x y:Nat)(hx:x<18446744073709551616)(hy:y<18446744073709551616)(w:World):
  Calls prog 201 #[.int .u64 x,.int .u64 y] w λe w'=>e=.returned (.tuple #[.int .u64 ((x*y / 18446744073709551616:Nat):Int),.int .u64 ((x*y%18446744073709551616:Nat):Int)])/\w=w':=by
 obtain⟨bd,bt,bw,h⟩:=Lib.mul64_hi x y hx hy;have ba:=Lib.half_mul_le (a:=x / 4294967296) (b:=y / 4294967296) om9 om9;have bb:=Lib.half_mul_le (a:=x / 4294967296) (b:=y%4294967296) om9 om9;have bc:=Lib.half_mul_le (a:=x%4294967296) (b:=y / 4294967296) om9 om9;have c:x / 4294967296*(y / 4294967296)<18446744073709551616:=om9;have d:x / 4294967296*(y%4294967296)<18446744073709551616:=om9;have f:x%4294967296*(y / 4294967296)<18446744073709551616:=om9;have g:x / 4294967296*(y / 4294967296)+(x / 4294967296*(y%4294967296)+x%4294967296*(y%4294967296) / 4294967296) / 4294967296<18446744073709551616:=om9;have bh:x / 4294967296*(y / 4294967296)+(x / 4294967296*(y%4294967296)+x%4294967296*(y%4294967296) / 4294967296) / 4294967296+((x / 4294967296*(y%4294967296)+x%4294967296*(y%4294967296) / 4294967296)%4294967296+x%4294967296*(y / 4294967296)) / 4294967296<18446744073709551616:=om9;go_enter func201,ntmps201;go_wp2;simp only [M64.maskN x hx,M64.maskN y hy,M64.divN,M64.mulN,M64.addN,M64.wrapN _ bd,M64.wrapN _ d,M64.wrapN _ bt,M64.maskN _ bt,M64.wrapN _ f,M64.wrapN _ bw,M64.wrapN _ c,M64.wrapN _ g,M64.wrapN _ bh,M64.wrapM (x*y)];rw [h]
 go_ret2
 exact⟨rfl,rfl⟩
theorem mul64 (x y:Int)(hx:Wd x)(hy:Wd y)(w:World):
  Calls prog 201 #[.int .u64 x,.int .u64 y] w λe w'=>e=.returned (.tuple #[.int .u64 (zeU x y),.int .u64 (zcS x y)])/\w=w':=by
 obtain⟨a,hx1⟩:=hx;obtain⟨b,hy1⟩:=hy;obtain⟨x,rfl⟩:=Int.eq_ofNat_of_zero_le a;obtain⟨y,rfl⟩:=Int.eq_ofNat_of_zero_le b;have e1:zeU x y=((x*y / 18446744073709551616:Nat):Int):=by unfold zeU;rw [<-Int.natCast_mul];omega
 have e2:zcS x y=((x*y%18446744073709551616:Nat):Int):=by unfold zcS;rw [<-Int.natCast_mul];omega
 rw [e1,e2];exact zqK x y om9 om9 w
theorem zfm (x z:Int)(k:Nat)(hk:k<=56)(h0:0<=z)(h1:z<256)(hz:z.toNat=x.toNat / 2^k)(a:k=0\/z≠0):wrap64 ((k:Int)+wrap64 ((bitLen z.toNat:Nat):Int))=zgT x:=by
 have hl:=bitLen_le8 z.toNat om9;have e1:wrap64 ((bitLen z.toNat:Nat):Int)=((bitLen z.toNat:Nat):Int):=IntWalk.wrap64_in _ om9;have e2:bitLen x.toNat=k+bitLen z.toNat:=by
  rcases a with rfl|a
  ·rw [hz];simp
  ·rw [hz];exact bitLen_shift x.toNat k (by rw [<-hz];omega)
 rw [e1,IntWalk.wrap64_in _ om9];unfold zgT;rw [e2];omega
theorem len_way0 (x:Int)(h0:0<=x)(h1:x<256):wrap64 (wrap64 ((bitLen x.toNat:Nat):Int))=zgT x:=by
 have hl:=bitLen_le8 x.toNat om9;have e:wrap64 ((bitLen x.toNat:Nat):Int)=((bitLen x.toNat:Nat):Int):=IntWalk.wrap64_in _ om9;rw [e,e];rfl
set_option maxRecDepth 100000 in
theorem len64 (x:Int)(hx:Wd x)(w:World):
  Calls prog 209 #[.int .u64 x] w λe w'=>e=.returned (.int .i64 (zgT x))/\w=w':=by
 obtain⟨h0,h1⟩:=hx;go_enter func209,ntmps209;go_wp2
 all_goals
  go_ret
  refine⟨congrArg Ending.returned (congrArg (Value.int IntKind.i64) ?_),rfl⟩
  rw [len8tab_get]
 all_goals first
  |exact zfm x (x / 4294967296 / 65536 / 256) 56 om9 om9 om9 om9 (.inr om9)
  |exact zfm x (x / 4294967296 / 65536) 48 om9 om9 om9 om9 (.inr om9)
  |exact zfm x (x / 4294967296 / 256) 40 om9 om9 om9 om9 (.inr om9)
  |exact zfm x (x / 4294967296) 32 om9 om9 om9 om9 (.inr om9)
  |exact zfm x (x / 65536 / 256) 24 om9 om9 om9 om9 (.inr om9)
  |exact zfm x (x / 65536) 16 om9 om9 om9 om9 (.inr om9)
  |exact zfm x (x / 256) 8 om9 om9 om9 om9 (.inr om9)
  |exact len_way0 x om9 om9
theorem lead64 (x:Int)(hx:Wd x)(w:World):
  Calls prog 235 #[.int .u64 x] w λe w'=>e=.returned (.int .i64 (64 - zgT x))/\w=w':=by
 have H:=lh9 (len64 x hx w);have b:=lenN_bd hx;obtain⟨b0,b1⟩:=b;go_enter func235,ntmps235;go_wp2_with (go_at_call 209;refine H.out.mono ?_;rintro e w' ⟨rfl,rfl⟩);go_ret;exact⟨rfl,rfl⟩
theorem znG (x y c:Int)(hx:Wd x)(hy:Wd y)(hc:Wd c)(w:World):
  Calls prog 230 #[.int .u64 x,.int .u64 y,.int .u64 c] w λe w'=>e=.returned (.tuple #[.int .u64 (zdW x y c),.int .u64 (zdV x y c)])/\w=w':=by
 have L:=lh9 (low1 c hc);have H:=lh9 (add64 x y (c%2) hx hy om9 om9);have e1:zdW x y (c%2)=zdW x y c:=by unfold zdW;omega
 have e2:zdV x y (c%2)=zdV x y c:=by unfold zdV;omega
 rw [e1,e2] at H;clear e1 e2;go_enter func230,ntmps230;go_wp2_with (first|simp only [L.out,H.out])
 go_ret2
 exact⟨rfl,rfl⟩
theorem znJ (x y c:Int)(hx:Wd x)(hy:Wd y)(hc:Wd c)(w:World):
  Calls prog 231 #[.int .u64 x,.int .u64 y,.int .u64 c] w λe w'=>e=.returned (.tuple #[.int .u64 (zge x y c),.int .u64 (zgd x y c)])/\w=w':=by
 have L:=lh9 (low1 c hc);have H:=lh9 (sub64 x y (c%2) hx hy om9 om9);have e1:zge x y (c%2)=zge x y c:=by unfold zge;omega
 have e2:zgd x y (c%2)=zgd x y c:=by unfold zgd;rw [show c%2%2=c%2 from by omega]
 rw [e1,e2] at H;clear e1 e2;go_enter func231,ntmps231;go_wp2_with (first|simp only [L.out,H.out])
 go_ret2
 exact⟨rfl,rfl⟩
theorem word_mul (x y:Int)(hx:Wd x)(hy:Wd y)(w:World):
  Calls prog 239 #[.int .u64 x,.int .u64 y] w λe w'=>e=.returned (.tuple #[.int .u64 (zeU x y),.int .u64 (zcS x y)])/\w=w':=by
 have H:=lh9 (mul64 x y hx hy w);go_enter func239,ntmps239;go_wp2_with (go_at_call 201;refine H.out.mono ?_;rintro e w' ⟨rfl,rfl⟩)
 go_ret2
 exact⟨rfl,rfl⟩
theorem znI (x y a b:Int)(hx:Wd x)(hy:Wd y)(ha:Wd a)(hb:Wd b)(w:World):
  Calls prog 165 #[.int .u64 x,.int .u64 y,.int .u64 a,.int .u64 b] w λe w'=>e=.returned (.tuple #[.int .u64 (maHi x y a b),.int .u64 (maLo x y a b)])/\w=w':=by
 have hl:=mulLo_wd x y;have hs:=addLo_wd (zcS x y) a 0;have H:=lh9 (mul64 x y hx hy w);have A1:=lh9 (add64 (zcS x y) a 0 hl ha om9 om9 w);have A2:=lh9 (add64 (zdW (zcS x y) a 0) b 0 hs hb om9 om9 w);have eL:zdW (zdW (zcS x y) a 0) b 0=maLo x y a b:=by rw [<-maLo_eq];unfold zdW;omega
 have eH:zeU x y+zdV (zcS x y) a 0+zdV (zdW (zcS x y) a 0) b 0=maHi x y a b:=by rw [<-maHi_eq];unfold zdV zdW;omega
 have b1:=mulHi_wd hx hy;have b2:=zmh (c:=0) hl ha;have b3:=zmh (c:=0) hs hb;have b4:=maHi_wd hx hy ha hb;have EL:=lh9 eL;have EH:=lh9 eH;have W1:Hid (IntKind.u64.wrap (zeU x y+zdV (zcS x y) a 0)=zeU x y+zdV (zcS x y) a 0):=by
  rw [IntKind.wrap_u64];unfold Wd at*;show _%_=_;omega
 have W2:Hid (IntKind.u64.wrap (maHi x y a b)=maHi x y a b):=by
  rw [IntKind.wrap_u64];unfold Wd at*;show _%_=_;omega
 clear eL eH b1 b2 b3 b4 hl hs;go_enter func165,ntmps165;go_wp2_with (first|(go_at_call 201;refine H.out.mono ?_;rintro e w' ⟨rfl,rfl⟩)|simp only [A1.out]|simp only [A2.out]);simp only [W1.out,W2.out,EL.out,EH.out]
 go_ret2
 exact⟨rfl,rfl⟩
theorem word_len (x:Int)(hx:Wd x)(w:World):
  Calls prog 192 #[.int .u64 x] w λe w'=>e=.returned (.int .i64 (zgT x))/\w=w':=by
 have H:=lh9 (len64 x hx w);go_enter func192,ntmps192;go_wp2_with (go_at_call 209;refine H.out.mono ?_;rintro e w' ⟨rfl,rfl⟩);go_ret;exact⟨rfl,rfl⟩
theorem zrC (x:Int)(hx:Wd x)(w:World):
  Calls prog 227 #[.int .u64 x] w λe w'=>e=.returned (.int .i64 (64 - zgT x))/\w=w':=by
 have H:=lh9 (lead64 x hx w);go_enter func227,ntmps227;go_wp2_with (go_at_call 235;refine H.out.mono ?_;rintro e w' ⟨rfl,rfl⟩);go_ret;exact⟨rfl,rfl⟩
