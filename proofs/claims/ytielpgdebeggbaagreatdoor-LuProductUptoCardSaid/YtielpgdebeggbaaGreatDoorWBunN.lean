/- What this claim leans on. -/
import Derived.Test.YtielpgdebeggbaaGreatDoorWBunE
import Derived.ChangeArms
import Derived.ChangeOld
import Derived.Lib.SmallJoins
import Derived.OpenShut
import Derived.ProofKit
set_option linter.unusedVariables false
set_option linter.unusedSimpArgs false
namespace Go.Proofs.YtielpgdebeggbaaGreatDoor
open Go Go.RowKit Go.Proofs.Tryz
set_option maxHeartbeats 16000000
variable {cs:Array Value}{d:List Int}{K K' a b c g i k m n x y:Nat}{t:TypeId}{v:Value}{w w' w1:World}
structure vz (x y k:Nat)(out:List Nat)(c:Nat):Prop where
 len:out.length=k
 dgs:zG 18446744073709551616 out
 carry:c<=1
 sum:x%18446744073709551616^k+y%18446744073709551616^k=dv 18446744073709551616 out+18446744073709551616^k*c
theorem vz.start (x y:Nat):vz x y 0 [] 0:=⟨rfl,by intro d hd;simp at hd,zb,by simp [dv,XX]⟩
theorem vz.step {s:Nat}{a:List Nat}(h:vz x y k a c)(hs:s=wd x k+wd y k+c):vz x y (k+1) (a++[s%18446744073709551616]) (s / 18446744073709551616):=by
 have h1:=wJ x k;have h2:=wJ y k;have h3:=h.carry;refine⟨by simp [h.len],h.dgs.append (by intro d hd;simp at hd;subst hd;exact xG _ zf),zb,?_⟩;have e:=h.sum;unfold wd at hs;rw [vW 18446744073709551616 x k,vW 18446744073709551616 y k,vK,h.len,QK,qD,xA (dv 18446744073709551616 a),<-qE,XL,hs,qE,qE];omega
theorem vz.done {a:List Nat}(h:vz x y (k+1) a c)(hx:(dg 18446744073709551616 x).length<=k)(hy:(dg 18446744073709551616 y).length<=k):dv 18446744073709551616 a=x+y:=by
 have e:=h.sum;have h1:x<18446744073709551616^k:=qJ (wh zf x) (qR zf hx);have h2:y<18446744073709551616^k:=qJ (wh zf y) (qR zf hy);rw [QK] at e;rw [qO zb,qO zb] at e;have h3:=h.carry;have h4:c=0\/c=1:=zb;rcases h4 with rfl|rfl
 ·omega
 ·omega
theorem Wh (hc:c<=1):uM (a:Int) (b:Int) (c:Int)=(((a+b+c)%18446744073709551616:Nat):Int):=by unfold uM;omega
theorem Wg (hc:c<=1):uL (a:Int) (b:Int) (c:Int)=(((a+b+c) / 18446744073709551616:Nat):Int):=by unfold uL;omega
structure vD (x y k:Nat)(out:List Nat)(c:Nat):Prop where
 len:out.length=k
 dgs:zG 18446744073709551616 out
 lack:c<=1
 sum:dv 18446744073709551616 out+y%18446744073709551616^k=x%18446744073709551616^k+18446744073709551616^k*c
theorem vD.start (x y:Nat):vD x y 0 [] 0:=⟨rfl,by intro d hd;simp at hd,zb,by simp [dv,XX]⟩
theorem vD.step {d c':Nat}{a:List Nat}(h:vD x y k a c)(hd:d<18446744073709551616)(hc:c'<=1)(hs:d+wd y k+c=wd x k+18446744073709551616*c'):vD x y (k+1) (a++[d]) c':=by
 refine⟨by simp [h.len],h.dgs.append (by intro e he;simp at he;subst he;exact hd),hc,?_⟩;have e:=h.sum;have e2:18446744073709551616^k*d+18446744073709551616^k*(y / 18446744073709551616^k%18446744073709551616)+18446744073709551616^k*c=18446744073709551616^k*(x / 18446744073709551616^k%18446744073709551616)+18446744073709551616^k*(18446744073709551616*c'):=by
  unfold wd at hs;rw [<-qE,<-qE,hs,qE]
 rw [vW 18446744073709551616 x k,vW 18446744073709551616 y k,vK,h.len,QK,qD (18446744073709551616^k) 18446744073709551616 c'];omega
theorem vD.done {a:List Nat}(h:vD x y k a c)(d:y<=x)(hx:(dg 18446744073709551616 x).length<=k):dv 18446744073709551616 a=x - y:=by
 have e:=h.sum;have h1:x<18446744073709551616^k:=qJ (wh zf x) (qR zf hx);have h3:=vp h.dgs;rw [h.len] at h3;rw [qO h1,qO (QN d h1)] at e;have h4:=h.lack;have:c=0\/c=1:=zb;rcases this with rfl|rfl<;>omega
theorem ZM (ha:a<18446744073709551616)(hb:b<18446744073709551616)(hc:c<=1):
  ∃d c':Nat,ow (a:Int) (b:Int) (c:Int)=(d:Int)/\ov (a:Int) (b:Int) (c:Int)=(c':Int)/\d<18446744073709551616/\c'<=1/\d+b+c=a+18446744073709551616*c':=by
 refine⟨((a:Int) - b - c).emod 18446744073709551616|>.toNat,if a<b+c then 1 else 0,?_,?_,?_,?_,?_⟩
 ·unfold ow;show((a:Int) - b - (c:Int)%2)%18446744073709551616=((((a:Int) - b - c)%18446744073709551616).toNat:Int);omega
 ·unfold ov;split<;>split<;>omega
 ·show(((a:Int) - b - c)%18446744073709551616).toNat<_;omega
 ·split<;>omega
 ·show(((a:Int) - b - c)%18446744073709551616).toNat+b+c=_;split<;>omega
theorem Zt (cs:Array Value)(k:Nat)(u:Value)(h:k<cs.size):(cs.setIfInBounds k u).toList.take (k+1)=cs.toList.take k++[u]:=by
 rw [QD,QZ (by simpa using h)];simp [YV];exact List.set_eq_of_length_le (by simp;omega)
theorem gU (K:IntKind)(l:List Nat)(d:Nat):zB K (l++[d])=zB K l++[.int K (d:Int)]:=by simp [zB]
theorem ia {l:List Nat}(h:zh w g t cs)(hn:cs.size=n)(hv:cs.toList.take n=zB .u64 l)(hl:l.length=n):zK w w.heap.size 1 (some ⟨g,0,none⟩) n (zB .u64 l):=by
 refine⟨by rw [wS];omega,λ_=>⟨_,rfl,h.lt,λj u hu=>?_⟩⟩;have e:(⟨g,0,none⟩:Addr).add j=⟨g,j,none⟩:=by unfold Addr.add;split<;>simp_all
 rw [e,h.cell j,<-QS];rw [qV (by simp;omega)] at hv;rw [hv];exact hu
theorem zg (hb:Below w.heap.size w w')(h:zh w g t cs):zh w' g t cs:=h.below hb h.lt
theorem yu {g0:Nat}{t0:TypeId}{cs0:Array Value}{g1:Nat}{t1:TypeId}{cs1:Array Value}(hb:Below w.heap.size w w')(h0:zh w g0 t0 cs0)(h1:zh w g1 t1 cs1):zh w' g0 t0 cs0/\zh w' g1 t1 cs1:=⟨zg hb h0,zg hb h1⟩
theorem zu (w:World)(t:TypeId)(a:Array Value):Below w.heap.size w (w.alloc (.cells a t))/\zh (w.alloc (.cells a t)) w.heap.size t a/\w.heap.size+1<=(w.alloc (.cells a t)).heap.size:=
 ⟨(qZ _ w).alloc (qX _) _,zh.new w t a,zA⟩
theorem yz (w:World)(t s:TypeId)(a b:Array Value):Below w.heap.size w ((w.alloc (.cells a t)).alloc (.cells b s))/\zh ((w.alloc (.cells a t)).alloc (.cells b s)) w.heap.size t a/\zh ((w.alloc (.cells a t)).alloc (.cells b s)) (w.heap.size+1) s b/\w.heap.size+2<=((w.alloc (.cells a t)).alloc (.cells b s)).heap.size:=by
 obtain⟨h1,h2,h3⟩:=zu w t a;have h4:=zh.new (w.alloc (.cells a t)) s b;have e:(w.alloc (.cells a t)).heap.size=w.heap.size+1:=zA;rw [e] at h4;exact⟨h1.alloc h1.size _,h2.alloc _,h4,zA⟩
theorem y9 (w:World)(t s r:TypeId)(a b c:Array Value):Below w.heap.size w (((w.alloc (.cells a t)).alloc (.cells b s)).alloc (.cells c r))/\zh (((w.alloc (.cells a t)).alloc (.cells b s)).alloc (.cells c r)) w.heap.size t a/\zh (((w.alloc (.cells a t)).alloc (.cells b s)).alloc (.cells c r)) (w.heap.size+1) s b/\zh (((w.alloc (.cells a t)).alloc (.cells b s)).alloc (.cells c r)) (w.heap.size+1+1) r c/\w.heap.size+3<=(((w.alloc (.cells a t)).alloc (.cells b s)).alloc (.cells c r)).heap.size:=by
 obtain⟨h1,h2,h3,h4⟩:=yz w t s a b;have h5:=zh.new ((w.alloc (.cells a t)).alloc (.cells b s)) r c;have e:((w.alloc (.cells a t)).alloc (.cells b s)).heap.size=w.heap.size+2:=zA;rw [e] at h5;exact⟨h1.alloc h1.size _,h2.alloc _,h3.alloc _,h5,zA⟩
theorem xv {p:Addr}(o:Obj)(h:w1.cell? p=some v):(w1.alloc o).cell? p=some v:=(World.cell?_alloc_lt w1 o p (QB w1 p h)).trans h
theorem xn (o:Obj)(h:Below w.heap.size w w1):Below w.heap.size w (w1.alloc o):=h.alloc h.size o
theorem yn {p q:Addr}(u:Value)(hp:p.block≠q.block)(h:w1.cell? p=some v):(w1.setCell q u).cell? p=some v:=(YB w1 q p u (λe=>hp (by first|rw [e]|rw [<-e]))).trans h
theorem zM {p:Addr}(u:Value)(hp:w.heap.size<=p.block)(h:Below w.heap.size w w1):Below w.heap.size w (w1.setCell p u):=h.setCell hp u
theorem eR {wr:World}{gs p:Nat}{A1:ze}{c1:Nat}(hB:Below w.heap.size w wr)(hp:w.heap.size<=p)(hg:p≠gs)(hr:zK wr wr.heap.size 1 A1 (dg 18446744073709551616 x).length (zB .u64 (dg 18446744073709551616 x)))(h1:(dg 18446744073709551616 x).length<=c1)(h2:c1<=9223372036854775807)
  (hA:A1=some ⟨gs,0,none⟩\/A1=none) (a:w.heap.size<=gs) (u:Value):Below w.heap.size w (wr.setCell ⟨p,0,none⟩ u)/\zp (wr.setCell ⟨p,0,none⟩ u) x A1 (dg 18446744073709551616 x).length c1/\sf w A1:=
 ⟨hB.setCell hp u,lz ⟨hr,h1,h2⟩ (λad e=>by
  rcases hA with h|h
  ·rw [h] at e;injection e with e;subst e;exact λe2=>hg e2.symm
  ·rw [h] at e;cases e) u,λad e=>by
  rcases hA with h|h
  ·rw [h] at e;injection e with e;subst e;exact a
  ·rw [h] at e;cases e⟩
theorem fk {a:Value}(h:zh w g t #[a])(u:Value):zh (w.setCell ⟨g,0,none⟩ u) g t #[u]:=h.set_ 0 u
def xf (w:World)(g:Nat)(v:Value):Prop:=∃t,zh w g t #[v]
theorem zh.one {t:TypeId}(h:zh w g t #[v]):xf w g v:=⟨t,h⟩
theorem xf.cell {w:World}{g:Nat}{v:Value}(h:xf w g v):w.cell? ⟨g,0,none⟩=some v:=by obtain⟨t,h⟩:=h;exact h.cell 0
theorem xf.frozen (h:xf w g v):w.frozen? ⟨g,0,none⟩=false:=by obtain⟨t,h⟩:=h;exact h.frozen 0
theorem xf.new (w:World)(t:TypeId)(v:Value):xf (w.alloc (.cells #[v] t)) w.heap.size v:=⟨t,zh.new w t _⟩
theorem xf.alloc (h:xf w g v)(o:Obj):xf (w.alloc o) g v:=by obtain⟨t,h⟩:=h;exact⟨t,h.alloc o⟩
theorem xf.drew (h:xf w g v):xf w.drew g v:=h
theorem xf.set_ (h:xf w g v)(u:Value):xf (w.setCell ⟨g,0,none⟩ u) g u:=by obtain⟨t,h⟩:=h;exact⟨t,fk h u⟩
theorem xf.far (h:xf w g v){p:Addr}(hp:g≠p.block)(u:Value):xf (w.setCell p u) g v:=by obtain⟨t,h⟩:=h;exact⟨t,h.far hp u⟩
theorem xf.keep {w':World}(h:xf w g v)(hb:Below w.heap.size w w'):xf w' g v:=by obtain⟨t,h⟩:=h;exact⟨t,zg hb h⟩
theorem xf.lt (h:xf w g v):g<w.heap.size:=by obtain⟨t,h⟩:=h;exact h.lt
def ij (w:World)(x:Nat)(b:Bool)(e:Ending)(w':World):Prop:=∃(A:ze) (n c:Nat),e=.returned (.tuple #[.agg #[.slice A n c],.bool b])/\zp w' x A n c/\Below w.heap.size w w'/\sf w A
theorem aO (w:World):zp w 0 none 0 0:=⟨zK.none_,qX _,zb⟩
theorem nh (h:y<=x):0<=x4 x y:=by
 unfold x4;rw [if_neg zb]
 split<;>omega
def tJ:Nat->Nat->List Int
 |0,_=>[]
 |n+1,x=>((x%2:Nat):Int)::tJ n (x / 2)
def bv:List Int->Int
 |[]=>0
 |b::l=>b+2*bv l
def vA (b:Int):Prop:=0<=b/\b<=1
def sJ (l:List Int):Prop:=∀b ∈ l,vA b
theorem Yy:∀n x,(tJ n x).length=n
 |0,_=>rfl
 |n+1,x=>by simp [tJ,Yy n]
theorem Xz:∀n x,sJ (tJ n x)
 |0,_=>by intro b hb;simp [tJ] at hb
 |n+1,x=>by
   intro b hb;simp only [tJ,List.mem_cons] at hb;rcases hb with rfl|hb
   ·unfold vA;omega
   ·exact Xz n _ b hb
theorem Vv:∀n x,bv (tJ n x)=((x%2^n:Nat):Int)
 |0,x=>by simp [tJ,bv,XX]
 |n+1,x=>by
   rw [tJ,bv,Vv n (x / 2)];have h:x%2^(n+1)=x%2+2*(x / 2%2^n):=by
    rw [QK,QQ (2^n) 2,Nat.mod_mul]
   omega
theorem eU:∀(l m:List Int),bv (l++m)=bv l+2^l.length*bv m
 |[],m=>by simp [bv]
 |b::l,m=>by
   rw [YD,bv,bv,eU l m,xJ,Int.pow_succ,Int.mul_add,yU (2^l.length) 2,Int.mul_assoc];omega
theorem tr:∀{l:List Int},sJ l->0<=bv l/\bv l<2^l.length
 |[],_=>by simp [bv]
 |b::l,h=>by
   have h1:=h b zA;have h2:=tr (l:=l) (λc hc=>h c (by simp [hc]));unfold vA at h1;rw [bv,xJ,Int.pow_succ];omega
theorem Zx:∀{l:List Int},sJ l->l=tJ l.length (bv l).toNat
 |[],_=>rfl
 |b::l,h=>by
   have h1:=h b zA;have h0:sJ l:=λc hc=>h c (by simp [hc]);have h2:=tr h0;have e:=Zx h0;unfold vA at h1;rw [xJ,tJ,bv];have e1:(b+2*bv l).toNat%2=b.toNat:=zb;have e2:(b+2*bv l).toNat / 2=(bv l).toNat:=zb;rw [e1,e2,<-e];congr 1;omega
theorem RG (n x:Nat):tJ n (x%2^n)=tJ n x:=by
 have h:=Zx (Xz n x);rw [Yy,Vv,Int.toNat_natCast] at h;exact h.symm
theorem Xe {l m:List Int}(hl:sJ l)(hm:sJ m):sJ (l++m):=by
 intro b hb;rcases List.mem_append.1 hb with h|h
 ·exact hl b h
 ·exact hm b h
theorem Yz (l:List Int)(k:Nat):bv (l.take (k+1))=bv (l.take k)+2^k*l.getD k 0:=by
 by_cases h:k<l.length
 ·rw [QZ h,eU,qA,xU zb];simp [bv,List.getD,qY h]
 ·rw [qV zb,qV zb,qQ,QL zb];simp
theorem VB {l:List Int}(h:sJ l)(k:Nat):vA (l.getD k 0):=by
 by_cases hk:k<l.length
 ·exact h _ (by rw [qQ,qY hk];exact xH hk)
 ·rw [qQ,QL zb];unfold vA;simp
structure jy (a b:List Int)(k:Nat)(out:List Int)(c:Int):Prop where
 len:out.length=k
 bits:sJ out
 carry:vA c
 sum:bv (a.take k)+bv (b.take k)=bv out+2^k*c
theorem jy.start (a b:List Int):jy a b 0 [] 0:=⟨rfl,by intro x hx;simp at hx,by unfold vA;omega,by simp [bv]⟩
theorem jy.step {a b d:List Int}{c s:Int}(h:jy a b k d c)(ha:sJ a)(hb:sJ b)(hs:s=c+a.getD k 0+b.getD k 0):jy a b (k+1) (d++[s%2]) (s / 2):=by
 have h1:=VB ha k;have h2:=VB hb k;have h3:=h.carry;unfold vA at h1 h2 h3;refine⟨by simp [h.len],Xe h.bits (by intro x hx;simp at hx;subst hx;unfold vA;omega),by unfold vA;omega,?_⟩;have e:=h.sum;rw [Yz,Yz,eU,h.len];simp only [bv,Int.mul_zero,Int.add_zero];have e2:(2:Int)^(k+1)*(s / 2)=2^k*(2*(s / 2)):=by rw [Int.pow_succ,Int.mul_assoc]
 have e3:(2:Int)^k*(s%2)+2^k*(2*(s / 2))=2^k*s:=by rw [<-Int.mul_add];congr 1;omega
 have e4:(2:Int)^k*s=2^k*c+2^k*a.getD k 0+2^k*b.getD k 0:=by rw [hs,Int.mul_add,Int.mul_add]
 omega
theorem jy.done {a b:List Int}{c:Int}(h:jy a b k d c)(ha:a.length<=k)(hb:b.length<=k):d=tJ k (bv a+bv b).toNat:=by
 have e:=h.sum;rw [qV ha,qV hb] at e;have h1:=Zx h.bits;have h2:=tr h.bits;have h3:=h.carry;rw [h.len] at h1 h2;have hp:(2:Int)^k=((2^k:Nat):Int):=by rw [yH];rfl
 rw [h1,<-RG k (bv a+bv b).toNat];congr 1;rw [e];obtain⟨c0,c1⟩:=h3;obtain⟨o,ho⟩:=xP h2.1;obtain⟨c,rfl⟩:=xP c0;rw [hp,ho] at h2;rw [ho,hp,<-QI,<-Int.natCast_add,Int.toNat_natCast,Int.toNat_natCast,XM];exact(qO zb).symm
theorem VF (y k:Nat):y%2^(k+1)=y%2^k+2^k*(y / 2^k%2):=by rw [QK,Nat.mod_mul]
structure js (x y c k:Nat)(out:List Int)(b:Int):Prop where
 len:out.length=k
 bits:sJ out
 lack:vA b
 sum:bv out - 2^k*b=((x%2^k:Nat):Int) - ((y%2^k:Nat):Int) - (if k=0 then 0 else(c:Int)%2)
 first:k=0->b=0
theorem js.start (x y c:Nat):js x y c 0 [] 0:=⟨rfl,by intro b hb;simp at hb,by unfold vA;omega,by simp [bv,XX],λ_=>rfl⟩
def iv (x y c k:Nat)(b:Int):Int:=((x / 2^k%2:Nat):Int) - ((y / 2^k%2:Nat):Int) - b - (if k=0 then(c:Int)%2 else 0)
theorem qf {x y c:Nat}{b:Int}(hb:vA b)(h0:k=0->b=0): -2<=iv x y c k b/\iv x y c k b<=1:=by
 unfold vA at hb;unfold iv
 split
 ·rename_i h;have:=h0 h;omega
 ·omega
theorem js.step {g:List Int}{b d b':Int}(h:js x y c k g b)(hd:d=iv x y c k b+2*b')(a:b'=if iv x y c k b<0 then 1 else 0):js x y c (k+1) (g++[d]) b':=by
 have hbd:=qf (x:=x) (y:=y) (c:=c) h.lack h.first;have hB:vA b':=by unfold vA;split at a<;>omega
 refine⟨by simp [h.len],Xe h.bits (by intro z hz;simp at hz;subst hz;unfold vA;split at a<;>omega),hB,?_,zb⟩;have e:=h.sum;rw [eU,h.len,VF x k,VF y k];simp only [bv,Int.mul_zero,Int.add_zero,if_neg (Nat.succ_ne_zero k)];have hD:(if k=0 then(0:Int) else(c:Int)%2)+(if k=0 then(c:Int)%2 else 0)=(c:Int)%2:=by split<;>omega
 have i:2^k*(if k=0 then(c:Int)%2 else 0)=(if k=0 then(c:Int)%2 else 0):=by
  split
  ·rename_i h;subst h;simp
  ·simp
 have e1:(2:Int)^k*d=2^k*((x / 2^k%2:Nat):Int) - 2^k*((y / 2^k%2:Nat):Int) - 2^k*b - 2^k*(if k=0 then(c:Int)%2 else 0)+2^k*(2*b'):=by
  rw [hd];unfold iv;rw [Int.mul_add,Int.mul_sub,Int.mul_sub,Int.mul_sub]
 have e2:(2:Int)^(k+1)*b'=2^k*(2*b'):=by rw [Int.pow_succ,Int.mul_assoc]
 have e3:((x%2^k+2^k*(x / 2^k%2):Nat):Int)=((x%2^k:Nat):Int)+2^k*((x / 2^k%2:Nat):Int):=by rw [Int.natCast_add,QI,yH];rfl
 have e4:((y%2^k+2^k*(y / 2^k%2):Nat):Int)=((y%2^k:Nat):Int)+2^k*((y / 2^k%2:Nat):Int):=by rw [Int.natCast_add,QI,yH];rfl
 rw [e3,e4];rw [i] at e1;omega
theorem js.done {b:Int}(h:js x y c 64 d b)(hx:x<18446744073709551616)(hy:y<18446744073709551616):bv d=ow x y c/\b=ov x y c:=by
 have e:=h.sum;have a:=tr h.bits;have hl:=h.lack;rw [h.len] at a;rw [show x%2^64=x from qO zb,show y%2^64=y from qO zb] at e;simp only [show(2:Int)^64=18446744073709551616 from by decide,show ¬(64:Nat)=0 from by decide,if_false] at e a;unfold vA at hl;unfold ow ov;refine⟨zb,?_⟩
 split<;>omega
set_option maxRecDepth 100000
theorem Xd (hx:(dg 18446744073709551616 x).length=n+1):wd x n=x / 18446744073709551616^n/\0<wd x n/\bitLen x=64*n+bitLen (wd x n):=by
 have a:x≠0:=by rintro rfl;simp [lK] at hx
 have h1:=wh (b:=18446744073709551616) zf x;have h2:=(tu (b:=18446744073709551616) zf x a).2;rw [hx] at h1 h2;have h3:x / 18446744073709551616^n<18446744073709551616:=(QA (yX zf)).2 (by rw [QQ,<-QK];exact h1);have h4:0<x / 18446744073709551616^n:=Nat.div_pos (by simpa using h2) (yX zf);have h5:wd x n=x / 18446744073709551616^n:=qO h3;refine⟨h5,zb,?_⟩;rw [h5];have e:(18446744073709551616:Nat)^n=2^(64*n):=by rw [show(18446744073709551616:Nat)=2^64 from rfl,<-jK]
 rw [e] at h4⊢;exact bitLen_shift x (64*n) zb
theorem Yt (A:ze)(c:Nat)(w:World):Calls prog 122 #[.agg #[.slice A 0 c]] w λe w'=>e=.returned (.bool true)/\Below w.heap.size w w':=VH A 0 c w
theorem Y3 (A:ze)(n c:Nat)(hn:n≠0)(w:World):Calls prog 122 #[.agg #[.slice A n c]] w λe w'=>e=.returned (.bool false)/\Below w.heap.size w w':=by
 have:=VH A n c w;rw [decide_eq_false hn] at this;exact this
theorem VW (h:(dg 18446744073709551616 x).length=0):x=0:=by
 have h1:=wh (b:=18446744073709551616) zf x;rw [h] at h1;omega
theorem VG (x:Nat)(A:ze)(n c:Nat)(w:World)(hA:zp w x A n c)(hn:n<=1099511627776):
  Calls prog 159 #[.agg #[.slice A n c]] w λe w'=>e=.returned (.int .i64 (bitLen x:Nat))/\Below w.heap.size w w':=by
 have d:=hA.len;by_cases h0:n=0
 ·subst h0;have hx:x=0:=VW d;subst hx;have HZ:=za (λw=>Yt A c w);clear d hA;go_enter func159,ntmps159;go_wp2_with fail;refine(HZ.o _).mono ?_;rintro e w1 ⟨rfl,hb⟩;have hB:=zc ((qZ _ w).alloc (qX _) _) hb;clear hb;go_wp2;go_ret;exact⟨rfl,hB⟩
 ·obtain⟨m,rfl⟩:∃m,n=m+1:=⟨n - 1,zb⟩;obtain⟨h1,h2,h3⟩:=Xd d;have j:=wJ x m;obtain⟨ad,rfl,g,hx⟩:=se hA.1 (k:=m) zb;rw [oQ] at hx;have HZ:=za (λw=>Y3 (some ad) (m+1) c zb w);have WL:=(λw=>pY (wd x m:Nat) ⟨zb,zb⟩ w);have i:bitLen (wd x m)<=64:=eT _ 64 (by simpa using j);have e:te ((wd x m:Nat):Int)=((bitLen (wd x m):Nat):Int):=by unfold te;simp
  rw [e] at WL;obtain⟨a,ha⟩:∃a,wd x m=a:=⟨_,rfl⟩;rw [ha] at hx WL i h3;obtain⟨b,h⟩:∃b,bitLen a=b:=⟨_,rfl⟩;rw [h] at WL i h3;have HW:=za WL;have H3:=za h3;clear WL h3 h ha e j h1 h2 d h0 hA;go_enter func159,ntmps159;go_wp2_with fail;refine(HZ.o _).mono ?_;rintro e w1 ⟨rfl,hb⟩;have hB:=zc ((qZ _ w).alloc (qX _) _) hb;have g1:w1.cell? ⟨w.heap.size,0,none⟩=some (.slice (some ad) (m+1) c):=zv hb ((zh.new w 48 #[.slice (some ad) (m+1) c]).cell 0);have g2:w1.cell? (ad.add m)=some (.int .u64 a):=(hB.cell (by rw [yk];exact g)).trans hx;clear hb hx;go_wp2_with fail;refine(HW.o _).mono ?_;rintro e w2 ⟨rfl,rfl⟩;go_wp2;go_ret;exact⟨by rw [H3.o];go_num,hB⟩
theorem nK (k:Nat):18446744073709551616^(k / 64)*2^(k%64)=2^k:=by
 rw [show(18446744073709551616:Nat)=2^64 from rfl,<-jK,<-xI,yQ]
theorem jB {r:Nat}(h:r<=64):2^(64 - r)*2^r=18446744073709551616:=by
 rw [<-xI,Nat.sub_add_cancel h]
theorem pb (h:b<2^i):2^i*a|||b=2^i*a+b:=(Nat.two_pow_add_eq_or_of_lt h a).symm
theorem Q9 (h:b<2^i):b|||2^i*a=2^i*a+b:=by rw [Nat.or_comm];exact pb h
theorem UN (h:b<2^i)(hab:2^i*a+b<18446744073709551616):bits .or .u64 (b:Int) ((2^i*a:Nat):Int)=((2^i*a+b:Nat):Int):=by
 rw [bits_or_u64_nat _ _ zb zb,Q9 h]
theorem UY (a r:Nat)(hr:r<=64):a*2^r%18446744073709551616=2^r*(a%2^(64 - r)):=by
 rw [<-jB hr,QQ (2^(64 - r)),QQ a,Nat.mul_mod_mul_left]
theorem pX (x k i:Nat):wd (x / 2^k) i=wd x (k / 64+i) / 2^(k%64)+2^(64 - k%64)*(wd x (k / 64+i+1)%2^(k%64)):=by
 have hr:k%64<=64:=zb;have e1:x / 2^k / 18446744073709551616^i=x / 18446744073709551616^(k / 64+i) / 2^(k%64):=by
  rw [XE,XE,<-nK k,xI];congr 1;rw [qD,qD,QQ (2^(k%64))]
 have e2:x / 18446744073709551616^(k / 64+i+1)=x / 18446744073709551616^(k / 64+i) / 18446744073709551616:=by
  rw [QK,<-XE]
 unfold wd;rw [e1,e2];generalize x / 18446744073709551616^(k / 64+i)=y;generalize k%64=r at*;have e3:y / 18446744073709551616%18446744073709551616%2^r=y / 18446744073709551616%2^r:=by
  refine Nat.mod_mod_of_dvd _ ?_;rw [<-jB hr];exact Nat.dvd_mul_left _ _
 rw [e3];have e4:y=18446744073709551616*(y / 18446744073709551616)+y%18446744073709551616:=(yQ _ _).symm;generalize hq:y / 18446744073709551616=q at*;generalize hm:y%18446744073709551616=m at*;have a:m<18446744073709551616:=zb;subst e4;rw [<-jB hr] at a⊢;have e5:2^(64 - r)*2^r*q+m=m+2^r*(2^(64 - r)*q):=by rw [YN,QQ (2^(64 - r)) (2^r),qD]
 rw [e5,Nat.add_mul_div_left _ _ (xS r)];have e6:m / 2^r<2^(64 - r):=(QA (xS r)).2 a;have e7:2^(64 - r)*q=2^(64 - r)*2^r*(q / 2^r)+2^(64 - r)*(q%2^r):=by
  rw [qD,<-qE,yQ]
 rw [e7,YN (2^(64 - r)*2^r*(q / 2^r)),<-xA,XM];refine qO ?_;have e8:q%2^r<2^r:=xG _ (xS r);have e9:2^(64 - r)*(q%2^r+1)<=2^(64 - r)*2^r:=QM _ e8;rw [qE] at e9;omega
def vN (y i:Nat):List Nat:=(List.range i).map (wd y)
theorem lA (y i:Nat):(vN y i).length=i:=by simp [vN]
theorem bQ (y i:Nat):vN y (i+1)=vN y i++[wd y i]:=by simp [vN,yL]
theorem Wb (y i:Nat):zG 18446744073709551616 (vN y i):=by
 intro d hd;obtain⟨j,_,rfl⟩:=List.mem_map.1 hd;exact wJ y j
theorem Wm (y:Nat):∀i,dv 18446744073709551616 (vN y i)=y%18446744073709551616^i
 |0=>by simp [vN,dv,XX]
 |i+1=>by rw [bQ,vK,Wm y i,lA,vW 18446744073709551616 y i];rfl
theorem Wa (h:(dg 18446744073709551616 y).length<=i):dv 18446744073709551616 (vN y i)=y:=by
 rw [Wm];exact qO (qJ (wh zf y) (qR zf h))
theorem Vr (m:Nat):IntKind.u64.wrap (m:Int)=((m%18446744073709551616:Nat):Int):=by
 simp [IntKind.wrap,IntKind.bits,IntKind.signed]
theorem VN {b r:Nat}(ha:a<18446744073709551616)(hr:r<64):
  bits .or .u64 ((a:Int) / 2^r) (IntKind.u64.wrap ((b:Int)*2^(64 - r)))=((a / 2^r+2^(64 - r)*(b%2^r):Nat):Int):=by
 have e1:(a:Int) / 2^r=((a / 2^r:Nat):Int):=zA;have e2:(b:Int)*2^(64 - r)=((b*2^(64 - r):Nat):Int):=zA;have e3:b*2^(64 - r)%18446744073709551616=2^(64 - r)*(b%2^r):=by
  rw [UY b (64 - r) zb,show 64 - (64 - r)=r from by omega]
 rw [e1,e2,Vr,e3];have h1:a / 2^r<2^(64 - r):=(QA (xS r)).2 (by rw [jB zb];exact ha);have h2:b%2^r<2^r:=xG _ (xS r);have h3:2^(64 - r)*(b%2^r+1)<=2^(64 - r)*2^r:=QM _ h2;rw [jB zb,qE] at h3;rw [UN h1 zb,YN]
structure mT (x m k:Nat)(out:List Nat)(c:Nat):Prop where
 len:out.length=k
 dgs:zG 18446744073709551616 out
 carry:c<m
 sum:dv 18446744073709551616 out+18446744073709551616^k*c=x%18446744073709551616^k*m
theorem mT.start (x m:Nat)(hm:0<m):mT x m 0 [] 0:=⟨rfl,by intro d hd;simp at hd,hm,by simp [dv,XX]⟩
theorem mT.step {s:Nat}{a:List Nat}(h:mT x m k a c)(hs:s=wd x k*m+c):mT x m (k+1) (a++[s%18446744073709551616]) (s / 18446744073709551616):=by
 have h1:=wJ x k;have h3:=h.carry;have h4:(wd x k+1)*m<=18446744073709551616*m:=qS m h1;rw [QE] at h4;refine⟨by simp [h.len],h.dgs.append (by intro d hd;simp at hd;subst hd;exact xG _ zf),(QA zf).2 (by rw [QQ m];omega),?_⟩;have e:=h.sum;have e2:18446744073709551616^k*(s%18446744073709551616)+18446744073709551616^k*(18446744073709551616*(s / 18446744073709551616))=18446744073709551616^k*s:=by rw [<-qE,XL]
 have e3:18446744073709551616^k*s=18446744073709551616^k*wd x k*m+18446744073709551616^k*c:=by rw [hs,qE,qD]
 rw [vK,h.len,QK,qD (18446744073709551616^k) 18446744073709551616,<-QK,vW 18446744073709551616 x k,QE];unfold wd at e3;omega
theorem mT.done {q:Nat}{a:List Nat}(h:mT x m n a c)(hx:(dg 18446744073709551616 x).length<=n):dv 18446744073709551616 (List.replicate q 0++a++[c])=18446744073709551616^q*m*x:=by
 have e:=h.sum;have h1:x<18446744073709551616^n:=qJ (wh zf x) (qR zf hx);rw [qO h1] at e;rw [xX,tF,jR,yR,vK,h.len,e,xB,qD,QQ m]
theorem UX (a:Nat){r:Nat}(hr:r<64):∃hi lo:Nat,a / 2^(64 - r)=hi/\2^r*(a%2^(64 - r))=lo/\a*2^r=18446744073709551616*hi+lo/\lo+2^r<=18446744073709551616:=by
 refine⟨_,_,rfl,rfl,?_,?_⟩
 ·rw [<-jB (r:=r) zb,qD,QQ (2^r) (a / 2^(64 - r)),<-qD,QQ (2^r),<-QE,yQ]
 ·have h2:a%2^(64 - r)<2^(64 - r):=xG _ (xS _);have h3:2^r*(a%2^(64 - r)+1)<=2^r*2^(64 - r):=QM _ h2;rw [QQ (2^r) (2^(64 - r)),jB zb,qE,xV] at h3;exact h3
theorem pG {a r:Nat}(hr:r<64)(hc:c<2^r):bits .or .u64 (c:Int) (IntKind.u64.wrap ((a:Int)*2^r))=(((a*2^r+c)%18446744073709551616:Nat):Int):=by
 have e2:(a:Int)*2^r=((a*2^r:Nat):Int):=zA;obtain⟨hi,lo,e3,e4,e5,e6⟩:=UX a hr;have e7:2^r*(a%2^(64 - r))+c<18446744073709551616:=by rw [e4];omega
 rw [e2,Vr,UY a r zb,UN hc e7,e4,e5];generalize 2^r=p at*;omega
theorem Qc {a r:Nat}(hr:r<64)(hc:c<2^r):(a:Int) / 2^(64 - r)=(((a*2^r+c) / 18446744073709551616:Nat):Int):=by
 have e1:(a:Int) / 2^(64 - r)=((a / 2^(64 - r):Nat):Int):=zA;obtain⟨hi,lo,e3,e4,e5,e6⟩:=UX a hr;rw [e1,e3,e5];generalize 2^r=p at*;omega
theorem mC {α:Type}{P R:List α}{j:Nat}{c z a b:α}(h:P.length=j):((P++c::z::R).set j a).set (j+1) b=P++a::b::R:=by
 subst h;rw [yS _ _ (qX _),XH,qL,yS _ _ zb];simp
theorem Ub (n:Nat):zB .u64 (List.replicate (n+1) 0)=.int .u64 0::zB .u64 (List.replicate n 0):=by simp [zB,List.replicate_succ]
theorem UM (cs:Array Value)(l:List Nat)(w:World)(g n x:Nat)(hk:zh w g 133 cs)(hn:cs.size=n)(hv:cs.toList=zB .u64 l)(hd:zG 18446744073709551616 l)(hx:dv 18446744073709551616 l=x)(hs:n<=1000):
  Calls prog 106 #[.slice (some ⟨g,0,none⟩) n n] w (xu w x):=by
 have hl:l.length=n:=by
  have h:=congrArg List.length hv;rw [wS] at h;rw [<-h];simpa using hn
 have:=uW (some ⟨g,0,none⟩) n n l w (ia hk hn (by rw [hv,qV (by rw [wS];omega)]) hl) hd (qX _) zb zb;rw [hx] at this;exact this
theorem iG (a:Nat)(ha:a<18446744073709551616):zG 18446744073709551616 [a]:=by intro d hd;simp at hd;omega
theorem dH (w:World)(o:Obj):Below w.heap.size w (w.alloc o):=(qZ _ w).alloc (qX _) o
theorem kt {A:ze}{l:List Nat}(h:zp w x A n c)(hx:dg 18446744073709551616 x=l):n=l.length:=by rw [<-h.len,hx]
def Sz (K x:Nat):Prop:=x<18446744073709551616^K
theorem Sz.of_le (h:Sz K x)(hy:y<=x):Sz K y:=QN hy h
theorem Sz.up (h:Sz K x)(hk:K<=K'):Sz K' x:=qJ h (qR zf hk)
theorem Sz.add (h:Sz K x)(h':Sz K y):Sz (K+1) (x+y):=by
 unfold Sz at*;rw [QK];omega
theorem Sz.mul (h:Sz K x)(h':Sz K' y):Sz (K+K') (x*y):=by
 unfold Sz at*;rw [xI];exact YH h h'
theorem Sz.len (h:Sz K x):(dg 18446744073709551616 x).length<=K:=mQ zf _ _ h
theorem Sz.words (h:Sz K x){w:World}{A:ze}{n c:Nat}(hw:zp w x A n c):n<=K:=by rw [<-hw.len];exact h.len
theorem jf (h:x=0){w:World}{A:ze}{n c:Nat}(hA:zp w x A n c):Calls prog 122 #[.agg #[.slice A n c]] w λe w'=>e=.returned (.bool true)/\Below w.heap.size w w':=by
 subst h;obtain rfl:n=0:=kt hA (lK _);exact Yt A c w
theorem lI (h:x≠0){w:World}{A:ze}{n c:Nat}(hA:zp w x A n c):Calls prog 122 #[.agg #[.slice A n c]] w λe w'=>e=.returned (.bool false)/\Below w.heap.size w w':=
 Y3 A n c (λh0=>h (VW (by rw [hA.len];exact h0))) w
theorem iF {x y:Nat}(h:x=y){w:World}{A D:ze}{n m c d:Nat}(hA:zp w x A n c)(hD:zp w y D m d)(hn:n<=1099511627776)(hm:m<=1099511627776):
  Calls prog 56 #[.agg #[.slice A n c],.agg #[.slice D m d]] w (vO w 0):=by
 have:=jn x y A D n m c d w hA hD hn hm;rwa [ik h] at this
