/- What this claim leans on. -/
import Derived.Test.YtkcjgcflloldoaaGreatDoorPBunE
import Derived.ChangeArms
import Derived.ChangeOld
import Derived.Lib.SmallJoins
import Derived.OpenShut
import Derived.ProofKit
set_option linter.unusedVariables false
set_option linter.unusedSimpArgs false
namespace Go.Proofs.YtkcjgcflloldoaaGreatDoor
open Go Go.RowKit Go.Proofs.Tryz
set_option maxHeartbeats 16000000
variable {cs:Array Value}{d:List Int}{K K' a b c g i k m n x y:Nat}{t:TypeId}{v:Value}{w w' w1:World}
structure vZ (x y k:Nat)(out:List Nat)(c:Nat):Prop where
 len:out.length=k
 dgs:zH 18446744073709551616 out
 carry:c<=1
 sum:x%18446744073709551616^k+y%18446744073709551616^k=dv 18446744073709551616 out+18446744073709551616^k*c
theorem vZ.start (x y:Nat):vZ x y 0 [] 0:=⟨rfl,by intro d hd;simp at hd,za,by simp [dv,XU]⟩
theorem vZ.step {s:Nat}{a:List Nat}(h:vZ x y k a c)(hs:s=wd x k+wd y k+c):vZ x y (k+1) (a++[s%18446744073709551616]) (s / 18446744073709551616):=by
 have h1:=wX x k;have h2:=wX y k;have h3:=h.carry;refine⟨by simp [h.len],h.dgs.append (by intro d hd;simp at hd;subst hd;exact QA _ zf),za,?_⟩;have e:=h.sum;unfold wd at hs;rw [uh 18446744073709551616 x k,uh 18446744073709551616 y k,vR,h.len,qO,qH,xH (dv 18446744073709551616 a),<-qM,XC,hs,qM,qM];omega
theorem vZ.done {a:List Nat}(h:vZ x y (k+1) a c)(hx:(dg 18446744073709551616 x).length<=k)(hy:(dg 18446744073709551616 y).length<=k):dv 18446744073709551616 a=x+y:=by
 have e:=h.sum;have h1:x<18446744073709551616^k:=qJ (yv zf x) (qG zf hx);have h2:y<18446744073709551616^k:=qJ (yv zf y) (qG zf hy);rw [qO] at e;rw [qS za,qS za] at e;have h3:=h.carry;have h4:c=0\/c=1:=za;rcases h4 with rfl|rfl
 ·omega
 ·omega
theorem Ub (hc:c<=1):tg (a:Int) (b:Int) (c:Int)=(((a+b+c)%18446744073709551616:Nat):Int):=by unfold tg;omega
theorem Ua (hc:c<=1):tf (a:Int) (b:Int) (c:Int)=(((a+b+c) / 18446744073709551616:Nat):Int):=by unfold tf;omega
structure ud (x y k:Nat)(out:List Nat)(c:Nat):Prop where
 len:out.length=k
 dgs:zH 18446744073709551616 out
 lack:c<=1
 sum:dv 18446744073709551616 out+y%18446744073709551616^k=x%18446744073709551616^k+18446744073709551616^k*c
theorem ud.start (x y:Nat):ud x y 0 [] 0:=⟨rfl,by intro d hd;simp at hd,za,by simp [dv,XU]⟩
theorem ud.step {d c':Nat}{a:List Nat}(h:ud x y k a c)(hd:d<18446744073709551616)(hc:c'<=1)(hs:d+wd y k+c=wd x k+18446744073709551616*c'):ud x y (k+1) (a++[d]) c':=by
 refine⟨by simp [h.len],h.dgs.append (by intro e he;simp at he;subst he;exact hd),hc,?_⟩;have e:=h.sum;have e2:18446744073709551616^k*d+18446744073709551616^k*(y / 18446744073709551616^k%18446744073709551616)+18446744073709551616^k*c=18446744073709551616^k*(x / 18446744073709551616^k%18446744073709551616)+18446744073709551616^k*(18446744073709551616*c'):=by
  unfold wd at hs;rw [<-qM,<-qM,hs,qM]
 rw [uh 18446744073709551616 x k,uh 18446744073709551616 y k,vR,h.len,qO,qH (18446744073709551616^k) 18446744073709551616 c'];omega
theorem ud.done {a:List Nat}(h:ud x y k a c)(d:y<=x)(hx:(dg 18446744073709551616 x).length<=k):dv 18446744073709551616 a=x - y:=by
 have e:=h.sum;have h1:x<18446744073709551616^k:=qJ (yv zf x) (qG zf hx);have h3:=vy h.dgs;rw [h.len] at h3;rw [qS h1,qS (QO d h1)] at e;have h4:=h.lack;have:c=0\/c=1:=za;rcases this with rfl|rfl<;>omega
theorem Wb (ha:a<18446744073709551616)(hb:b<18446744073709551616)(hc:c<=1):
  ∃d c':Nat,o9 (a:Int) (b:Int) (c:Int)=(d:Int)/\o8 (a:Int) (b:Int) (c:Int)=(c':Int)/\d<18446744073709551616/\c'<=1/\d+b+c=a+18446744073709551616*c':=by
 refine⟨((a:Int) - b - c).emod 18446744073709551616|>.toNat,if a<b+c then 1 else 0,?_,?_,?_,?_,?_⟩
 ·unfold o9;show((a:Int) - b - (c:Int)%2)%18446744073709551616=((((a:Int) - b - c)%18446744073709551616).toNat:Int);omega
 ·unfold o8;split<;>split<;>omega
 ·show(((a:Int) - b - c)%18446744073709551616).toNat<_;omega
 ·split<;>omega
 ·show(((a:Int) - b - c)%18446744073709551616).toNat+b+c=_;split<;>omega
theorem Xx (cs:Array Value)(k:Nat)(u:Value)(h:k<cs.size):(cs.setIfInBounds k u).toList.take (k+1)=cs.toList.take k++[u]:=by
 rw [QL,qC (by simpa using h)];simp [YR];exact List.set_eq_of_length_le (by simp;omega)
theorem dR (K:IntKind)(l:List Nat)(d:Nat):zt K (l++[d])=zt K l++[.int K (d:Int)]:=by simp [zt]
theorem iF {l:List Nat}(h:zh w g t cs)(hn:cs.size=n)(hv:cs.toList.take n=zt .u64 l)(hl:l.length=n):zL w w.heap.size 1 (some ⟨g,0,none⟩) n (zt .u64 l):=by
 refine⟨by rw [wL];omega,λ_=>⟨_,rfl,h.lt,λj u hu=>?_⟩⟩;have e:(⟨g,0,none⟩:Addr).add j=⟨g,j,none⟩:=by unfold Addr.add;split<;>simp_all
 rw [e,h.cell j,<-QR];rw [qV (by simp;omega)] at hv;rw [hv];exact hu
theorem zg (hb:Below w.heap.size w w')(h:zh w g t cs):zh w' g t cs:=h.below hb h.lt
theorem y5 {g0:Nat}{t0:TypeId}{cs0:Array Value}{g1:Nat}{t1:TypeId}{cs1:Array Value}(hb:Below w.heap.size w w')(h0:zh w g0 t0 cs0)(h1:zh w g1 t1 cs1):zh w' g0 t0 cs0/\zh w' g1 t1 cs1:=⟨zg hb h0,zg hb h1⟩
theorem zw (w:World)(t:TypeId)(a:Array Value):Below w.heap.size w (w.alloc (.cells a t))/\zh (w.alloc (.cells a t)) w.heap.size t a/\w.heap.size+1<=(w.alloc (.cells a t)).heap.size:=
 ⟨(qZ _ w).alloc (qX _) _,zh.new w t a,zG⟩
theorem z8 (w:World)(t s:TypeId)(a b:Array Value):Below w.heap.size w ((w.alloc (.cells a t)).alloc (.cells b s))/\zh ((w.alloc (.cells a t)).alloc (.cells b s)) w.heap.size t a/\zh ((w.alloc (.cells a t)).alloc (.cells b s)) (w.heap.size+1) s b/\w.heap.size+2<=((w.alloc (.cells a t)).alloc (.cells b s)).heap.size:=by
 obtain⟨h1,h2,h3⟩:=zw w t a;have h4:=zh.new (w.alloc (.cells a t)) s b;have e:(w.alloc (.cells a t)).heap.size=w.heap.size+1:=zG;rw [e] at h4;exact⟨h1.alloc h1.size _,h2.alloc _,h4,zG⟩
theorem yF (w:World)(t s r:TypeId)(a b c:Array Value):Below w.heap.size w (((w.alloc (.cells a t)).alloc (.cells b s)).alloc (.cells c r))/\zh (((w.alloc (.cells a t)).alloc (.cells b s)).alloc (.cells c r)) w.heap.size t a/\zh (((w.alloc (.cells a t)).alloc (.cells b s)).alloc (.cells c r)) (w.heap.size+1) s b/\zh (((w.alloc (.cells a t)).alloc (.cells b s)).alloc (.cells c r)) (w.heap.size+1+1) r c/\w.heap.size+3<=(((w.alloc (.cells a t)).alloc (.cells b s)).alloc (.cells c r)).heap.size:=by
 obtain⟨h1,h2,h3,h4⟩:=z8 w t s a b;have h5:=zh.new ((w.alloc (.cells a t)).alloc (.cells b s)) r c;have e:((w.alloc (.cells a t)).alloc (.cells b s)).heap.size=w.heap.size+2:=zG;rw [e] at h5;exact⟨h1.alloc h1.size _,h2.alloc _,h3.alloc _,h5,zG⟩
theorem wi {p:Addr}(o:Obj)(h:w1.cell? p=some v):(w1.alloc o).cell? p=some v:=(World.cell?_alloc_lt w1 o p (xY w1 p h)).trans h
theorem xx (o:Obj)(h:Below w.heap.size w w1):Below w.heap.size w (w1.alloc o):=h.alloc h.size o
theorem zW {p q:Addr}(u:Value)(hp:p.block≠q.block)(h:w1.cell? p=some v):(w1.setCell q u).cell? p=some v:=(yY w1 q p u (λe=>hp (by first|rw [e]|rw [<-e]))).trans h
theorem zB {p:Addr}(u:Value)(hp:w.heap.size<=p.block)(h:Below w.heap.size w w1):Below w.heap.size w (w1.setCell p u):=h.setCell hp u
theorem aX {wr:World}{gs p:Nat}{A1:ze}{c1:Nat}(hB:Below w.heap.size w wr)(hp:w.heap.size<=p)(hg:p≠gs)(hr:zL wr wr.heap.size 1 A1 (dg 18446744073709551616 x).length (zt .u64 (dg 18446744073709551616 x)))(h1:(dg 18446744073709551616 x).length<=c1)(h2:c1<=9223372036854775807)
  (hA:A1=some ⟨gs,0,none⟩\/A1=none) (a:w.heap.size<=gs) (u:Value):Below w.heap.size w (wr.setCell ⟨p,0,none⟩ u)/\zo (wr.setCell ⟨p,0,none⟩ u) x A1 (dg 18446744073709551616 x).length c1/\sH w A1:=
 ⟨hB.setCell hp u,jg ⟨hr,h1,h2⟩ (λad e=>by
  rcases hA with h|h
  ·rw [h] at e;injection e with e;subst e;exact λe2=>hg e2.symm
  ·rw [h] at e;cases e) u,λad e=>by
  rcases hA with h|h
  ·rw [h] at e;injection e with e;subst e;exact a
  ·rw [h] at e;cases e⟩
theorem cQ {a:Value}(h:zh w g t #[a])(u:Value):zh (w.setCell ⟨g,0,none⟩ u) g t #[u]:=h.set_ 0 u
def xp (w:World)(g:Nat)(v:Value):Prop:=∃t,zh w g t #[v]
theorem zh.one {t:TypeId}(h:zh w g t #[v]):xp w g v:=⟨t,h⟩
theorem xp.cell {w:World}{g:Nat}{v:Value}(h:xp w g v):w.cell? ⟨g,0,none⟩=some v:=by obtain⟨t,h⟩:=h;exact h.cell 0
theorem xp.frozen (h:xp w g v):w.frozen? ⟨g,0,none⟩=false:=by obtain⟨t,h⟩:=h;exact h.frozen 0
theorem xp.new (w:World)(t:TypeId)(v:Value):xp (w.alloc (.cells #[v] t)) w.heap.size v:=⟨t,zh.new w t _⟩
theorem xp.alloc (h:xp w g v)(o:Obj):xp (w.alloc o) g v:=by obtain⟨t,h⟩:=h;exact⟨t,h.alloc o⟩
theorem xp.drew (h:xp w g v):xp w.drew g v:=h
theorem xp.set_ (h:xp w g v)(u:Value):xp (w.setCell ⟨g,0,none⟩ u) g u:=by obtain⟨t,h⟩:=h;exact⟨t,cQ h u⟩
theorem xp.far (h:xp w g v){p:Addr}(hp:g≠p.block)(u:Value):xp (w.setCell p u) g v:=by obtain⟨t,h⟩:=h;exact⟨t,h.far hp u⟩
theorem xp.keep {w':World}(h:xp w g v)(hb:Below w.heap.size w w'):xp w' g v:=by obtain⟨t,h⟩:=h;exact⟨t,zg hb h⟩
theorem xp.lt (h:xp w g v):g<w.heap.size:=by obtain⟨t,h⟩:=h;exact h.lt
def fs (w:World)(x:Nat)(b:Bool)(e:Ending)(w':World):Prop:=∃(A:ze) (n c:Nat),e=.returned (.tuple #[.agg #[.slice A n c],.bool b])/\zo w' x A n c/\Below w.heap.size w w'/\sH w A
theorem Ym (w:World):zo w 0 none 0 0:=⟨zL.none_,qX _,za⟩
theorem Wj (h:y<=x):0<=yg x y:=by
 unfold yg;rw [if_neg za]
 split<;>omega
def si:Nat->Nat->List Int
 |0,_=>[]
 |n+1,x=>((x%2:Nat):Int)::si n (x / 2)
def bv:List Int->Int
 |[]=>0
 |b::l=>b+2*bv l
def ua (b:Int):Prop:=0<=b/\b<=1
def rk (l:List Int):Prop:=∀b ∈ l,ua b
theorem Vn:∀n x,(si n x).length=n
 |0,_=>rfl
 |n+1,x=>by simp [si,Vn n]
theorem VY:∀n x,rk (si n x)
 |0,_=>by intro b hb;simp [si] at hb
 |n+1,x=>by
   intro b hb;simp only [si,List.mem_cons] at hb;rcases hb with rfl|hb
   ·unfold ua;omega
   ·exact VY n _ b hb
theorem Tu:∀n x,bv (si n x)=((x%2^n:Nat):Int)
 |0,x=>by simp [si,bv,XU]
 |n+1,x=>by
   rw [si,bv,Tu n (x / 2)];have h:x%2^(n+1)=x%2+2*(x / 2%2^n):=by
    rw [qO,qB (2^n) 2,Nat.mod_mul]
   omega
theorem aO:∀(l m:List Int),bv (l++m)=bv l+2^l.length*bv m
 |[],m=>by simp [bv]
 |b::l,m=>by
   rw [YS,bv,bv,aO l m,xO,Int.pow_succ,Int.mul_add,yS (2^l.length) 2,Int.mul_assoc];omega
theorem tW:∀{l:List Int},rk l->0<=bv l/\bv l<2^l.length
 |[],_=>by simp [bv]
 |b::l,h=>by
   have h1:=h b zG;have h2:=tW (l:=l) (λc hc=>h c (by simp [hc]));unfold ua at h1;rw [bv,xO,Int.pow_succ];omega
theorem Wi:∀{l:List Int},rk l->l=si l.length (bv l).toNat
 |[],_=>rfl
 |b::l,h=>by
   have h1:=h b zG;have h0:rk l:=λc hc=>h c (by simp [hc]);have h2:=tW h0;have e:=Wi h0;unfold ua at h1;rw [xO,si,bv];have e1:(b+2*bv l).toNat%2=b.toNat:=za;have e2:(b+2*bv l).toNat / 2=(bv l).toNat:=za;rw [e1,e2,<-e];congr 1;omega
theorem OG (n x:Nat):si n (x%2^n)=si n x:=by
 have h:=Wi (VY n x);rw [Vn,Tu,Int.toNat_natCast] at h;exact h.symm
theorem VC {l m:List Int}(hl:rk l)(hm:rk m):rk (l++m):=by
 intro b hb;rcases List.mem_append.1 hb with h|h
 ·exact hl b h
 ·exact hm b h
theorem Vo (l:List Int)(k:Nat):bv (l.take (k+1))=bv (l.take k)+2^k*l.getD k 0:=by
 by_cases h:k<l.length
 ·rw [qC h,aO,qL,xG za];simp [bv,List.getD,qY h]
 ·rw [qV za,qV za,qQ,QE za];simp
theorem Tg {l:List Int}(h:rk l)(k:Nat):ua (l.getD k 0):=by
 by_cases hk:k<l.length
 ·exact h _ (by rw [qQ,qY hk];exact xM hk)
 ·rw [qQ,QE za];unfold ua;simp
structure gw (a b:List Int)(k:Nat)(out:List Int)(c:Int):Prop where
 len:out.length=k
 bits:rk out
 carry:ua c
 sum:bv (a.take k)+bv (b.take k)=bv out+2^k*c
theorem gw.start (a b:List Int):gw a b 0 [] 0:=⟨rfl,by intro x hx;simp at hx,by unfold ua;omega,by simp [bv]⟩
theorem gw.step {a b d:List Int}{c s:Int}(h:gw a b k d c)(ha:rk a)(hb:rk b)(hs:s=c+a.getD k 0+b.getD k 0):gw a b (k+1) (d++[s%2]) (s / 2):=by
 have h1:=Tg ha k;have h2:=Tg hb k;have h3:=h.carry;unfold ua at h1 h2 h3;refine⟨by simp [h.len],VC h.bits (by intro x hx;simp at hx;subst hx;unfold ua;omega),by unfold ua;omega,?_⟩;have e:=h.sum;rw [Vo,Vo,aO,h.len];simp only [bv,Int.mul_zero,Int.add_zero];have e2:(2:Int)^(k+1)*(s / 2)=2^k*(2*(s / 2)):=by rw [Int.pow_succ,Int.mul_assoc]
 have e3:(2:Int)^k*(s%2)+2^k*(2*(s / 2))=2^k*s:=by rw [<-Int.mul_add];congr 1;omega
 have e4:(2:Int)^k*s=2^k*c+2^k*a.getD k 0+2^k*b.getD k 0:=by rw [hs,Int.mul_add,Int.mul_add]
 omega
theorem gw.done {a b:List Int}{c:Int}(h:gw a b k d c)(ha:a.length<=k)(hb:b.length<=k):d=si k (bv a+bv b).toNat:=by
 have e:=h.sum;rw [qV ha,qV hb] at e;have h1:=Wi h.bits;have h2:=tW h.bits;have h3:=h.carry;rw [h.len] at h1 h2;have hp:(2:Int)^k=((2^k:Nat):Int):=by rw [yB];rfl
 rw [h1,<-OG k (bv a+bv b).toNat];congr 1;rw [e];obtain⟨c0,c1⟩:=h3;obtain⟨o,ho⟩:=xP h2.1;obtain⟨c,rfl⟩:=xP c0;rw [hp,ho] at h2;rw [ho,hp,<-xX,<-Int.natCast_add,Int.toNat_natCast,Int.toNat_natCast,yZ];exact(qS za).symm
theorem T2 (y k:Nat):y%2^(k+1)=y%2^k+2^k*(y / 2^k%2):=by rw [qO,Nat.mod_mul]
theorem OF (x j:Nat)(h1:2^j<=x)(h2:x<2^(j+1)):bitLen x=j+1:=by
 have a:x≠0:=by have:=xZ j;omega
 unfold bitLen;rw [if_neg a,(Nat.log2_eq_iff a).2 ⟨h1,h2⟩]
structure iZ (x y c k:Nat)(out:List Int)(b:Int):Prop where
 len:out.length=k
 bits:rk out
 lack:ua b
 sum:bv out - 2^k*b=((x%2^k:Nat):Int) - ((y%2^k:Nat):Int) - (if k=0 then 0 else(c:Int)%2)
 first:k=0->b=0
theorem iZ.start (x y c:Nat):iZ x y c 0 [] 0:=⟨rfl,by intro b hb;simp at hb,by unfold ua;omega,by simp [bv,XU],λ_=>rfl⟩
def fG (x y c k:Nat)(b:Int):Int:=((x / 2^k%2:Nat):Int) - ((y / 2^k%2:Nat):Int) - b - (if k=0 then(c:Int)%2 else 0)
theorem po {x y c:Nat}{b:Int}(hb:ua b)(h0:k=0->b=0): -2<=fG x y c k b/\fG x y c k b<=1:=by
 unfold ua at hb;unfold fG
 split
 ·rename_i h;have:=h0 h;omega
 ·omega
theorem iZ.step {g:List Int}{b d b':Int}(h:iZ x y c k g b)(hd:d=fG x y c k b+2*b')(a:b'=if fG x y c k b<0 then 1 else 0):iZ x y c (k+1) (g++[d]) b':=by
 have hbd:=po (x:=x) (y:=y) (c:=c) h.lack h.first;have hB:ua b':=by unfold ua;split at a<;>omega
 refine⟨by simp [h.len],VC h.bits (by intro z hz;simp at hz;subst hz;unfold ua;split at a<;>omega),hB,?_,za⟩;have e:=h.sum;rw [aO,h.len,T2 x k,T2 y k];simp only [bv,Int.mul_zero,Int.add_zero,if_neg (Nat.succ_ne_zero k)];have hD:(if k=0 then(0:Int) else(c:Int)%2)+(if k=0 then(c:Int)%2 else 0)=(c:Int)%2:=by split<;>omega
 have i:2^k*(if k=0 then(c:Int)%2 else 0)=(if k=0 then(c:Int)%2 else 0):=by
  split
  ·rename_i h;subst h;simp
  ·simp
 have e1:(2:Int)^k*d=2^k*((x / 2^k%2:Nat):Int) - 2^k*((y / 2^k%2:Nat):Int) - 2^k*b - 2^k*(if k=0 then(c:Int)%2 else 0)+2^k*(2*b'):=by
  rw [hd];unfold fG;rw [Int.mul_add,Int.mul_sub,Int.mul_sub,Int.mul_sub]
 have e2:(2:Int)^(k+1)*b'=2^k*(2*b'):=by rw [Int.pow_succ,Int.mul_assoc]
 have e3:((x%2^k+2^k*(x / 2^k%2):Nat):Int)=((x%2^k:Nat):Int)+2^k*((x / 2^k%2:Nat):Int):=by rw [Int.natCast_add,xX,yB];rfl
 have e4:((y%2^k+2^k*(y / 2^k%2):Nat):Int)=((y%2^k:Nat):Int)+2^k*((y / 2^k%2:Nat):Int):=by rw [Int.natCast_add,xX,yB];rfl
 rw [e3,e4];rw [i] at e1;omega
theorem iZ.done {b:Int}(h:iZ x y c 64 d b)(hx:x<18446744073709551616)(hy:y<18446744073709551616):bv d=o9 x y c/\b=o8 x y c:=by
 have e:=h.sum;have a:=tW h.bits;have hl:=h.lack;rw [h.len] at a;rw [show x%2^64=x from qS za,show y%2^64=y from qS za] at e;simp only [show(2:Int)^64=18446744073709551616 from by decide,show ¬(64:Nat)=0 from by decide,if_false] at e a;unfold ua at hl;unfold o9 o8;refine⟨za,?_⟩
 split<;>omega
set_option maxRecDepth 100000
theorem VB (hx:(dg 18446744073709551616 x).length=n+1):wd x n=x / 18446744073709551616^n/\0<wd x n/\bitLen x=64*n+bitLen (wd x n):=by
 have a:x≠0:=by rintro rfl;simp [oW] at hx
 have h1:=yv (b:=18446744073709551616) zf x;have h2:=(jA (b:=18446744073709551616) zf x a).2;rw [hx] at h1 h2;have h3:x / 18446744073709551616^n<18446744073709551616:=(QM (XB zf)).2 (by rw [qB,<-qO];exact h1);have h4:0<x / 18446744073709551616^n:=Nat.div_pos (by simpa using h2) (XB zf);have h5:wd x n=x / 18446744073709551616^n:=qS h3;refine⟨h5,za,?_⟩;rw [h5];have e:(18446744073709551616:Nat)^n=2^(64*n):=by rw [show(18446744073709551616:Nat)=2^64 from rfl,<-yL]
 rw [e] at h4⊢;exact bitLen_shift x (64*n) za
theorem Vq (A:ze)(c:Nat)(w:World):Calls prog 108 #[.agg #[.slice A 0 c]] w λe w'=>e=.returned (.bool true)/\Below w.heap.size w w':=T3 A 0 c w
theorem Vr (A:ze)(n c:Nat)(hn:n≠0)(w:World):Calls prog 108 #[.agg #[.slice A n c]] w λe w'=>e=.returned (.bool false)/\Below w.heap.size w w':=by
 have:=T3 A n c w;rw [decide_eq_false hn] at this;exact this
theorem Tk (h:(dg 18446744073709551616 x).length=0):x=0:=by
 have h1:=yv (b:=18446744073709551616) zf x;rw [h] at h1;omega
theorem Xf (x:Nat)(A:ze)(n c:Nat)(w:World)(hA:zo w x A n c)(hn:n<=1099511627776):
  Calls prog 109 #[.agg #[.slice A n c]] w λe w'=>e=.returned (.int .i64 (bitLen x:Nat))/\Below w.heap.size w w':=by
 have d:=hA.len;by_cases h0:n=0
 ·subst h0;have hx:x=0:=Tk d;subst hx;have HZ:=zb (λw=>Vq A c w);clear d hA;go_enter func109,ntmps109;go_wp2_with fail;refine(HZ.o _).mono ?_;rintro e w1 ⟨rfl,hb⟩;have hB:=zc ((qZ _ w).alloc (qX _) _) hb;clear hb;go_wp2;go_ret;exact⟨rfl,hB⟩
 ·obtain⟨m,rfl⟩:∃m,n=m+1:=⟨n - 1,za⟩;obtain⟨h1,h2,h3⟩:=VB d;have o:=wX x m;obtain⟨ad,rfl,g,hx⟩:=wQ hA.1 (k:=m) za;rw [nD] at hx;have HZ:=zb (λw=>Vr (some ad) (m+1) c za w);have WL:=(λw=>oO (wd x m:Nat) ⟨za,za⟩ w);have j:bitLen (wd x m)<=64:=iE _ 64 (by simpa using o);have e:tN ((wd x m:Nat):Int)=((bitLen (wd x m):Nat):Int):=by unfold tN;simp
  rw [e] at WL;obtain⟨a,ha⟩:∃a,wd x m=a:=⟨_,rfl⟩;rw [ha] at hx WL j h3;obtain⟨b,i⟩:∃b,bitLen a=b:=⟨_,rfl⟩;rw [i] at WL j h3;have HW:=zb WL;have H3:=zb h3;clear WL h3 i ha e o h1 h2 d h0 hA;go_enter func109,ntmps109;go_wp2_with fail;refine(HZ.o _).mono ?_;rintro e w1 ⟨rfl,hb⟩;have hB:=zc ((qZ _ w).alloc (qX _) _) hb;have g1:w1.cell? ⟨w.heap.size,0,none⟩=some (.slice (some ad) (m+1) c):=zq hb ((zh.new w 50 #[.slice (some ad) (m+1) c]).cell 0);have g2:w1.cell? (ad.add m)=some (.int .u64 a):=(hB.cell (by rw [yw];exact g)).trans hx;clear hb hx;go_wp2_with fail;refine(HW.o _).mono ?_;rintro e w2 ⟨rfl,rfl⟩;go_wp2;go_ret;exact⟨by rw [H3.o];go_num,hB⟩
theorem my (k:Nat):18446744073709551616^(k / 64)*2^(k%64)=2^k:=by
 rw [show(18446744073709551616:Nat)=2^64 from rfl,<-yL,<-xU,XL]
theorem gG {r:Nat}(h:r<=64):2^(64 - r)*2^r=18446744073709551616:=by
 rw [<-xU,Nat.sub_add_cancel h]
theorem pO (h:b<2^i):2^i*a|||b=2^i*a+b:=(Nat.two_pow_add_eq_or_of_lt h a).symm
theorem OY (h:b<2^i):b|||2^i*a=2^i*a+b:=by rw [Nat.or_comm];exact pO h
theorem SN (h:b<2^i)(hab:2^i*a+b<18446744073709551616):bits .or .u64 (b:Int) ((2^i*a:Nat):Int)=((2^i*a+b:Nat):Int):=by
 rw [bits_or_u64_nat _ _ za za,OY h]
theorem Ss (a r:Nat)(hr:r<=64):a*2^r%18446744073709551616=2^r*(a%2^(64 - r)):=by
 rw [<-gG hr,qB (2^(64 - r)),qB a,Nat.mul_mod_mul_left]
theorem oN (x k i:Nat):wd (x / 2^k) i=wd x (k / 64+i) / 2^(k%64)+2^(64 - k%64)*(wd x (k / 64+i+1)%2^(k%64)):=by
 have hr:k%64<=64:=za;have e1:x / 2^k / 18446744073709551616^i=x / 18446744073709551616^(k / 64+i) / 2^(k%64):=by
  rw [xB,xB,<-my k,xU];congr 1;rw [qH,qH,qB (2^(k%64))]
 have e2:x / 18446744073709551616^(k / 64+i+1)=x / 18446744073709551616^(k / 64+i) / 18446744073709551616:=by
  rw [qO,<-xB]
 unfold wd;rw [e1,e2];generalize x / 18446744073709551616^(k / 64+i)=y;generalize k%64=r at*;have e3:y / 18446744073709551616%18446744073709551616%2^r=y / 18446744073709551616%2^r:=by
  refine Nat.mod_mod_of_dvd _ ?_;rw [<-gG hr];exact Nat.dvd_mul_left _ _
 rw [e3];have e4:y=18446744073709551616*(y / 18446744073709551616)+y%18446744073709551616:=(XL _ _).symm;generalize hq:y / 18446744073709551616=q at*;generalize hm:y%18446744073709551616=m at*;have a:m<18446744073709551616:=za;subst e4;rw [<-gG hr] at a⊢;have e5:2^(64 - r)*2^r*q+m=m+2^r*(2^(64 - r)*q):=by rw [YO,qB (2^(64 - r)) (2^r),qH]
 rw [e5,Nat.add_mul_div_left _ _ (xZ r)];have e6:m / 2^r<2^(64 - r):=(QM (xZ r)).2 a;have e7:2^(64 - r)*q=2^(64 - r)*2^r*(q / 2^r)+2^(64 - r)*(q%2^r):=by
  rw [qH,<-qM,XL]
 rw [e7,YO (2^(64 - r)*2^r*(q / 2^r)),<-xH,yZ];refine qS ?_;have e8:q%2^r<2^r:=QA _ (xZ r);have e9:2^(64 - r)*(q%2^r+1)<=2^(64 - r)*2^r:=QW _ e8;rw [qM] at e9;omega
def uk (y i:Nat):List Nat:=(List.range i).map (wd y)
theorem jc (y i:Nat):(uk y i).length=i:=by simp [uk]
theorem Yf (y i:Nat):uk y (i+1)=uk y i++[wd y i]:=by simp [uk,YK]
theorem VI (y i:Nat):zH 18446744073709551616 (uk y i):=by
 intro d hd;obtain⟨j,_,rfl⟩:=List.mem_map.1 hd;exact wX y j
theorem UU (y:Nat):∀i,dv 18446744073709551616 (uk y i)=y%18446744073709551616^i
 |0=>by simp [uk,dv,XU]
 |i+1=>by rw [Yf,vR,UU y i,jc,uh 18446744073709551616 y i];rfl
theorem VH (h:(dg 18446744073709551616 y).length<=i):dv 18446744073709551616 (uk y i)=y:=by
 rw [UU];exact qS (qJ (yv zf y) (qG zf h))
theorem UR (m:Nat):IntKind.u64.wrap (m:Int)=((m%18446744073709551616:Nat):Int):=by
 simp [IntKind.wrap,IntKind.bits,IntKind.signed]
theorem TI {b r:Nat}(ha:a<18446744073709551616)(hr:r<64):
  bits .or .u64 ((a:Int) / 2^r) (IntKind.u64.wrap ((b:Int)*2^(64 - r)))=((a / 2^r+2^(64 - r)*(b%2^r):Nat):Int):=by
 have e1:(a:Int) / 2^r=((a / 2^r:Nat):Int):=zG;have e2:(b:Int)*2^(64 - r)=((b*2^(64 - r):Nat):Int):=zG;have e3:b*2^(64 - r)%18446744073709551616=2^(64 - r)*(b%2^r):=by
  rw [Ss b (64 - r) za,show 64 - (64 - r)=r from by omega]
 rw [e1,e2,UR,e3];have h1:a / 2^r<2^(64 - r):=(QM (xZ r)).2 (by rw [gG za];exact ha);have h2:b%2^r<2^r:=QA _ (xZ r);have h3:2^(64 - r)*(b%2^r+1)<=2^(64 - r)*2^r:=QW _ h2;rw [gG za,qM] at h3;rw [SN h1 za,YO]
structure kz (x m k:Nat)(out:List Nat)(c:Nat):Prop where
 len:out.length=k
 dgs:zH 18446744073709551616 out
 carry:c<m
 sum:dv 18446744073709551616 out+18446744073709551616^k*c=x%18446744073709551616^k*m
theorem kz.start (x m:Nat)(hm:0<m):kz x m 0 [] 0:=⟨rfl,by intro d hd;simp at hd,hm,by simp [dv,XU]⟩
theorem kz.step {s:Nat}{a:List Nat}(h:kz x m k a c)(hs:s=wd x k*m+c):kz x m (k+1) (a++[s%18446744073709551616]) (s / 18446744073709551616):=by
 have h1:=wX x k;have h3:=h.carry;have h4:(wd x k+1)*m<=18446744073709551616*m:=qE m h1;rw [QN] at h4;refine⟨by simp [h.len],h.dgs.append (by intro d hd;simp at hd;subst hd;exact QA _ zf),(QM zf).2 (by rw [qB m];omega),?_⟩;have e:=h.sum;have e2:18446744073709551616^k*(s%18446744073709551616)+18446744073709551616^k*(18446744073709551616*(s / 18446744073709551616))=18446744073709551616^k*s:=by rw [<-qM,XC]
 have e3:18446744073709551616^k*s=18446744073709551616^k*wd x k*m+18446744073709551616^k*c:=by rw [hs,qM,qH]
 rw [vR,h.len,qO,qH (18446744073709551616^k) 18446744073709551616,<-qO,uh 18446744073709551616 x k,QN];unfold wd at e3;omega
theorem kz.done {q:Nat}{a:List Nat}(h:kz x m n a c)(hx:(dg 18446744073709551616 x).length<=n):dv 18446744073709551616 (List.replicate q 0++a++[c])=18446744073709551616^q*m*x:=by
 have e:=h.sum;have h1:x<18446744073709551616^n:=qJ (yv zf x) (qG zf hx);rw [qS h1] at e;rw [xV,tF,iK,yM,vR,h.len,e,xR,qH,qB m]
theorem SY (a:Nat){r:Nat}(hr:r<64):∃hi lo:Nat,a / 2^(64 - r)=hi/\2^r*(a%2^(64 - r))=lo/\a*2^r=18446744073709551616*hi+lo/\lo+2^r<=18446744073709551616:=by
 refine⟨_,_,rfl,rfl,?_,?_⟩
 ·rw [<-gG (r:=r) za,qH,qB (2^r) (a / 2^(64 - r)),<-qH,qB (2^r),<-QN,XL]
 ·have h2:a%2^(64 - r)<2^(64 - r):=QA _ (xZ _);have h3:2^r*(a%2^(64 - r)+1)<=2^r*2^(64 - r):=QW _ h2;rw [qB (2^r) (2^(64 - r)),gG za,qM,xS] at h3;exact h3
theorem ot {a r:Nat}(hr:r<64)(hc:c<2^r):bits .or .u64 (c:Int) (IntKind.u64.wrap ((a:Int)*2^r))=(((a*2^r+c)%18446744073709551616:Nat):Int):=by
 have e2:(a:Int)*2^r=((a*2^r:Nat):Int):=zG;obtain⟨hi,lo,e3,e4,e5,e6⟩:=SY a hr;have e7:2^r*(a%2^(64 - r))+c<18446744073709551616:=by rw [e4];omega
 rw [e2,UR,Ss a r za,SN hc e7,e4,e5];generalize 2^r=p at*;omega
theorem Np {a r:Nat}(hr:r<64)(hc:c<2^r):(a:Int) / 2^(64 - r)=(((a*2^r+c) / 18446744073709551616:Nat):Int):=by
 have e1:(a:Int) / 2^(64 - r)=((a / 2^(64 - r):Nat):Int):=zG;obtain⟨hi,lo,e3,e4,e5,e6⟩:=SY a hr;rw [e1,e3,e5];generalize 2^r=p at*;omega
theorem lB {α:Type}{P R:List α}{j:Nat}{c z a b:α}(h:P.length=j):((P++c::z::R).set j a).set (j+1) b=P++a::b::R:=by
 subst h;rw [yN _ _ (qX _),XG,qP,yN _ _ za];simp
theorem TQ (n:Nat):zt .u64 (List.replicate (n+1) 0)=.int .u64 0::zt .u64 (List.replicate n 0):=by simp [zt,List.replicate_succ]
theorem SM (cs:Array Value)(l:List Nat)(w:World)(g n x:Nat)(hk:zh w g 125 cs)(hn:cs.size=n)(hv:cs.toList=zt .u64 l)(hd:zH 18446744073709551616 l)(hx:dv 18446744073709551616 l=x)(hs:n<=1000):
  Calls prog 106 #[.slice (some ⟨g,0,none⟩) n n] w (wh w x):=by
 have hl:l.length=n:=by
  have h:=congrArg List.length hv;rw [wL] at h;rw [<-h];simpa using hn
 have:=tK (some ⟨g,0,none⟩) n n l w (iF hk hn (by rw [hv,qV (by rw [wL];omega)]) hl) hd (qX _) za za;rw [hx] at this;exact this
theorem fR (a:Nat)(ha:a<18446744073709551616):zH 18446744073709551616 [a]:=by intro d hd;simp at hd;omega
theorem fi (w:World)(o:Obj):Below w.heap.size w (w.alloc o):=(qZ _ w).alloc (qX _) o
theorem ie {A:ze}{l:List Nat}(h:zo w x A n c)(hx:dg 18446744073709551616 x=l):n=l.length:=by rw [<-h.len,hx]
def Sz (K x:Nat):Prop:=x<18446744073709551616^K
theorem Sz.of_le (h:Sz K x)(hy:y<=x):Sz K y:=QO hy h
theorem Sz.up (h:Sz K x)(hk:K<=K'):Sz K' x:=qJ h (qG zf hk)
theorem Sz.add (h:Sz K x)(h':Sz K y):Sz (K+1) (x+y):=by
 unfold Sz at*;rw [qO];omega
theorem Sz.mul (h:Sz K x)(h':Sz K' y):Sz (K+K') (x*y):=by
 unfold Sz at*;rw [xU];exact XP h h'
theorem Sz.len (h:Sz K x):(dg 18446744073709551616 x).length<=K:=wP zf _ _ h
theorem Sz.words (h:Sz K x){w:World}{A:ze}{n c:Nat}(hw:zo w x A n c):n<=K:=by rw [<-hw.len];exact h.len
theorem iP (h:x=0){w:World}{A:ze}{n c:Nat}(hA:zo w x A n c):Calls prog 108 #[.agg #[.slice A n c]] w λe w'=>e=.returned (.bool true)/\Below w.heap.size w w':=by
 subst h;obtain rfl:n=0:=ie hA (oW _);exact Vq A c w
theorem ju (h:x≠0){w:World}{A:ze}{n c:Nat}(hA:zo w x A n c):Calls prog 108 #[.agg #[.slice A n c]] w λe w'=>e=.returned (.bool false)/\Below w.heap.size w w':=
 Vr A n c (λh0=>h (Tk (by rw [hA.len];exact h0))) w
theorem fQ {x y:Nat}(h:x=y){w:World}{A D:ze}{n m c d:Nat}(hA:zo w x A n c)(hD:zo w y D m d)(hn:n<=1099511627776)(hm:m<=1099511627776):
  Calls prog 81 #[.agg #[.slice A n c],.agg #[.slice D m d]] w (wR w 0):=by
 have:=iT x y A D n m c d w hA hD hn hm;rwa [ku h] at this
