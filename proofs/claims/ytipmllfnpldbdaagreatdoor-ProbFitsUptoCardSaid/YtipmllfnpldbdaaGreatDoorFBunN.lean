/- What this claim leans on. -/
import Derived.Test.YtipmllfnpldbdaaGreatDoorFBunC
import Derived.ChangeArms
import Derived.ChangeOld
import Derived.Lib.SmallJoins
import Derived.OpenShut
import Derived.ProofKit
set_option linter.unusedVariables false
set_option linter.unusedSimpArgs false
namespace Go.Proofs.YtipmllfnpldbdaaGreatDoor
open Go Go.RowKit Go.Proofs.Tryz
set_option maxHeartbeats 16000000
variable {cs:Array Value}{d:List Int}{K K' a b c g i k m n x y:Nat}{t:TypeId}{v:Value}{w w' w1:World}
structure wt (x y k:Nat)(out:List Nat)(c:Nat):Prop where
 len:out.length=k
 dgs:zC 18446744073709551616 out
 carry:c<=1
 sum:x%18446744073709551616^k+y%18446744073709551616^k=dv 18446744073709551616 out+18446744073709551616^k*c
theorem wt.start (x y:Nat):wt x y 0 [] 0:=⟨rfl,by intro d hd;simp at hd,za,by simp [dv,xD]⟩
theorem wt.step {s:Nat}{a:List Nat}(h:wt x y k a c)(hs:s=wd x k+wd y k+c):wt x y (k+1) (a++[s%18446744073709551616]) (s / 18446744073709551616):=by
 have h1:=xj x k;have h2:=xj y k;have h3:=h.carry;refine⟨by simp [h.len],h.dgs.append (by intro d hd;simp at hd;subst hd;exact QN _ zh),za,?_⟩;have e:=h.sum;unfold wd at hs;rw [wO 18446744073709551616 x k,wO 18446744073709551616 y k,wE,h.len,qT,qV,xR (dv 18446744073709551616 a),<-qS,xS,hs,qS,qS];omega
theorem wt.done {a:List Nat}(h:wt x y (k+1) a c)(hx:(dg 18446744073709551616 x).length<=k)(hy:(dg 18446744073709551616 y).length<=k):dv 18446744073709551616 a=x+y:=by
 have e:=h.sum;have h1:x<18446744073709551616^k:=qJ (yy zh x) (qL zh hx);have h2:y<18446744073709551616^k:=qJ (yy zh y) (qL zh hy);rw [qT] at e;rw [qP za,qP za] at e;have h3:=h.carry;have h4:c=0\/c=1:=za;rcases h4 with rfl|rfl
 ·omega
 ·omega
theorem eD (hc:c<=1):vj (a:Int) (b:Int) (c:Int)=(((a+b+c)%18446744073709551616:Nat):Int):=by unfold vj;omega
theorem eC (hc:c<=1):vi (a:Int) (b:Int) (c:Int)=(((a+b+c) / 18446744073709551616:Nat):Int):=by unfold vi;omega
structure wy (x y k:Nat)(out:List Nat)(c:Nat):Prop where
 len:out.length=k
 dgs:zC 18446744073709551616 out
 lack:c<=1
 sum:dv 18446744073709551616 out+y%18446744073709551616^k=x%18446744073709551616^k+18446744073709551616^k*c
theorem wy.start (x y:Nat):wy x y 0 [] 0:=⟨rfl,by intro d hd;simp at hd,za,by simp [dv,xD]⟩
theorem wy.step {d c':Nat}{a:List Nat}(h:wy x y k a c)(hd:d<18446744073709551616)(hc:c'<=1)(hs:d+wd y k+c=wd x k+18446744073709551616*c'):wy x y (k+1) (a++[d]) c':=by
 refine⟨by simp [h.len],h.dgs.append (by intro e he;simp at he;subst he;exact hd),hc,?_⟩;have e:=h.sum;have e2:18446744073709551616^k*d+18446744073709551616^k*(y / 18446744073709551616^k%18446744073709551616)+18446744073709551616^k*c=18446744073709551616^k*(x / 18446744073709551616^k%18446744073709551616)+18446744073709551616^k*(18446744073709551616*c'):=by
  unfold wd at hs;rw [<-qS,<-qS,hs,qS]
 rw [wO 18446744073709551616 x k,wO 18446744073709551616 y k,wE,h.len,qT,qV (18446744073709551616^k) 18446744073709551616 c'];omega
theorem wy.done {a:List Nat}(h:wy x y k a c)(d:y<=x)(hx:(dg 18446744073709551616 x).length<=k):dv 18446744073709551616 a=x - y:=by
 have e:=h.sum;have h1:x<18446744073709551616^k:=qJ (yy zh x) (qL zh hx);have h3:=wi h.dgs;rw [h.len] at h3;rw [qP h1,qP (QS d h1)] at e;have h4:=h.lack;have:c=0\/c=1:=za;rcases this with rfl|rfl<;>omega
theorem iL (ha:a<18446744073709551616)(hb:b<18446744073709551616)(hc:c<=1):
  ∃d c':Nat,s6 (a:Int) (b:Int) (c:Int)=(d:Int)/\sZ (a:Int) (b:Int) (c:Int)=(c':Int)/\d<18446744073709551616/\c'<=1/\d+b+c=a+18446744073709551616*c':=by
 refine⟨((a:Int) - b - c).emod 18446744073709551616|>.toNat,if a<b+c then 1 else 0,?_,?_,?_,?_,?_⟩
 ·unfold s6;show((a:Int) - b - (c:Int)%2)%18446744073709551616=((((a:Int) - b - c)%18446744073709551616).toNat:Int);omega
 ·unfold sZ;split<;>split<;>omega
 ·show(((a:Int) - b - c)%18446744073709551616).toNat<_;omega
 ·split<;>omega
 ·show(((a:Int) - b - c)%18446744073709551616).toNat+b+c=_;split<;>omega
theorem ij (cs:Array Value)(k:Nat)(u:Value)(h:k<cs.size):(cs.setIfInBounds k u).toList.take (k+1)=cs.toList.take k++[u]:=by
 rw [xV,QY (by simpa using h)];simp [YO];exact List.set_eq_of_length_le (by simp;omega)
theorem lF (K:IntKind)(l:List Nat)(d:Nat):zv K (l++[d])=zv K l++[.int K (d:Int)]:=by simp [zv]
theorem mj {l:List Nat}(h:zi w g t cs)(hn:cs.size=n)(hv:cs.toList.take n=zv .u64 l)(hl:l.length=n):zE w w.heap.size 1 (some ⟨g,0,none⟩) n (zv .u64 l):=by
 refine⟨by rw [xn];omega,λ_=>⟨_,rfl,h.lt,λj u hu=>?_⟩⟩;have e:(⟨g,0,none⟩:Addr).add j=⟨g,j,none⟩:=by unfold Addr.add;split<;>simp_all
 rw [e,h.cell j,<-QL];rw [qU (by simp;omega)] at hv;rw [hv];exact hu
theorem zj (hb:Below w.heap.size w w')(h:zi w g t cs):zi w' g t cs:=h.below hb h.lt
theorem zX {g0:Nat}{t0:TypeId}{cs0:Array Value}{g1:Nat}{t1:TypeId}{cs1:Array Value}(hb:Below w.heap.size w w')(h0:zi w g0 t0 cs0)(h1:zi w g1 t1 cs1):zi w' g0 t0 cs0/\zi w' g1 t1 cs1:=⟨zj hb h0,zj hb h1⟩
theorem zF (w:World)(t:TypeId)(a:Array Value):Below w.heap.size w (w.alloc (.cells a t))/\zi (w.alloc (.cells a t)) w.heap.size t a/\w.heap.size+1<=(w.alloc (.cells a t)).heap.size:=
 ⟨(qY _ w).alloc (qX _) _,zi.new w t a,zD⟩
theorem ya (w:World)(t s:TypeId)(a b:Array Value):Below w.heap.size w ((w.alloc (.cells a t)).alloc (.cells b s))/\zi ((w.alloc (.cells a t)).alloc (.cells b s)) w.heap.size t a/\zi ((w.alloc (.cells a t)).alloc (.cells b s)) (w.heap.size+1) s b/\w.heap.size+2<=((w.alloc (.cells a t)).alloc (.cells b s)).heap.size:=by
 obtain⟨h1,h2,h3⟩:=zF w t a;have h4:=zi.new (w.alloc (.cells a t)) s b;have e:(w.alloc (.cells a t)).heap.size=w.heap.size+1:=zD;rw [e] at h4;exact⟨h1.alloc h1.size _,h2.alloc _,h4,zD⟩
theorem yd (w:World)(t s r:TypeId)(a b c:Array Value):Below w.heap.size w (((w.alloc (.cells a t)).alloc (.cells b s)).alloc (.cells c r))/\zi (((w.alloc (.cells a t)).alloc (.cells b s)).alloc (.cells c r)) w.heap.size t a/\zi (((w.alloc (.cells a t)).alloc (.cells b s)).alloc (.cells c r)) (w.heap.size+1) s b/\zi (((w.alloc (.cells a t)).alloc (.cells b s)).alloc (.cells c r)) (w.heap.size+1+1) r c/\w.heap.size+3<=(((w.alloc (.cells a t)).alloc (.cells b s)).alloc (.cells c r)).heap.size:=by
 obtain⟨h1,h2,h3,h4⟩:=ya w t s a b;have h5:=zi.new ((w.alloc (.cells a t)).alloc (.cells b s)) r c;have e:((w.alloc (.cells a t)).alloc (.cells b s)).heap.size=w.heap.size+2:=zD;rw [e] at h5;exact⟨h1.alloc h1.size _,h2.alloc _,h3.alloc _,h5,zD⟩
theorem yo {p:Addr}(o:Obj)(h:w1.cell? p=some v):(w1.alloc o).cell? p=some v:=(World.cell?_alloc_lt w1 o p (QT w1 p h)).trans h
theorem ym (o:Obj)(h:Below w.heap.size w w1):Below w.heap.size w (w1.alloc o):=h.alloc h.size o
theorem zS {p q:Addr}(u:Value)(hp:p.block≠q.block)(h:w1.cell? p=some v):(w1.setCell q u).cell? p=some v:=(yD w1 q p u (λe=>hp (by first|rw [e]|rw [<-e]))).trans h
theorem zG {p:Addr}(u:Value)(hp:w.heap.size<=p.block)(h:Below w.heap.size w w1):Below w.heap.size w (w1.setCell p u):=h.setCell hp u
theorem kN {wr:World}{gs p:Nat}{A1:zf}{c1:Nat}(hB:Below w.heap.size w wr)(hp:w.heap.size<=p)(hg:p≠gs)(hr:zE wr wr.heap.size 1 A1 (dg 18446744073709551616 x).length (zv .u64 (dg 18446744073709551616 x)))(h1:(dg 18446744073709551616 x).length<=c1)(h2:c1<=9223372036854775807)
  (hA:A1=some ⟨gs,0,none⟩\/A1=none) (a:w.heap.size<=gs) (u:Value):Below w.heap.size w (wr.setCell ⟨p,0,none⟩ u)/\zo (wr.setCell ⟨p,0,none⟩ u) x A1 (dg 18446744073709551616 x).length c1/\um w A1:=
 ⟨hB.setCell hp u,oA ⟨hr,h1,h2⟩ (λad e=>by
  rcases hA with h|h
  ·rw [h] at e;injection e with e;subst e;exact λe2=>hg e2.symm
  ·rw [h] at e;cases e) u,λad e=>by
  rcases hA with h|h
  ·rw [h] at e;injection e with e;subst e;exact a
  ·rw [h] at e;cases e⟩
theorem lK {a:Value}(h:zi w g t #[a])(u:Value):zi (w.setCell ⟨g,0,none⟩ u) g t #[u]:=h.set_ 0 u
def yi (w:World)(g:Nat)(v:Value):Prop:=∃t,zi w g t #[v]
theorem zi.one {t:TypeId}(h:zi w g t #[v]):yi w g v:=⟨t,h⟩
theorem yi.cell {w:World}{g:Nat}{v:Value}(h:yi w g v):w.cell? ⟨g,0,none⟩=some v:=by obtain⟨t,h⟩:=h;exact h.cell 0
theorem yi.frozen (h:yi w g v):w.frozen? ⟨g,0,none⟩=false:=by obtain⟨t,h⟩:=h;exact h.frozen 0
theorem yi.new (w:World)(t:TypeId)(v:Value):yi (w.alloc (.cells #[v] t)) w.heap.size v:=⟨t,zi.new w t _⟩
theorem yi.alloc (h:yi w g v)(o:Obj):yi (w.alloc o) g v:=by obtain⟨t,h⟩:=h;exact⟨t,h.alloc o⟩
theorem yi.drew (h:yi w g v):yi w.drew g v:=h
theorem yi.set_ (h:yi w g v)(u:Value):yi (w.setCell ⟨g,0,none⟩ u) g u:=by obtain⟨t,h⟩:=h;exact⟨t,lK h u⟩
theorem yi.far (h:yi w g v){p:Addr}(hp:g≠p.block)(u:Value):yi (w.setCell p u) g v:=by obtain⟨t,h⟩:=h;exact⟨t,h.far hp u⟩
theorem yi.keep {w':World}(h:yi w g v)(hb:Below w.heap.size w w'):yi w' g v:=by obtain⟨t,h⟩:=h;exact⟨t,zj hb h⟩
theorem yi.lt (h:yi w g v):g<w.heap.size:=by obtain⟨t,h⟩:=h;exact h.lt
def my (w:World)(x:Nat)(b:Bool)(e:Ending)(w':World):Prop:=∃(A:zf) (n c:Nat),e=.returned (.tuple #[.agg #[.slice A n c],.bool b])/\zo w' x A n c/\Below w.heap.size w w'/\um w A
theorem jV (w:World):zo w 0 none 0 0:=⟨zE.none_,qX _,za⟩
theorem rS (h:y<=x):0<=yt x y:=by
 unfold yt;rw [if_neg za]
 split<;>omega
def vQ:Nat->Nat->List Int
 |0,_=>[]
 |n+1,x=>((x%2:Nat):Int)::vQ n (x / 2)
def bv:List Int->Int
 |[]=>0
 |b::l=>b+2*bv l
def wu (b:Int):Prop:=0<=b/\b<=1
def uH (l:List Int):Prop:=∀b ∈ l,wu b
theorem fo:∀n x,(vQ n x).length=n
 |0,_=>rfl
 |n+1,x=>by simp [vQ,fo n]
theorem ft:∀n x,uH (vQ n x)
 |0,_=>by intro b hb;simp [vQ] at hb
 |n+1,x=>by
   intro b hb;simp only [vQ,List.mem_cons] at hb;rcases hb with rfl|hb
   ·unfold wu;omega
   ·exact ft n _ b hb
theorem dC:∀n x,bv (vQ n x)=((x%2^n:Nat):Int)
 |0,x=>by simp [vQ,bv,xD]
 |n+1,x=>by
   rw [vQ,bv,dC n (x / 2)];have h:x%2^(n+1)=x%2+2*(x / 2%2^n):=by
    rw [qT,qE (2^n) 2,Nat.mod_mul]
   omega
theorem kH:∀(l m:List Int),bv (l++m)=bv l+2^l.length*bv m
 |[],m=>by simp [bv]
 |b::l,m=>by
   rw [yX,bv,bv,kH l m,xX,Int.pow_succ,Int.mul_add,XV (2^l.length) 2,Int.mul_assoc];omega
theorem vJ:∀{l:List Int},uH l->0<=bv l/\bv l<2^l.length
 |[],_=>by simp [bv]
 |b::l,h=>by
   have h1:=h b zD;have h2:=vJ (l:=l) (λc hc=>h c (by simp [hc]));unfold wu at h1;rw [bv,xX,Int.pow_succ];omega
theorem iA:∀{l:List Int},uH l->l=vQ l.length (bv l).toNat
 |[],_=>rfl
 |b::l,h=>by
   have h1:=h b zD;have h0:uH l:=λc hc=>h c (by simp [hc]);have h2:=vJ h0;have e:=iA h0;unfold wu at h1;rw [xX,vQ,bv];have e1:(b+2*bv l).toNat%2=b.toNat:=za;have e2:(b+2*bv l).toNat / 2=(bv l).toNat:=za;rw [e1,e2,<-e];congr 1;omega
theorem Xn (n x:Nat):vQ n (x%2^n)=vQ n x:=by
 have h:=iA (ft n x);rw [fo,dC,Int.toNat_natCast] at h;exact h.symm
theorem fw {l m:List Int}(hl:uH l)(hm:uH m):uH (l++m):=by
 intro b hb;rcases List.mem_append.1 hb with h|h
 ·exact hl b h
 ·exact hm b h
theorem fq (l:List Int)(k:Nat):bv (l.take (k+1))=bv (l.take k)+2^k*l.getD k 0:=by
 by_cases h:k<l.length
 ·rw [QY h,kH,QX,QP za];simp [bv,List.getD,qZ h]
 ·rw [qU za,qU za,qQ,xP za];simp
theorem dF {l:List Int}(h:uH l)(k:Nat):wu (l.getD k 0):=by
 by_cases hk:k<l.length
 ·exact h _ (by rw [qQ,qZ hk];exact xE hk)
 ·rw [qQ,xP za];unfold wu;simp
structure nZ (a b:List Int)(k:Nat)(out:List Int)(c:Int):Prop where
 len:out.length=k
 bits:uH out
 carry:wu c
 sum:bv (a.take k)+bv (b.take k)=bv out+2^k*c
theorem nZ.start (a b:List Int):nZ a b 0 [] 0:=⟨rfl,by intro x hx;simp at hx,by unfold wu;omega,by simp [bv]⟩
theorem nZ.step {a b d:List Int}{c s:Int}(h:nZ a b k d c)(ha:uH a)(hb:uH b)(hs:s=c+a.getD k 0+b.getD k 0):nZ a b (k+1) (d++[s%2]) (s / 2):=by
 have h1:=dF ha k;have h2:=dF hb k;have h3:=h.carry;unfold wu at h1 h2 h3;refine⟨by simp [h.len],fw h.bits (by intro x hx;simp at hx;subst hx;unfold wu;omega),by unfold wu;omega,?_⟩;have e:=h.sum;rw [fq,fq,kH,h.len];simp only [bv,Int.mul_zero,Int.add_zero];have e2:(2:Int)^(k+1)*(s / 2)=2^k*(2*(s / 2)):=by rw [Int.pow_succ,Int.mul_assoc]
 have e3:(2:Int)^k*(s%2)+2^k*(2*(s / 2))=2^k*s:=by rw [<-Int.mul_add];congr 1;omega
 have e4:(2:Int)^k*s=2^k*c+2^k*a.getD k 0+2^k*b.getD k 0:=by rw [hs,Int.mul_add,Int.mul_add]
 omega
theorem nZ.done {a b:List Int}{c:Int}(h:nZ a b k d c)(ha:a.length<=k)(hb:b.length<=k):d=vQ k (bv a+bv b).toNat:=by
 have e:=h.sum;rw [qU ha,qU hb] at e;have h1:=iA h.bits;have h2:=vJ h.bits;have h3:=h.carry;rw [h.len] at h1 h2;have hp:(2:Int)^k=((2^k:Nat):Int):=by rw [XL];rfl
 rw [h1,<-Xn k (bv a+bv b).toNat];congr 1;rw [e];obtain⟨c0,c1⟩:=h3;obtain⟨o,ho⟩:=QI h2.1;obtain⟨c,rfl⟩:=QI c0;rw [hp,ho] at h2;rw [ho,hp,<-QU,<-Int.natCast_add,Int.toNat_natCast,Int.toNat_natCast,xT];exact(qP za).symm
theorem dY (y k:Nat):y%2^(k+1)=y%2^k+2^k*(y / 2^k%2):=by rw [qT,Nat.mod_mul]
structure nV (x y c k:Nat)(out:List Int)(b:Int):Prop where
 len:out.length=k
 bits:uH out
 lack:wu b
 sum:bv out - 2^k*b=((x%2^k:Nat):Int) - ((y%2^k:Nat):Int) - (if k=0 then 0 else(c:Int)%2)
 first:k=0->b=0
theorem nV.start (x y c:Nat):nV x y c 0 [] 0:=⟨rfl,by intro b hb;simp at hb,by unfold wu;omega,by simp [bv,xD],λ_=>rfl⟩
def mL (x y c k:Nat)(b:Int):Int:=((x / 2^k%2:Nat):Int) - ((y / 2^k%2:Nat):Int) - b - (if k=0 then(c:Int)%2 else 0)
theorem tC {x y c:Nat}{b:Int}(hb:wu b)(h0:k=0->b=0): -2<=mL x y c k b/\mL x y c k b<=1:=by
 unfold wu at hb;unfold mL
 split
 ·rename_i h;have:=h0 h;omega
 ·omega
theorem nV.step {g:List Int}{b d b':Int}(h:nV x y c k g b)(hd:d=mL x y c k b+2*b')(a:b'=if mL x y c k b<0 then 1 else 0):nV x y c (k+1) (g++[d]) b':=by
 have hbd:=tC (x:=x) (y:=y) (c:=c) h.lack h.first;have hB:wu b':=by unfold wu;split at a<;>omega
 refine⟨by simp [h.len],fw h.bits (by intro z hz;simp at hz;subst hz;unfold wu;split at a<;>omega),hB,?_,za⟩;have e:=h.sum;rw [kH,h.len,dY x k,dY y k];simp only [bv,Int.mul_zero,Int.add_zero,if_neg (Nat.succ_ne_zero k)];have hD:(if k=0 then(0:Int) else(c:Int)%2)+(if k=0 then(c:Int)%2 else 0)=(c:Int)%2:=by split<;>omega
 have i:2^k*(if k=0 then(c:Int)%2 else 0)=(if k=0 then(c:Int)%2 else 0):=by
  split
  ·rename_i h;subst h;simp
  ·simp
 have e1:(2:Int)^k*d=2^k*((x / 2^k%2:Nat):Int) - 2^k*((y / 2^k%2:Nat):Int) - 2^k*b - 2^k*(if k=0 then(c:Int)%2 else 0)+2^k*(2*b'):=by
  rw [hd];unfold mL;rw [Int.mul_add,Int.mul_sub,Int.mul_sub,Int.mul_sub]
 have e2:(2:Int)^(k+1)*b'=2^k*(2*b'):=by rw [Int.pow_succ,Int.mul_assoc]
 have e3:((x%2^k+2^k*(x / 2^k%2):Nat):Int)=((x%2^k:Nat):Int)+2^k*((x / 2^k%2:Nat):Int):=by rw [Int.natCast_add,QU,XL];rfl
 have e4:((y%2^k+2^k*(y / 2^k%2):Nat):Int)=((y%2^k:Nat):Int)+2^k*((y / 2^k%2:Nat):Int):=by rw [Int.natCast_add,QU,XL];rfl
 rw [e3,e4];rw [i] at e1;omega
theorem nV.done {b:Int}(h:nV x y c 64 d b)(hx:x<18446744073709551616)(hy:y<18446744073709551616):bv d=s6 x y c/\b=sZ x y c:=by
 have e:=h.sum;have a:=vJ h.bits;have hl:=h.lack;rw [h.len] at a;rw [show x%2^64=x from qP za,show y%2^64=y from qP za] at e;simp only [show(2:Int)^64=18446744073709551616 from by decide,show ¬(64:Nat)=0 from by decide,if_false] at e a;unfold wu at hl;unfold s6 sZ;refine⟨za,?_⟩
 split<;>omega
set_option maxRecDepth 100000
theorem fv (hx:(dg 18446744073709551616 x).length=n+1):wd x n=x / 18446744073709551616^n/\0<wd x n/\bitLen x=64*n+bitLen (wd x n):=by
 have a:x≠0:=by rintro rfl;simp [oC] at hx
 have h1:=yy (b:=18446744073709551616) zh x;have h2:=(vK (b:=18446744073709551616) zh x a).2;rw [hx] at h1 h2;have h3:x / 18446744073709551616^n<18446744073709551616:=(QK (XC zh)).2 (by rw [qE,<-qT];exact h1);have h4:0<x / 18446744073709551616^n:=Nat.div_pos (by simpa using h2) (XC zh);have h5:wd x n=x / 18446744073709551616^n:=qP h3;refine⟨h5,za,?_⟩;rw [h5];have e:(18446744073709551616:Nat)^n=2^(64*n):=by rw [show(18446744073709551616:Nat)=2^64 from rfl,<-YV]
 rw [e] at h4⊢;exact bitLen_shift x (64*n) za
theorem fj (A:zf)(c:Nat)(w:World):Calls prog 100 #[.agg #[.slice A 0 c]] w λe w'=>e=.returned (.bool true)/\Below w.heap.size w w':=d8 A 0 c w
theorem fA (A:zf)(n c:Nat)(hn:n≠0)(w:World):Calls prog 100 #[.agg #[.slice A n c]] w λe w'=>e=.returned (.bool false)/\Below w.heap.size w w':=by
 have:=d8 A n c w;rw [decide_eq_false hn] at this;exact this
theorem dS (h:(dg 18446744073709551616 x).length=0):x=0:=by
 have h1:=yy (b:=18446744073709551616) zh x;rw [h] at h1;omega
theorem dZ (x:Nat)(A:zf)(n c:Nat)(w:World)(hA:zo w x A n c)(hn:n<=1099511627776):
  Calls prog 147 #[.agg #[.slice A n c]] w λe w'=>e=.returned (.int .i64 (bitLen x:Nat))/\Below w.heap.size w w':=by
 have d:=hA.len;by_cases h0:n=0
 ·subst h0;have hx:x=0:=dS d;subst hx;have HZ:=zd (λw=>fj A c w);clear d hA;go_enter func147,ntmps147;go_wp2_with fail;refine(HZ.o _).mono ?_;rintro e w1 ⟨rfl,hb⟩;have hB:=ze ((qY _ w).alloc (qX _) _) hb;clear hb;go_wp2;go_ret;exact⟨rfl,hB⟩
 ·obtain⟨m,rfl⟩:∃m,n=m+1:=⟨n - 1,za⟩;obtain⟨h1,h2,h3⟩:=fv d;have j:=xj x m;obtain⟨ad,rfl,g,hx⟩:=uj hA.1 (k:=m) za;rw [rC] at hx;have HZ:=zd (λw=>fA (some ad) (m+1) c za w);have WL:=(λw=>sK (wd x m:Nat) ⟨za,za⟩ w);have i:bitLen (wd x m)<=64:=kG _ 64 (by simpa using j);have e:vy ((wd x m:Nat):Int)=((bitLen (wd x m):Nat):Int):=by unfold vy;simp
  rw [e] at WL;obtain⟨a,ha⟩:∃a,wd x m=a:=⟨_,rfl⟩;rw [ha] at hx WL i h3;obtain⟨b,h⟩:∃b,bitLen a=b:=⟨_,rfl⟩;rw [h] at WL i h3;have HW:=zd WL;have H3:=zd h3;clear WL h3 h ha e j h1 h2 d h0 hA;go_enter func147,ntmps147;go_wp2_with fail;refine(HZ.o _).mono ?_;rintro e w1 ⟨rfl,hb⟩;have hB:=ze ((qY _ w).alloc (qX _) _) hb;have g1:w1.cell? ⟨w.heap.size,0,none⟩=some (.slice (some ad) (m+1) c):=zq hb ((zi.new w 56 #[.slice (some ad) (m+1) c]).cell 0);have g2:w1.cell? (ad.add m)=some (.int .u64 a):=(hB.cell (by rw [y9];exact g)).trans hx;clear hb hx;go_wp2_with fail;refine(HW.o _).mono ?_;rintro e w2 ⟨rfl,rfl⟩;go_wp2;go_ret;exact⟨by rw [H3.o];go_num,hB⟩
theorem qi (k:Nat):18446744073709551616^(k / 64)*2^(k%64)=2^k:=by
 rw [show(18446744073709551616:Nat)=2^64 from rfl,<-YV,<-xU,XZ]
theorem me {r:Nat}(h:r<=64):2^(64 - r)*2^r=18446744073709551616:=by
 rw [<-xU,Nat.sub_add_cancel h]
theorem tZ (h:b<2^i):2^i*a|||b=2^i*a+b:=(Nat.two_pow_add_eq_or_of_lt h a).symm
theorem Xz (h:b<2^i):b|||2^i*a=2^i*a+b:=by rw [Nat.or_comm];exact tZ h
theorem cJ (h:b<2^i)(hab:2^i*a+b<18446744073709551616):bits .or .u64 (b:Int) ((2^i*a:Nat):Int)=((2^i*a+b:Nat):Int):=by
 rw [bits_or_u64_nat _ _ za za,Xz h]
theorem cX (a r:Nat)(hr:r<=64):a*2^r%18446744073709551616=2^r*(a%2^(64 - r)):=by
 rw [<-me hr,qE (2^(64 - r)),qE a,Nat.mul_mod_mul_left]
theorem sJ (x k i:Nat):wd (x / 2^k) i=wd x (k / 64+i) / 2^(k%64)+2^(64 - k%64)*(wd x (k / 64+i+1)%2^(k%64)):=by
 have hr:k%64<=64:=za;have e1:x / 2^k / 18446744073709551616^i=x / 18446744073709551616^(k / 64+i) / 2^(k%64):=by
  rw [xM,xM,<-qi k,xU];congr 1;rw [qV,qV,qE (2^(k%64))]
 have e2:x / 18446744073709551616^(k / 64+i+1)=x / 18446744073709551616^(k / 64+i) / 18446744073709551616:=by
  rw [qT,<-xM]
 unfold wd;rw [e1,e2];generalize x / 18446744073709551616^(k / 64+i)=y;generalize k%64=r at*;have e3:y / 18446744073709551616%18446744073709551616%2^r=y / 18446744073709551616%2^r:=by
  refine Nat.mod_mod_of_dvd _ ?_;rw [<-me hr];exact Nat.dvd_mul_left _ _
 rw [e3];have e4:y=18446744073709551616*(y / 18446744073709551616)+y%18446744073709551616:=(XZ _ _).symm;generalize hq:y / 18446744073709551616=q at*;generalize hm:y%18446744073709551616=m at*;have a:m<18446744073709551616:=za;subst e4;rw [<-me hr] at a⊢;have e5:2^(64 - r)*2^r*q+m=m+2^r*(2^(64 - r)*q):=by rw [yR,qE (2^(64 - r)) (2^r),qV]
 rw [e5,Nat.add_mul_div_left _ _ (xY r)];have e6:m / 2^r<2^(64 - r):=(QK (xY r)).2 a;have e7:2^(64 - r)*q=2^(64 - r)*2^r*(q / 2^r)+2^(64 - r)*(q%2^r):=by
  rw [qV,<-qS,XZ]
 rw [e7,yR (2^(64 - r)*2^r*(q / 2^r)),<-xR,xT];refine qP ?_;have e8:q%2^r<2^r:=QN _ (xY r);have e9:2^(64 - r)*(q%2^r+1)<=2^(64 - r)*2^r:=QV _ e8;rw [qS] at e9;omega
def wG (y i:Nat):List Nat:=(List.range i).map (wd y)
theorem oo (y i:Nat):(wG y i).length=i:=by simp [wG]
theorem jL (y i:Nat):wG y (i+1)=wG y i++[wd y i]:=by simp [wG,YC]
theorem fT (y i:Nat):zC 18446744073709551616 (wG y i):=by
 intro d hd;obtain⟨j,_,rfl⟩:=List.mem_map.1 hd;exact xj y j
theorem eI (y:Nat):∀i,dv 18446744073709551616 (wG y i)=y%18446744073709551616^i
 |0=>by simp [wG,dv,xD]
 |i+1=>by rw [jL,wE,eI y i,oo,wO 18446744073709551616 y i];rfl
theorem fS (h:(dg 18446744073709551616 y).length<=i):dv 18446744073709551616 (wG y i)=y:=by
 rw [eI];exact qP (qJ (yy zh y) (qL zh h))
theorem ev (m:Nat):IntKind.u64.wrap (m:Int)=((m%18446744073709551616:Nat):Int):=by
 simp [IntKind.wrap,IntKind.bits,IntKind.signed]
theorem dJ {b r:Nat}(ha:a<18446744073709551616)(hr:r<64):
  bits .or .u64 ((a:Int) / 2^r) (IntKind.u64.wrap ((b:Int)*2^(64 - r)))=((a / 2^r+2^(64 - r)*(b%2^r):Nat):Int):=by
 have e1:(a:Int) / 2^r=((a / 2^r:Nat):Int):=zD;have e2:(b:Int)*2^(64 - r)=((b*2^(64 - r):Nat):Int):=zD;have e3:b*2^(64 - r)%18446744073709551616=2^(64 - r)*(b%2^r):=by
  rw [cX b (64 - r) za,show 64 - (64 - r)=r from by omega]
 rw [e1,e2,ev,e3];have h1:a / 2^r<2^(64 - r):=(QK (xY r)).2 (by rw [me za];exact ha);have h2:b%2^r<2^r:=QN _ (xY r);have h3:2^(64 - r)*(b%2^r+1)<=2^(64 - r)*2^r:=QV _ h2;rw [me za,qS] at h3;rw [cJ h1 za,yR]
structure pQ (x m k:Nat)(out:List Nat)(c:Nat):Prop where
 len:out.length=k
 dgs:zC 18446744073709551616 out
 carry:c<m
 sum:dv 18446744073709551616 out+18446744073709551616^k*c=x%18446744073709551616^k*m
theorem pQ.start (x m:Nat)(hm:0<m):pQ x m 0 [] 0:=⟨rfl,by intro d hd;simp at hd,hm,by simp [dv,xD]⟩
theorem pQ.step {s:Nat}{a:List Nat}(h:pQ x m k a c)(hs:s=wd x k*m+c):pQ x m (k+1) (a++[s%18446744073709551616]) (s / 18446744073709551616):=by
 have h1:=xj x k;have h3:=h.carry;have h4:(wd x k+1)*m<=18446744073709551616*m:=QJ m h1;rw [QD] at h4;refine⟨by simp [h.len],h.dgs.append (by intro d hd;simp at hd;subst hd;exact QN _ zh),(QK zh).2 (by rw [qE m];omega),?_⟩;have e:=h.sum;have e2:18446744073709551616^k*(s%18446744073709551616)+18446744073709551616^k*(18446744073709551616*(s / 18446744073709551616))=18446744073709551616^k*s:=by rw [<-qS,xS]
 have e3:18446744073709551616^k*s=18446744073709551616^k*wd x k*m+18446744073709551616^k*c:=by rw [hs,qS,qV]
 rw [wE,h.len,qT,qV (18446744073709551616^k) 18446744073709551616,<-qT,wO 18446744073709551616 x k,QD];unfold wd at e3;omega
theorem pQ.done {q:Nat}{a:List Nat}(h:pQ x m n a c)(hx:(dg 18446744073709551616 x).length<=n):dv 18446744073709551616 (List.replicate q 0++a++[c])=18446744073709551616^q*m*x:=by
 have e:=h.sum;have h1:x<18446744073709551616^n:=qJ (yy zh x) (qL zh hx);rw [qP h1] at e;rw [xQ,vM,mt,QB,wE,h.len,e,xG,qV,qE m]
theorem cW (a:Nat){r:Nat}(hr:r<64):∃hi lo:Nat,a / 2^(64 - r)=hi/\2^r*(a%2^(64 - r))=lo/\a*2^r=18446744073709551616*hi+lo/\lo+2^r<=18446744073709551616:=by
 refine⟨_,_,rfl,rfl,?_,?_⟩
 ·rw [<-me (r:=r) za,qV,qE (2^r) (a / 2^(64 - r)),<-qV,qE (2^r),<-QD,XZ]
 ·have h2:a%2^(64 - r)<2^(64 - r):=QN _ (xY _);have h3:2^r*(a%2^(64 - r)+1)<=2^r*2^(64 - r):=QV _ h2;rw [qE (2^r) (2^(64 - r)),me za,qS,xO] at h3;exact h3
theorem sy {a r:Nat}(hr:r<64)(hc:c<2^r):bits .or .u64 (c:Int) (IntKind.u64.wrap ((a:Int)*2^r))=(((a*2^r+c)%18446744073709551616:Nat):Int):=by
 have e2:(a:Int)*2^r=((a*2^r:Nat):Int):=zD;obtain⟨hi,lo,e3,e4,e5,e6⟩:=cW a hr;have e7:2^r*(a%2^(64 - r))+c<18446744073709551616:=by rw [e4];omega
 rw [e2,ev,cX a r za,cJ hc e7,e4,e5];generalize 2^r=p at*;omega
theorem Wt {a r:Nat}(hr:r<64)(hc:c<2^r):(a:Int) / 2^(64 - r)=(((a*2^r+c) / 18446744073709551616:Nat):Int):=by
 have e1:(a:Int) / 2^(64 - r)=((a / 2^(64 - r):Nat):Int):=zD;obtain⟨hi,lo,e3,e4,e5,e6⟩:=cW a hr;rw [e1,e3,e5];generalize 2^r=p at*;omega
theorem pw {α:Type}{P R:List α}{j:Nat}{c z a b:α}(h:P.length=j):((P++c::z::R).set j a).set (j+1) b=P++a::b::R:=by
 subst h;rw [yG _ _ (qX _),xI,qG,yG _ _ za];simp
theorem dN (n:Nat):zv .u64 (List.replicate (n+1) 0)=.int .u64 0::zv .u64 (List.replicate n 0):=by simp [zv,List.replicate_succ]
theorem cI (cs:Array Value)(l:List Nat)(w:World)(g n x:Nat)(hk:zi w g 141 cs)(hn:cs.size=n)(hv:cs.toList=zv .u64 l)(hd:zC 18446744073709551616 l)(hx:dv 18446744073709551616 l=x)(hs:n<=1000):
  Calls prog 89 #[.slice (some ⟨g,0,none⟩) n n] w (yq w x):=by
 have hl:l.length=n:=by
  have h:=congrArg List.length hv;rw [xn] at h;rw [<-h];simpa using hn
 have:=vr (some ⟨g,0,none⟩) n n l w (mj hk hn (by rw [hv,qU (by rw [xn];omega)]) hl) hd (qX _) za za;rw [hx] at this;exact this
theorem mT (a:Nat)(ha:a<18446744073709551616):zC 18446744073709551616 [a]:=by intro d hd;simp at hd;omega
theorem dL (w:World)(o:Obj):Below w.heap.size w (w.alloc o):=(qY _ w).alloc (qX _) o
theorem o0 {A:zf}{l:List Nat}(h:zo w x A n c)(hx:dg 18446744073709551616 x=l):n=l.length:=by rw [<-h.len,hx]
def Sz (K x:Nat):Prop:=x<18446744073709551616^K
theorem Sz.of_le (h:Sz K x)(hy:y<=x):Sz K y:=QS hy h
theorem Sz.up (h:Sz K x)(hk:K<=K'):Sz K' x:=qJ h (qL zh hk)
theorem Sz.add (h:Sz K x)(h':Sz K y):Sz (K+1) (x+y):=by
 unfold Sz at*;rw [qT];omega
theorem Sz.mul (h:Sz K x)(h':Sz K' y):Sz (K+K') (x*y):=by
 unfold Sz at*;rw [xU];exact yY h h'
theorem Sz.len (h:Sz K x):(dg 18446744073709551616 x).length<=K:=pG zh _ _ h
theorem Sz.words (h:Sz K x){w:World}{A:zf}{n c:Nat}(hw:zo w x A n c):n<=K:=by rw [<-hw.len];exact h.len
theorem nP (h:x=0){w:World}{A:zf}{n c:Nat}(hA:zo w x A n c):Calls prog 100 #[.agg #[.slice A n c]] w λe w'=>e=.returned (.bool true)/\Below w.heap.size w w':=by
 subst h;obtain rfl:n=0:=o0 hA (oC _);exact fj A c w
theorem oD (h:x≠0){w:World}{A:zf}{n c:Nat}(hA:zo w x A n c):Calls prog 100 #[.agg #[.slice A n c]] w λe w'=>e=.returned (.bool false)/\Below w.heap.size w w':=
 fA A n c (λh0=>h (dS (by rw [hA.len];exact h0))) w
theorem mS {x y:Nat}(h:x=y){w:World}{A D:zf}{n m c d:Nat}(hA:zo w x A n c)(hD:zo w y D m d)(hn:n<=1099511627776)(hm:m<=1099511627776):
  Calls prog 51 #[.agg #[.slice A n c],.agg #[.slice D m d]] w (wI w 0):=by
 have:=nS x y A D n m c d w hA hD hn hm;rwa [mz h] at this
