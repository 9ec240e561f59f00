/- What this claim leans on. -/
import Derived.Test.YtipmllfnpldbdaaGreatDoorYBunC
import Derived.ChangeArms
import Derived.ChangeOld
import Derived.Lib.SmallJoins
import Derived.OpenShut
import Derived.ProofKit
set_option linter.unusedVariables false
set_option linter.unusedSimpArgs false
namespace Go.Proofs.YtipmllfnpldbdaaGreatDoor
open Go Go.RowKit Go.Proofs.Tryz
set_option maxHeartbeats 16000000
variable {cs:Array Value}{d:List Int}{K K' a b c g i m x y:Nat}{t:TypeId}{v:Value}{w w' w1:World}
structure wm (x y k:Nat)(out:List Nat)(c:Nat):Prop where
 len:out.length=k
 dgs:zC 18446744073709551616 out
 carry:c<=1
 sum:x%18446744073709551616^k+y%18446744073709551616^k=dv 18446744073709551616 out+18446744073709551616^k*c
theorem wm.start (x y:Nat):wm x y 0 [] 0:=⟨rfl,by intro d hd;simp at hd,za,by simp [dv,xD]⟩
theorem wm.step {k s:Nat}{a:List Nat}(h:wm x y k a c)(hs:s=wd x k+wd y k+c):wm x y (k+1) (a++[s%18446744073709551616]) (s / 18446744073709551616):=by
 have h1:=xl x k;have h2:=xl y k;have h3:=h.carry;refine⟨by simp [h.len],h.dgs.append (by intro d hd;simp at hd;subst hd;exact QI _ zh),za,?_⟩;have e:=h.sum;unfold wd at hs;rw [wM 18446744073709551616 x k,wM 18446744073709551616 y k,wB,h.len,qN,qU,xR (dv 18446744073709551616 a),<-qS,xA,hs,qS,qS];omega
theorem wm.done {k:Nat}{a:List Nat}(h:wm x y (k+1) a c)(hx:(dg 18446744073709551616 x).length<=k)(hy:(dg 18446744073709551616 y).length<=k):dv 18446744073709551616 a=x+y:=by
 have e:=h.sum;have h1:x<18446744073709551616^k:=qJ (yx zh x) (qL zh hx);have h2:y<18446744073709551616^k:=qJ (yx zh y) (qL zh hy);rw [qN] at e;rw [qP za,qP za] at e;have h3:=h.carry;have h4:c=0\/c=1:=za;rcases h4 with rfl|rfl
 ·omega
 ·omega
theorem dC (hc:c<=1):vh (a:Int) (b:Int) (c:Int)=(((a+b+c)%18446744073709551616:Nat):Int):=by unfold vh;omega
theorem dB (hc:c<=1):vg (a:Int) (b:Int) (c:Int)=(((a+b+c) / 18446744073709551616:Nat):Int):=by unfold vg;omega
structure wu (x y k:Nat)(out:List Nat)(c:Nat):Prop where
 len:out.length=k
 dgs:zC 18446744073709551616 out
 lack:c<=1
 sum:dv 18446744073709551616 out+y%18446744073709551616^k=x%18446744073709551616^k+18446744073709551616^k*c
theorem wu.start (x y:Nat):wu x y 0 [] 0:=⟨rfl,by intro d hd;simp at hd,za,by simp [dv,xD]⟩
theorem wu.step {k d c':Nat}{a:List Nat}(h:wu x y k a c)(hd:d<18446744073709551616)(hc:c'<=1)(hs:d+wd y k+c=wd x k+18446744073709551616*c'):wu x y (k+1) (a++[d]) c':=by
 refine⟨by simp [h.len],h.dgs.append (by intro e he;simp at he;subst he;exact hd),hc,?_⟩;have e:=h.sum;have e2:18446744073709551616^k*d+18446744073709551616^k*(y / 18446744073709551616^k%18446744073709551616)+18446744073709551616^k*c=18446744073709551616^k*(x / 18446744073709551616^k%18446744073709551616)+18446744073709551616^k*(18446744073709551616*c'):=by
  unfold wd at hs;rw [<-qS,<-qS,hs,qS]
 rw [wM 18446744073709551616 x k,wM 18446744073709551616 y k,wB,h.len,qN,qU (18446744073709551616^k) 18446744073709551616 c'];omega
theorem wu.done {k:Nat}{a:List Nat}(h:wu x y k a c)(d:y<=x)(hx:(dg 18446744073709551616 x).length<=k):dv 18446744073709551616 a=x - y:=by
 have e:=h.sum;have h1:x<18446744073709551616^k:=qJ (yx zh x) (qL zh hx);have h3:=wh h.dgs;rw [h.len] at h3;rw [qP h1,qP (QA d h1)] at e;have h4:=h.lack;have:c=0\/c=1:=za;rcases this with rfl|rfl<;>omega
theorem gA (ha:a<18446744073709551616)(hb:b<18446744073709551616)(hc:c<=1):
  ∃d c':Nat,rm (a:Int) (b:Int) (c:Int)=(d:Int)/\rl (a:Int) (b:Int) (c:Int)=(c':Int)/\d<18446744073709551616/\c'<=1/\d+b+c=a+18446744073709551616*c':=by
 refine⟨((a:Int) - b - c).emod 18446744073709551616|>.toNat,if a<b+c then 1 else 0,?_,?_,?_,?_,?_⟩
 ·unfold rm;show((a:Int) - b - (c:Int)%2)%18446744073709551616=((((a:Int) - b - c)%18446744073709551616).toNat:Int);omega
 ·unfold rl;split<;>split<;>omega
 ·show(((a:Int) - b - c)%18446744073709551616).toNat<_;omega
 ·split<;>omega
 ·show(((a:Int) - b - c)%18446744073709551616).toNat+b+c=_;split<;>omega
theorem iR (cs:Array Value)(k:Nat)(u:Value)(h:k<cs.size):(cs.setIfInBounds k u).toList.take (k+1)=cs.toList.take k++[u]:=by
 rw [xV,QJ (by simpa using h)];simp [YS];exact List.set_eq_of_length_le (by simp;omega)
theorem lQ (K:IntKind)(l:List Nat)(d:Nat):zw K (l++[d])=zw K l++[.int K (d:Int)]:=by simp [zw]
theorem my {n:Nat}{l:List Nat}(h:zi w g t cs)(hn:cs.size=n)(hv:cs.toList.take n=zw .u64 l)(hl:l.length=n):zE w w.heap.size 1 (some ⟨g,0,none⟩) n (zw .u64 l):=by
 refine⟨by rw [xt];omega,λ_=>⟨_,rfl,h.lt,λj u hu=>?_⟩⟩;have e:(⟨g,0,none⟩:Addr).add j=⟨g,j,none⟩:=by unfold Addr.add;split<;>simp_all
 rw [e,h.cell j,<-QP];rw [qV (by simp;omega)] at hv;rw [hv];exact hu
theorem zj (hb:Below w.heap.size w w')(h:zi w g t cs):zi w' g t cs:=h.below hb h.lt
theorem zV {g0:Nat}{t0:TypeId}{cs0:Array Value}{g1:Nat}{t1:TypeId}{cs1:Array Value}(hb:Below w.heap.size w w')(h0:zi w g0 t0 cs0)(h1:zi w g1 t1 cs1):zi w' g0 t0 cs0/\zi w' g1 t1 cs1:=⟨zj hb h0,zj hb h1⟩
theorem zG (w:World)(t:TypeId)(a:Array Value):Below w.heap.size w (w.alloc (.cells a t))/\zi (w.alloc (.cells a t)) w.heap.size t a/\w.heap.size+1<=(w.alloc (.cells a t)).heap.size:=
 ⟨(qY _ w).alloc (qX _) _,zi.new w t a,zD⟩
theorem yb (w:World)(t s:TypeId)(a b:Array Value):Below w.heap.size w ((w.alloc (.cells a t)).alloc (.cells b s))/\zi ((w.alloc (.cells a t)).alloc (.cells b s)) w.heap.size t a/\zi ((w.alloc (.cells a t)).alloc (.cells b s)) (w.heap.size+1) s b/\w.heap.size+2<=((w.alloc (.cells a t)).alloc (.cells b s)).heap.size:=by
 obtain⟨h1,h2,h3⟩:=zG w t a;have h4:=zi.new (w.alloc (.cells a t)) s b;have e:(w.alloc (.cells a t)).heap.size=w.heap.size+1:=zD;rw [e] at h4;exact⟨h1.alloc h1.size _,h2.alloc _,h4,zD⟩
theorem yc (w:World)(t s r:TypeId)(a b c:Array Value):Below w.heap.size w (((w.alloc (.cells a t)).alloc (.cells b s)).alloc (.cells c r))/\zi (((w.alloc (.cells a t)).alloc (.cells b s)).alloc (.cells c r)) w.heap.size t a/\zi (((w.alloc (.cells a t)).alloc (.cells b s)).alloc (.cells c r)) (w.heap.size+1) s b/\zi (((w.alloc (.cells a t)).alloc (.cells b s)).alloc (.cells c r)) (w.heap.size+1+1) r c/\w.heap.size+3<=(((w.alloc (.cells a t)).alloc (.cells b s)).alloc (.cells c r)).heap.size:=by
 obtain⟨h1,h2,h3,h4⟩:=yb w t s a b;have h5:=zi.new ((w.alloc (.cells a t)).alloc (.cells b s)) r c;have e:((w.alloc (.cells a t)).alloc (.cells b s)).heap.size=w.heap.size+2:=zD;rw [e] at h5;exact⟨h1.alloc h1.size _,h2.alloc _,h3.alloc _,h5,zD⟩
theorem yo {p:Addr}(o:Obj)(h:w1.cell? p=some v):(w1.alloc o).cell? p=some v:=(World.cell?_alloc_lt w1 o p (qT w1 p h)).trans h
theorem ym (o:Obj)(h:Below w.heap.size w w1):Below w.heap.size w (w1.alloc o):=h.alloc h.size o
theorem zS {p q:Addr}(u:Value)(hp:p.block≠q.block)(h:w1.cell? p=some v):(w1.setCell q u).cell? p=some v:=(yL w1 q p u (λe=>hp (by first|rw [e]|rw [<-e]))).trans h
theorem zH {p:Addr}(u:Value)(hp:w.heap.size<=p.block)(h:Below w.heap.size w w1):Below w.heap.size w (w1.setCell p u):=h.setCell hp u
theorem jb {wr:World}{gs p:Nat}{A1:zf}{c1:Nat}(hB:Below w.heap.size w wr)(hp:w.heap.size<=p)(hg:p≠gs)(hr:zE wr wr.heap.size 1 A1 (dg 18446744073709551616 x).length (zw .u64 (dg 18446744073709551616 x)))(h1:(dg 18446744073709551616 x).length<=c1)(h2:c1<=9223372036854775807)
  (hA:A1=some ⟨gs,0,none⟩\/A1=none) (a:w.heap.size<=gs) (u:Value):Below w.heap.size w (wr.setCell ⟨p,0,none⟩ u)/\zp (wr.setCell ⟨p,0,none⟩ u) x A1 (dg 18446744073709551616 x).length c1/\uk w A1:=
 ⟨hB.setCell hp u,oF ⟨hr,h1,h2⟩ (λad e=>by
  rcases hA with h|h
  ·rw [h] at e;injection e with e;subst e;exact λe2=>hg e2.symm
  ·rw [h] at e;cases e) u,λad e=>by
  rcases hA with h|h
  ·rw [h] at e;injection e with e;subst e;exact a
  ·rw [h] at e;cases e⟩
theorem lV {a:Value}(h:zi w g t #[a])(u:Value):zi (w.setCell ⟨g,0,none⟩ u) g t #[u]:=h.set_ 0 u
def yg (w:World)(g:Nat)(v:Value):Prop:=∃t,zi w g t #[v]
theorem zi.one {t:TypeId}(h:zi w g t #[v]):yg w g v:=⟨t,h⟩
theorem yg.cell {w:World}{g:Nat}{v:Value}(h:yg w g v):w.cell? ⟨g,0,none⟩=some v:=by obtain⟨t,h⟩:=h;exact h.cell 0
theorem yg.frozen (h:yg w g v):w.frozen? ⟨g,0,none⟩=false:=by obtain⟨t,h⟩:=h;exact h.frozen 0
theorem yg.new (w:World)(t:TypeId)(v:Value):yg (w.alloc (.cells #[v] t)) w.heap.size v:=⟨t,zi.new w t _⟩
theorem yg.alloc (h:yg w g v)(o:Obj):yg (w.alloc o) g v:=by obtain⟨t,h⟩:=h;exact⟨t,h.alloc o⟩
theorem yg.drew (h:yg w g v):yg w.drew g v:=h
theorem yg.set_ (h:yg w g v)(u:Value):yg (w.setCell ⟨g,0,none⟩ u) g u:=by obtain⟨t,h⟩:=h;exact⟨t,lV h u⟩
theorem yg.far (h:yg w g v){p:Addr}(hp:g≠p.block)(u:Value):yg (w.setCell p u) g v:=by obtain⟨t,h⟩:=h;exact⟨t,h.far hp u⟩
theorem yg.keep {w':World}(h:yg w g v)(hb:Below w.heap.size w w'):yg w' g v:=by obtain⟨t,h⟩:=h;exact⟨t,zj hb h⟩
theorem yg.lt (h:yg w g v):g<w.heap.size:=by obtain⟨t,h⟩:=h;exact h.lt
def mM (w:World)(x:Nat)(b:Bool)(e:Ending)(w':World):Prop:=∃(A:zf) (n c:Nat),e=.returned (.tuple #[.agg #[.slice A n c],.bool b])/\zp w' x A n c/\Below w.heap.size w w'/\uk w A
theorem iy (w:World):zp w 0 none 0 0:=⟨zE.none_,qX _,za⟩
theorem qe (h:y<=x):0<=yt x y:=by
 unfold yt;rw [if_neg za]
 split<;>omega
def vM:Nat->Nat->List Int
 |0,_=>[]
 |n+1,x=>((x%2:Nat):Int)::vM n (x / 2)
def bv:List Int->Int
 |[]=>0
 |b::l=>b+2*bv l
def wn (b:Int):Prop:=0<=b/\b<=1
def uH (l:List Int):Prop:=∀b ∈ l,wn b
theorem fJ:∀n x,(vM n x).length=n
 |0,_=>rfl
 |n+1,x=>by simp [vM,fJ n]
theorem eX:∀n x,uH (vM n x)
 |0,_=>by intro b hb;simp [vM] at hb
 |n+1,x=>by
   intro b hb;simp only [vM,List.mem_cons] at hb;rcases hb with rfl|hb
   ·unfold wn;omega
   ·exact eX n _ b hb
theorem cW:∀n x,bv (vM n x)=((x%2^n:Nat):Int)
 |0,x=>by simp [vM,bv,xD]
 |n+1,x=>by
   rw [vM,bv,cW n (x / 2)];have h:x%2^(n+1)=x%2+2*(x / 2%2^n):=by
    rw [qN,qE (2^n) 2,Nat.mod_mul]
   omega
theorem kU:∀(l m:List Int),bv (l++m)=bv l+2^l.length*bv m
 |[],m=>by simp [bv]
 |b::l,m=>by
   rw [yZ,bv,bv,kU l m,xY,Int.pow_succ,Int.mul_add,XG (2^l.length) 2,Int.mul_assoc];omega
theorem vG:∀{l:List Int},uH l->0<=bv l/\bv l<2^l.length
 |[],_=>by simp [bv]
 |b::l,h=>by
   have h1:=h b zD;have h2:=vG (l:=l) (λc hc=>h c (by simp [hc]));unfold wn at h1;rw [bv,xY,Int.pow_succ];omega
theorem gJ:∀{l:List Int},uH l->l=vM l.length (bv l).toNat
 |[],_=>rfl
 |b::l,h=>by
   have h1:=h b zD;have h0:uH l:=λc hc=>h c (by simp [hc]);have h2:=vG h0;have e:=gJ h0;unfold wn at h1;rw [xY,vM,bv];have e1:(b+2*bv l).toNat%2=b.toNat:=za;have e2:(b+2*bv l).toNat / 2=(bv l).toNat:=za;rw [e1,e2,<-e];congr 1;omega
theorem Vn (n x:Nat):vM n (x%2^n)=vM n x:=by
 have h:=gJ (eX n x);rw [fJ,cW,Int.toNat_natCast] at h;exact h.symm
theorem fU {l m:List Int}(hl:uH l)(hm:uH m):uH (l++m):=by
 intro b hb;rcases List.mem_append.1 hb with h|h
 ·exact hl b h
 ·exact hm b h
theorem fK (l:List Int)(k:Nat):bv (l.take (k+1))=bv (l.take k)+2^k*l.getD k 0:=by
 by_cases h:k<l.length
 ·rw [QJ h,kU,QY,QO za];simp [bv,List.getD,qZ h]
 ·rw [qV za,qV za,qQ,xP za];simp
theorem bA {l:List Int}(h:uH l)(k:Nat):wn (l.getD k 0):=by
 by_cases hk:k<l.length
 ·exact h _ (by rw [qQ,qZ hk];exact xM hk)
 ·rw [qQ,xP za];unfold wn;simp
structure mo (a b:List Int)(k:Nat)(out:List Int)(c:Int):Prop where
 len:out.length=k
 bits:uH out
 carry:wn c
 sum:bv (a.take k)+bv (b.take k)=bv out+2^k*c
theorem mo.start (a b:List Int):mo a b 0 [] 0:=⟨rfl,by intro x hx;simp at hx,by unfold wn;omega,by simp [bv]⟩
theorem mo.step {a b d:List Int}{k:Nat}{c s:Int}(h:mo a b k d c)(ha:uH a)(hb:uH b)(hs:s=c+a.getD k 0+b.getD k 0):mo a b (k+1) (d++[s%2]) (s / 2):=by
 have h1:=bA ha k;have h2:=bA hb k;have h3:=h.carry;unfold wn at h1 h2 h3;refine⟨by simp [h.len],fU h.bits (by intro x hx;simp at hx;subst hx;unfold wn;omega),by unfold wn;omega,?_⟩;have e:=h.sum;rw [fK,fK,kU,h.len];simp only [bv,Int.mul_zero,Int.add_zero];have e2:(2:Int)^(k+1)*(s / 2)=2^k*(2*(s / 2)):=by rw [Int.pow_succ,Int.mul_assoc]
 have e3:(2:Int)^k*(s%2)+2^k*(2*(s / 2))=2^k*s:=by rw [<-Int.mul_add];congr 1;omega
 have e4:(2:Int)^k*s=2^k*c+2^k*a.getD k 0+2^k*b.getD k 0:=by rw [hs,Int.mul_add,Int.mul_add]
 omega
theorem mo.done {a b:List Int}{k:Nat}{c:Int}(h:mo a b k d c)(ha:a.length<=k)(hb:b.length<=k):d=vM k (bv a+bv b).toNat:=by
 have e:=h.sum;rw [qV ha,qV hb] at e;have h1:=gJ h.bits;have h2:=vG h.bits;have h3:=h.carry;rw [h.len] at h1 h2;have hp:(2:Int)^k=((2^k:Nat):Int):=by rw [XO];rfl
 rw [h1,<-Vn k (bv a+bv b).toNat];congr 1;rw [e];obtain⟨c0,c1⟩:=h3;obtain⟨o,ho⟩:=QT h2.1;obtain⟨c,rfl⟩:=QT c0;rw [hp,ho] at h2;rw [ho,hp,<-QV,<-Int.natCast_add,Int.toNat_natCast,Int.toNat_natCast,XQ];exact(qP za).symm
theorem bM (y k:Nat):y%2^(k+1)=y%2^k+2^k*(y / 2^k%2):=by rw [qN,Nat.mod_mul]
structure mj (x y c k:Nat)(out:List Int)(b:Int):Prop where
 len:out.length=k
 bits:uH out
 lack:wn b
 sum:bv out - 2^k*b=((x%2^k:Nat):Int) - ((y%2^k:Nat):Int) - (if k=0 then 0 else(c:Int)%2)
 first:k=0->b=0
theorem mj.start (x y c:Nat):mj x y c 0 [] 0:=⟨rfl,by intro b hb;simp at hb,by unfold wn;omega,by simp [bv,xD],λ_=>rfl⟩
def mW (x y c k:Nat)(b:Int):Int:=((x / 2^k%2:Nat):Int) - ((y / 2^k%2:Nat):Int) - b - (if k=0 then(c:Int)%2 else 0)
theorem tM {x y c k:Nat}{b:Int}(hb:wn b)(h0:k=0->b=0): -2<=mW x y c k b/\mW x y c k b<=1:=by
 unfold wn at hb;unfold mW
 split
 ·rename_i h;have:=h0 h;omega
 ·omega
theorem mj.step {k:Nat}{g:List Int}{b d b':Int}(h:mj x y c k g b)(hd:d=mW x y c k b+2*b')(a:b'=if mW x y c k b<0 then 1 else 0):mj x y c (k+1) (g++[d]) b':=by
 have hbd:=tM (x:=x) (y:=y) (c:=c) h.lack h.first;have hB:wn b':=by unfold wn;split at a<;>omega
 refine⟨by simp [h.len],fU h.bits (by intro z hz;simp at hz;subst hz;unfold wn;split at a<;>omega),hB,?_,za⟩;have e:=h.sum;rw [kU,h.len,bM x k,bM y k];simp only [bv,Int.mul_zero,Int.add_zero,if_neg (Nat.succ_ne_zero k)];have hD:(if k=0 then(0:Int) else(c:Int)%2)+(if k=0 then(c:Int)%2 else 0)=(c:Int)%2:=by split<;>omega
 have i:2^k*(if k=0 then(c:Int)%2 else 0)=(if k=0 then(c:Int)%2 else 0):=by
  split
  ·rename_i h;subst h;simp
  ·simp
 have e1:(2:Int)^k*d=2^k*((x / 2^k%2:Nat):Int) - 2^k*((y / 2^k%2:Nat):Int) - 2^k*b - 2^k*(if k=0 then(c:Int)%2 else 0)+2^k*(2*b'):=by
  rw [hd];unfold mW;rw [Int.mul_add,Int.mul_sub,Int.mul_sub,Int.mul_sub]
 have e2:(2:Int)^(k+1)*b'=2^k*(2*b'):=by rw [Int.pow_succ,Int.mul_assoc]
 have e3:((x%2^k+2^k*(x / 2^k%2):Nat):Int)=((x%2^k:Nat):Int)+2^k*((x / 2^k%2:Nat):Int):=by rw [Int.natCast_add,QV,XO];rfl
 have e4:((y%2^k+2^k*(y / 2^k%2):Nat):Int)=((y%2^k:Nat):Int)+2^k*((y / 2^k%2:Nat):Int):=by rw [Int.natCast_add,QV,XO];rfl
 rw [e3,e4];rw [i] at e1;omega
theorem mj.done {b:Int}(h:mj x y c 64 d b)(hx:x<18446744073709551616)(hy:y<18446744073709551616):bv d=rm x y c/\b=rl x y c:=by
 have e:=h.sum;have a:=vG h.bits;have hl:=h.lack;rw [h.len] at a;rw [show x%2^64=x from qP za,show y%2^64=y from qP za] at e;simp only [show(2:Int)^64=18446744073709551616 from by decide,show ¬(64:Nat)=0 from by decide,if_false] at e a;unfold wn at hl;unfold rm rl;refine⟨za,?_⟩
 split<;>omega
set_option maxRecDepth 100000
theorem fT {n:Nat}(hx:(dg 18446744073709551616 x).length=n+1):wd x n=x / 18446744073709551616^n/\0<wd x n/\bitLen x=64*n+bitLen (wd x n):=by
 have a:x≠0:=by rintro rfl;simp [oK] at hx
 have h1:=yx (b:=18446744073709551616) zh x;have h2:=(vH (b:=18446744073709551616) zh x a).2;rw [hx] at h1 h2;have h3:x / 18446744073709551616^n<18446744073709551616:=(QU (XM zh)).2 (by rw [qE,<-qN];exact h1);have h4:0<x / 18446744073709551616^n:=Nat.div_pos (by simpa using h2) (XM zh);have h5:wd x n=x / 18446744073709551616^n:=qP h3;refine⟨h5,za,?_⟩;rw [h5];have e:(18446744073709551616:Nat)^n=2^(64*n):=by rw [show(18446744073709551616:Nat)=2^64 from rfl,<-YG]
 rw [e] at h4⊢;exact bitLen_shift x (64*n) za
theorem fM (A:zf)(c:Nat)(w:World):Calls prog 100 #[.agg #[.slice A 0 c]] w λe w'=>e=.returned (.bool true)/\Below w.heap.size w w':=bO A 0 c w
theorem fW (A:zf)(n c:Nat)(hn:n≠0)(w:World):Calls prog 100 #[.agg #[.slice A n c]] w λe w'=>e=.returned (.bool false)/\Below w.heap.size w w':=by
 have:=bO A n c w;rw [decide_eq_false hn] at this;exact this
theorem bD (h:(dg 18446744073709551616 x).length=0):x=0:=by
 have h1:=yx (b:=18446744073709551616) zh x;rw [h] at h1;omega
theorem bN (x:Nat)(A:zf)(n c:Nat)(w:World)(hA:zp w x A n c)(hn:n<=1099511627776):
  Calls prog 147 #[.agg #[.slice A n c]] w λe w'=>e=.returned (.int .i64 (bitLen x:Nat))/\Below w.heap.size w w':=by
 have d:=hA.len;by_cases h0:n=0
 ·subst h0;have hx:x=0:=bD d;subst hx;have HZ:=zd (λw=>fM A c w);clear d hA;go_enter func147,ntmps147;go_wp2_with fail;refine(HZ.o _).mono ?_;rintro e w1 ⟨rfl,hb⟩;have hB:=ze ((qY _ w).alloc (qX _) _) hb;clear hb;go_wp2;go_ret;exact⟨rfl,hB⟩
 ·obtain⟨m,rfl⟩:∃m,n=m+1:=⟨n - 1,za⟩;obtain⟨h1,h2,h3⟩:=fT d;have j:=xl x m;obtain⟨ad,rfl,g,hx⟩:=ug hA.1 (k:=m) za;rw [rM] at hx;have HZ:=zd (λw=>fW (some ad) (m+1) c za w);have WL:=(λw=>sV (wd x m:Nat) ⟨za,za⟩ w);have i:bitLen (wd x m)<=64:=kT _ 64 (by simpa using j);have e:vw ((wd x m:Nat):Int)=((bitLen (wd x m):Nat):Int):=by unfold vw;simp
  rw [e] at WL;obtain⟨a,ha⟩:∃a,wd x m=a:=⟨_,rfl⟩;rw [ha] at hx WL i h3;obtain⟨b,h⟩:∃b,bitLen a=b:=⟨_,rfl⟩;rw [h] at WL i h3;have HW:=zd WL;have H3:=zd h3;clear WL h3 h ha e j h1 h2 d h0 hA;go_enter func147,ntmps147;go_wp2_with fail;refine(HZ.o _).mono ?_;rintro e w1 ⟨rfl,hb⟩;have hB:=ze ((qY _ w).alloc (qX _) _) hb;have g1:w1.cell? ⟨w.heap.size,0,none⟩=some (.slice (some ad) (m+1) c):=zq hb ((zi.new w 56 #[.slice (some ad) (m+1) c]).cell 0);have g2:w1.cell? (ad.add m)=some (.int .u64 a):=(hB.cell (by rw [y9];exact g)).trans hx;clear hb hx;go_wp2_with fail;refine(HW.o _).mono ?_;rintro e w2 ⟨rfl,rfl⟩;go_wp2;go_ret;exact⟨by rw [H3.o];go_num,hB⟩
theorem qs (k:Nat):18446744073709551616^(k / 64)*2^(k%64)=2^k:=by
 rw [show(18446744073709551616:Nat)=2^64 from rfl,<-YG,<-xU,XJ]
theorem mr {r:Nat}(h:r<=64):2^(64 - r)*2^r=18446744073709551616:=by
 rw [<-xU,Nat.sub_add_cancel h]
theorem sm (h:b<2^i):2^i*a|||b=2^i*a+b:=(Nat.two_pow_add_eq_or_of_lt h a).symm
theorem Vw (h:b<2^i):b|||2^i*a=2^i*a+b:=by rw [Nat.or_comm];exact sm h
theorem Zn (h:b<2^i)(hab:2^i*a+b<18446744073709551616):bits .or .u64 (b:Int) ((2^i*a:Nat):Int)=((2^i*a+b:Nat):Int):=by
 rw [bits_or_u64_nat _ _ za za,Vw h]
theorem aN (a r:Nat)(hr:r<=64):a*2^r%18446744073709551616=2^r*(a%2^(64 - r)):=by
 rw [<-mr hr,qE (2^(64 - r)),qE a,Nat.mul_mod_mul_left]
theorem sU (x k i:Nat):wd (x / 2^k) i=wd x (k / 64+i) / 2^(k%64)+2^(64 - k%64)*(wd x (k / 64+i+1)%2^(k%64)):=by
 have hr:k%64<=64:=za;have e1:x / 2^k / 18446744073709551616^i=x / 18446744073709551616^(k / 64+i) / 2^(k%64):=by
  rw [xN,xN,<-qs k,xU];congr 1;rw [qU,qU,qE (2^(k%64))]
 have e2:x / 18446744073709551616^(k / 64+i+1)=x / 18446744073709551616^(k / 64+i) / 18446744073709551616:=by
  rw [qN,<-xN]
 unfold wd;rw [e1,e2];generalize x / 18446744073709551616^(k / 64+i)=y;generalize k%64=r at*;have e3:y / 18446744073709551616%18446744073709551616%2^r=y / 18446744073709551616%2^r:=by
  refine Nat.mod_mod_of_dvd _ ?_;rw [<-mr hr];exact Nat.dvd_mul_left _ _
 rw [e3];have e4:y=18446744073709551616*(y / 18446744073709551616)+y%18446744073709551616:=(XJ _ _).symm;generalize hq:y / 18446744073709551616=q at*;generalize hm:y%18446744073709551616=m at*;have a:m<18446744073709551616:=za;subst e4;rw [<-mr hr] at a⊢;have e5:2^(64 - r)*2^r*q+m=m+2^r*(2^(64 - r)*q):=by rw [yA,qE (2^(64 - r)) (2^r),qU]
 rw [e5,Nat.add_mul_div_left _ _ (xZ r)];have e6:m / 2^r<2^(64 - r):=(QU (xZ r)).2 a;have e7:2^(64 - r)*q=2^(64 - r)*2^r*(q / 2^r)+2^(64 - r)*(q%2^r):=by
  rw [qU,<-qS,XJ]
 rw [e7,yA (2^(64 - r)*2^r*(q / 2^r)),<-xR,XQ];refine qP ?_;have e8:q%2^r<2^r:=QI _ (xZ r);have e9:2^(64 - r)*(q%2^r+1)<=2^(64 - r)*2^r:=QG _ e8;rw [qS] at e9;omega
def wE (y i:Nat):List Nat:=(List.range i).map (wd y)
theorem oC (y i:Nat):(wE y i).length=i:=by simp [wE]
theorem ip (y i:Nat):wE y (i+1)=wE y i++[wd y i]:=by simp [wE,YM]
theorem ez (y i:Nat):zC 18446744073709551616 (wE y i):=by
 intro d hd;obtain⟨j,_,rfl⟩:=List.mem_map.1 hd;exact xl y j
theorem dM (y:Nat):∀i,dv 18446744073709551616 (wE y i)=y%18446744073709551616^i
 |0=>by simp [wE,dv,xD]
 |i+1=>by rw [ip,wB,dM y i,oC,wM 18446744073709551616 y i];rfl
theorem ew (h:(dg 18446744073709551616 y).length<=i):dv 18446744073709551616 (wE y i)=y:=by
 rw [dM];exact qP (qJ (yx zh y) (qL zh h))
theorem cV (m:Nat):IntKind.u64.wrap (m:Int)=((m%18446744073709551616:Nat):Int):=by
 simp [IntKind.wrap,IntKind.bits,IntKind.signed]
theorem bW {b r:Nat}(ha:a<18446744073709551616)(hr:r<64):
  bits .or .u64 ((a:Int) / 2^r) (IntKind.u64.wrap ((b:Int)*2^(64 - r)))=((a / 2^r+2^(64 - r)*(b%2^r):Nat):Int):=by
 have e1:(a:Int) / 2^r=((a / 2^r:Nat):Int):=zD;have e2:(b:Int)*2^(64 - r)=((b*2^(64 - r):Nat):Int):=zD;have e3:b*2^(64 - r)%18446744073709551616=2^(64 - r)*(b%2^r):=by
  rw [aN b (64 - r) za,show 64 - (64 - r)=r from by omega]
 rw [e1,e2,cV,e3];have h1:a / 2^r<2^(64 - r):=(QU (xZ r)).2 (by rw [mr za];exact ha);have h2:b%2^r<2^r:=QI _ (xZ r);have h3:2^(64 - r)*(b%2^r+1)<=2^(64 - r)*2^r:=QG _ h2;rw [mr za,qS] at h3;rw [Zn h1 za,yA]
structure p7 (x m k:Nat)(out:List Nat)(c:Nat):Prop where
 len:out.length=k
 dgs:zC 18446744073709551616 out
 carry:c<m
 sum:dv 18446744073709551616 out+18446744073709551616^k*c=x%18446744073709551616^k*m
theorem p7.start (x m:Nat)(hm:0<m):p7 x m 0 [] 0:=⟨rfl,by intro d hd;simp at hd,hm,by simp [dv,xD]⟩
theorem p7.step {k s:Nat}{a:List Nat}(h:p7 x m k a c)(hs:s=wd x k*m+c):p7 x m (k+1) (a++[s%18446744073709551616]) (s / 18446744073709551616):=by
 have h1:=xl x k;have h3:=h.carry;have h4:(wd x k+1)*m<=18446744073709551616*m:=QK m h1;rw [QH] at h4;refine⟨by simp [h.len],h.dgs.append (by intro d hd;simp at hd;subst hd;exact QI _ zh),(QU zh).2 (by rw [qE m];omega),?_⟩;have e:=h.sum;have e2:18446744073709551616^k*(s%18446744073709551616)+18446744073709551616^k*(18446744073709551616*(s / 18446744073709551616))=18446744073709551616^k*s:=by rw [<-qS,xA]
 have e3:18446744073709551616^k*s=18446744073709551616^k*wd x k*m+18446744073709551616^k*c:=by rw [hs,qS,qU]
 rw [wB,h.len,qN,qU (18446744073709551616^k) 18446744073709551616,<-qN,wM 18446744073709551616 x k,QH];unfold wd at e3;omega
theorem p7.done {n q:Nat}{a:List Nat}(h:p7 x m n a c)(hx:(dg 18446744073709551616 x).length<=n):dv 18446744073709551616 (List.replicate q 0++a++[c])=18446744073709551616^q*m*x:=by
 have e:=h.sum;have h1:x<18446744073709551616^n:=qJ (yx zh x) (qL zh hx);rw [qP h1] at e;rw [xX,vJ,mH,QE,wB,h.len,e,xG,qU,qE m]
theorem aM (a:Nat){r:Nat}(hr:r<64):∃hi lo:Nat,a / 2^(64 - r)=hi/\2^r*(a%2^(64 - r))=lo/\a*2^r=18446744073709551616*hi+lo/\lo+2^r<=18446744073709551616:=by
 refine⟨_,_,rfl,rfl,?_,?_⟩
 ·rw [<-mr (r:=r) za,qU,qE (2^r) (a / 2^(64 - r)),<-qU,qE (2^r),<-QH,XJ]
 ·have h2:a%2^(64 - r)<2^(64 - r):=QI _ (xZ _);have h3:2^r*(a%2^(64 - r)+1)<=2^r*2^(64 - r):=QG _ h2;rw [qE (2^r) (2^(64 - r)),mr za,qS,xO] at h3;exact h3
theorem sI {a r:Nat}(hr:r<64)(hc:c<2^r):bits .or .u64 (c:Int) (IntKind.u64.wrap ((a:Int)*2^r))=(((a*2^r+c)%18446744073709551616:Nat):Int):=by
 have e2:(a:Int)*2^r=((a*2^r:Nat):Int):=zD;obtain⟨hi,lo,e3,e4,e5,e6⟩:=aM a hr;have e7:2^r*(a%2^(64 - r))+c<18446744073709551616:=by rw [e4];omega
 rw [e2,cV,aN a r za,Zn hc e7,e4,e5];generalize 2^r=p at*;omega
theorem VT {a r:Nat}(hr:r<64)(hc:c<2^r):(a:Int) / 2^(64 - r)=(((a*2^r+c) / 18446744073709551616:Nat):Int):=by
 have e1:(a:Int) / 2^(64 - r)=((a / 2^(64 - r):Nat):Int):=zD;obtain⟨hi,lo,e3,e4,e5,e6⟩:=aM a hr;rw [e1,e3,e5];generalize 2^r=p at*;omega
theorem pK {α:Type}{P R:List α}{j:Nat}{c z a b:α}(h:P.length=j):((P++c::z::R).set j a).set (j+1) b=P++a::b::R:=by
 subst h;rw [yH _ _ (qX _),xW,qG,yH _ _ za];simp
theorem aB (n:Nat):zw .u64 (List.replicate (n+1) 0)=.int .u64 0::zw .u64 (List.replicate n 0):=by simp [zw,List.replicate_succ]
theorem Zm (cs:Array Value)(l:List Nat)(w:World)(g n x:Nat)(hk:zi w g 141 cs)(hn:cs.size=n)(hv:cs.toList=zw .u64 l)(hd:zC 18446744073709551616 l)(hx:dv 18446744073709551616 l=x)(hs:n<=1000):
  Calls prog 89 #[.slice (some ⟨g,0,none⟩) n n] w (yq w x):=by
 have hl:l.length=n:=by
  have h:=congrArg List.length hv;rw [xt] at h;rw [<-h];simpa using hn
 have:=vr (some ⟨g,0,none⟩) n n l w (my hk hn (by rw [hv,qV (by rw [xt];omega)]) hl) hd (qX _) za za;rw [hx] at this;exact this
theorem lk (a:Nat)(ha:a<18446744073709551616):zC 18446744073709551616 [a]:=by intro d hd;simp at hd;omega
theorem bZ (w:World)(o:Obj):Below w.heap.size w (w.alloc o):=(qY _ w).alloc (qX _) o
theorem nj {A:zf}{n:Nat}{l:List Nat}(h:zp w x A n c)(hx:dg 18446744073709551616 x=l):n=l.length:=by rw [<-h.len,hx]
def Sz (K x:Nat):Prop:=x<18446744073709551616^K
theorem Sz.of_le (h:Sz K x)(hy:y<=x):Sz K y:=QA hy h
theorem Sz.up (h:Sz K x)(hk:K<=K'):Sz K' x:=qJ h (qL zh hk)
theorem Sz.add (h:Sz K x)(h':Sz K y):Sz (K+1) (x+y):=by
 unfold Sz at*;rw [qN];omega
theorem Sz.mul (h:Sz K x)(h':Sz K' y):Sz (K+K') (x*y):=by
 unfold Sz at*;rw [xU];exact yJ h h'
theorem Sz.len (h:Sz K x):(dg 18446744073709551616 x).length<=K:=pR zh _ _ h
theorem Sz.words (h:Sz K x){w:World}{A:zf}{n c:Nat}(hw:zp w x A n c):n<=K:=by rw [<-hw.len];exact h.len
theorem me (h:x=0){w:World}{A:zf}{n c:Nat}(hA:zp w x A n c):Calls prog 100 #[.agg #[.slice A n c]] w λe w'=>e=.returned (.bool true)/\Below w.heap.size w w':=by
 subst h;obtain rfl:n=0:=nj hA (oK _);exact fM A c w
theorem oL (h:x≠0){w:World}{A:zf}{n c:Nat}(hA:zp w x A n c):Calls prog 100 #[.agg #[.slice A n c]] w λe w'=>e=.returned (.bool false)/\Below w.heap.size w w':=
 fW A n c (λh0=>h (bD (by rw [hA.len];exact h0))) w
theorem lj {x y:Nat}(h:x=y){w:World}{A D:zf}{n m c d:Nat}(hA:zp w x A n c)(hD:zp w y D m d)(hn:n<=1099511627776)(hm:m<=1099511627776):
  Calls prog 51 #[.agg #[.slice A n c],.agg #[.slice D m d]] w (wF w 0):=by
 have:=nX x y A D n m c d w hA hD hn hm;rwa [mN h] at this
